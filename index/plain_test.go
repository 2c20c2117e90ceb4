package index_test

import (
	"bailiff/api"
	"bailiff/target"
)

// What must come of it, by the words of the chapter

// keys are the matches of an AllOf that may be a Key, in order.
func keys(allOf []api.Match) []api.Match {
	var l []api.Match
	for _, m := range allOf {
		if m.Op == 1 && m.Attr.Must == false {
			l = append(l, m)
		}
	}
	return l
}

// keyByTheWords goes from the last AnyOf to the first, so that the first has the last word.
func keyByTheWords(t api.Target) (api.Match, bool) {
	var m api.Match
	found := false
	for i := len(t) - 1; i >= 0; i-- {
		if len(t[i]) == 1 && len(keys(t[i][0])) > 0 {
			m, found = keys(t[i][0])[0], true
		}
	}
	return m, found
}

// pickByTheWords also tells which ones aren't picked.
func pickByTheWords(kids []api.Policy, g []api.Given) (in, out []int) {
	for i, kid := range kids {
		m, found := keyByTheWords(kid.Target)
		switch {
		case !found, target.Match(m, g) == 1, target.Match(m, g) == 2:
			in = append(in, i)
		default:
			out = append(out, i)
		}
	}
	return in, out
}

// thinned has its picked kids alone, at every depth.
func thinned(p api.Policy, g []api.Given) api.Policy {
	in, _ := pickByTheWords(p.Kids, g)
	var kids []api.Policy
	for _, i := range in {
		kids = append(kids, thinned(p.Kids[i], g))
	}
	p.Kids = kids
	return p
}

// leftOut are the kids at every depth that aren't picked, those within them left out, too.
func leftOut(p api.Policy, g []api.Given) []api.Policy {
	in, out := pickByTheWords(p.Kids, g)
	var l []api.Policy
	for _, i := range out {
		l = append(l, p.Kids[i])
	}
	for _, i := range in {
		l = append(l, leftOut(p.Kids[i], g)...)
	}
	return l
}
