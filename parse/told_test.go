package parse_test

import (
	"slices"
	"strings"

	"bailiff/api"
)

// grammar is P9.1 with the counts and checks of P9.2 between, a rule a line: a row of symbols is pushed down and compared with the tokens one by one, which asks for no calls within calls.
// A symbol is another rule, a kind of token, a word or mark as it stands, or, behind %, what is to be done where one is come so far. Of a rule's ways the one is gone that begins with what stands; none is empty but the last.
const grammar = `
WHOLE: POLICY END
POLICY: %deeper policy NAME %id RULEALG TARGET { %rules RULES } %upper DUTIES | %deeper set NAME %id KIDALG TARGET { %kids KIDS } %upper DUTIES
KIDALG: denyover | permitover | first | only | denyunless | permitunless
RULEALG: denyover | permitover | first | %wrong only | denyunless | permitunless
KIDS: POLICYKID KIDS |
POLICYKID: %kid POLICY
RULES: %rule permit RULE RULES | %rule deny RULE RULES |
RULE: NAME %id TARGET COND DUTIES ;
TARGET: when %anys ANY %any ANYS |
ANYS: and ANY %any ANYS |
ANY: ( %alls ALL %all ALLS )
ALLS: or ALL %all ALLS |
ALL: %matches MATCH %match MATCHES
MATCHES: , MATCH %match MATCHES |
MATCH: ATTR COMPARE VALUE
COMPARE: = | < | >
ATTR: CATEGORY . NAME MUST
MUST: ! |
CATEGORY: subject | action | case | env
VALUE: INT | TICK | ID | TEXT | true | false
COND: if %nodes ONE |
EXPR: VALUE %node %value | ATTR %node %bag | ( CALL ) %node %value
ONE: %place EXPR %mustvalue
BAG: %place EXPR %mustbag
CALL: one BAG | size BAG | has BAG ONE | not ONE | eq ONE ONE | less ONE ONE | add ONE ONE | sub ONE ONE | mul ONE ONE | and ONE ONE | or ONE ONE
DUTIES: %duties DUTY
DUTY: on SIDE DO NAME %duty DUTY |
SIDE: permit | deny
DO: log | redact | review | notify
`

var rules = readGrammar()

func readGrammar() map[string][][]string {
	g := map[string][][]string{}
	for line := range strings.Lines(strings.TrimSpace(grammar)) {
		name, ways, _ := strings.Cut(strings.TrimSpace(line), ":")
		for way := range strings.SplitSeq(ways, "|") {
			g[name] = append(g[name], strings.Fields(way))
		}
	}
	return g
}

// token is one as it is written, and where it begins; kind is as the grammar names it.
type token struct {
	kind, s string
	at      int
}

func (t token) is(symbol string) bool {
	return symbol == t.kind || symbol == t.s && (t.kind == "NAME" || t.kind == "MARK")
}

func kindOf(s string) string {
	switch c := s[0]; {
	case c >= 'a' && c <= 'z':
		return "NAME"
	case c >= '0' && c <= '9' || c == '-':
		return "INT"
	case c == '@':
		return "TICK"
	case c == '#':
		return "ID"
	case c == '"':
		return "TEXT"
	}
	return "MARK"
}

// begins tells whether a way begins with a token. No rule that may be nothing stands at the beginning of a way.
func begins(way []string, t token) bool {
	for _, symbol := range way {
		if symbol[0] == '%' {
			continue
		}
		if ways, ok := rules[symbol]; ok {
			return slices.ContainsFunc(ways, func(w []string) bool { return begins(w, t) })
		}
		return t.is(symbol)
	}
	return false
}

// counts is what is kept in mind on the way down the grammar.
type counts struct {
	deep, all, anys, alls, matches, obls, nodes int
	inside                                      []int // rules, or kids, of each policy that isn't at its end
	places                                      []int // where the expressions began that are not at their end
	bag                                         bool  // the last expression is one
	ids                                         []string
	wrong                                       bool // as policy.Right says, not as it is read
}

// told is what P9.2 and P9.3 tell of tokens, the last of which is the end.
func told(l []token) (api.Errno, int) {
	var c counts
	length := l[len(l)-1].at
	stack := []string{"WHOLE"}
	last := token{}
	for len(stack) > 0 {
		top := stack[len(stack)-1]
		stack = stack[:len(stack)-1]
		if top[0] == '%' {
			if err, at := c.do(top, last, l); err != api.OK {
				return err, at
			}
			continue
		}
		if ways, ok := rules[top]; ok {
			i := slices.IndexFunc(ways, func(w []string) bool { return begins(w, l[0]) })
			if i < 0 {
				i = len(ways) - 1
				if !empty(ways[i]) {
					return api.ErrSyntax, l[0].at
				}
			}
			for _, symbol := range slices.Backward(ways[i]) {
				stack = append(stack, symbol)
			}
			continue
		}
		if !l[0].is(top) {
			return api.ErrSyntax, l[0].at
		}
		last, l = l[0], l[1:]
	}
	if c.wrong {
		return api.ErrSyntax, length
	}
	return api.OK, 0
}

// empty: a way that reads nothing by itself, so that it may be gone whatever stands.
func empty(way []string) bool {
	for _, symbol := range way {
		if symbol[0] == '%' {
			continue
		}
		ways, ok := rules[symbol]
		if !ok || !empty(ways[len(ways)-1]) {
			return false
		}
	}
	return true
}

func (c *counts) do(what string, last token, rest []token) (api.Errno, int) {
	above := func(n *int, most int) (api.Errno, int) {
		*n++
		if *n > most {
			return api.ErrLimit, rest[0].at
		}
		return api.OK, 0
	}
	switch what {
	case "%deeper":
		return above(&c.deep, maxDeep)
	case "%upper":
		c.deep--
		c.inside = c.inside[:len(c.inside)-1]
	case "%rules", "%kids":
		c.inside = append(c.inside, 0)
	case "%kid":
		return above(&c.inside[len(c.inside)-1], maxKids)
	case "%rule":
		if err, at := above(&c.all, maxAll); err != api.OK {
			return err, at
		}
		return above(&c.inside[len(c.inside)-1], maxKids)
	case "%id":
		c.wrong = c.wrong || slices.Contains(c.ids, last.s)
		c.ids = append(c.ids, last.s)
	case "%wrong":
		c.wrong = true
	case "%anys":
		c.anys = 0
	case "%any":
		return above(&c.anys, maxMatch)
	case "%alls":
		c.alls = 0
	case "%all":
		return above(&c.alls, maxMatch)
	case "%matches":
		c.matches = 0
	case "%match":
		return above(&c.matches, maxMatch)
	case "%duties":
		c.obls = 0
	case "%duty":
		return above(&c.obls, maxObls)
	case "%nodes":
		c.nodes = 0
	case "%node":
		return above(&c.nodes, maxExpr)
	case "%value":
		c.bag = false
	case "%bag":
		c.bag = true
	case "%place":
		c.places = append(c.places, rest[0].at)
	case "%mustvalue", "%mustbag":
		at := c.places[len(c.places)-1]
		c.places = c.places[:len(c.places)-1]
		if c.bag != (what == "%mustbag") {
			return api.ErrSyntax, at
		}
	}
	return api.OK, 0
}
