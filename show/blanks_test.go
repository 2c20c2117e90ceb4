package show_test

import (
	"strings"
	"testing"

	"bailiff/api"
	"bailiff/lex"
	"bailiff/show"
)

// P10.3: the bytes between words

// apart is what must stand between two tokens.
func apart(before, behind api.Token) string {
	if before.Kind == api.TMark && (before.S == "(" || before.S == ".") {
		return ""
	}
	if behind.Kind == api.TMark && strings.Contains(").,;!", behind.S) || behind.Kind == api.TEnd {
		return ""
	}
	return " "
}

func TestBytesBetweenWords(t *testing.T) {
	read := 0
	for i := range 2000 {
		m := maker{x: uint64(i) + 1e6}
		p, _ := m.policy(1)
		s := show.Policy(p)
		l, err, _ := lex.All(s)
		if err != api.OK {
			continue
		}
		read++
		at := size(s)
		for k := 1; k < len(l); k++ {
			if blank := s[at:l[k].At]; blank != apart(l[k-1], l[k]) {
				t.Fatalf("%s: %q ahead of what stands at %d", s, blank, l[k].At)
			}
			at = l[k].At + size(s[l[k].At:])
		}
	}
	if read < 1000 {
		t.Fatalf("only %d were short enough", read)
	}
}

// size is how long the token goes on that a text begins with.
func size(s string) int {
	if strings.HasPrefix(s, `"`) {
		return strings.IndexByte(s[1:], '"') + 2
	}
	n := strings.IndexAny(s, "{}().,;=<>! \n")
	if n < 0 {
		return len(s)
	}
	return max(n, 1)
}
