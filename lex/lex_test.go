package lex_test

import (
	"fmt"
	"math/big"
	"regexp"
	"slices"
	"strconv"
	"strings"
	"testing"
	"unsafe"

	"bailiff/api"
	"bailiff/lex"
)

// The limits as the document's page has them.
const (
	maxName   = 16
	maxText   = 64
	maxPolicy = 4096
	maxTick   = 1 << 40
	least     = -1 << 63
	most      = 1<<63 - 1
)

// Tokens without their places, which are put to them by where they stand.
func name(s string) api.Token { return api.Token{Kind: api.TName, S: s} }
func whole(n int) api.Token   { return api.Token{Kind: api.TInt, N: n} }
func tick(n int) api.Token    { return api.Token{Kind: api.TTick, N: n} }
func id(s string) api.Token   { return api.Token{Kind: api.TId, S: s} }
func text(s string) api.Token { return api.Token{Kind: api.TText, S: s} }
func mark(s string) api.Token { return api.Token{Kind: api.TMark, S: s} }
func end() api.Token          { return api.Token{Kind: api.TEnd} }

func at(place int, t api.Token) api.Token {
	t.At = place
	return t
}

// is wants just these tokens, and the end behind them; refused wants no tokens, and an error at its place.
func is(t *testing.T, s string, want ...api.Token) {
	t.Helper()
	want = append(slices.Clip(want), at(len(s), end()))
	if l, err, place := lex.All(s); !slices.Equal(l, want) || err != api.OK || place != 0 {
		t.Fatalf("%q: %+v, error %d at %d, not %+v", s, l, err, place, want)
	}
}

func refused(t *testing.T, s string, want api.Errno, place int) {
	t.Helper()
	if l, err, p := lex.All(s); len(l) != 0 || err != want || p != place {
		t.Fatalf("%q: %+v, error %d at %d, not %d at %d", s, l, err, p, want, place)
	}
}

func wrong(t *testing.T, s string, place int) {
	t.Helper()
	refused(t, s, api.ErrSyntax, place)
}

// among asks for one token by itself, and with others and blanks around it.
func among(t *testing.T, s string, want api.Token) {
	t.Helper()
	is(t, s, at(0, want))
	is(t, " \n"+s+"\n ", at(2, want))
	is(t, "a;"+s+";0", at(0, name("a")), at(1, mark(";")), at(2, want), at(2+len(s), mark(";")), at(3+len(s), whole(0)))
}

// wrongAmong asks for what is wrong from its first byte on, by itself, and with others and blanks around it. The text behind it begins with none of its bytes.
func wrongAmong(t *testing.T, s string) {
	t.Helper()
	wrong(t, s, 0)
	wrong(t, s+" ", 0)
	wrong(t, " \n"+s+"\n ", 2)
	wrong(t, "a;"+s+";0", 2)
	wrong(t, "\"\"@0#a -7=b "+s, 12)
	wrong(t, s+" ; ?", 0)
}

// alone tells from the words of P7.1 whether a byte of a text stands by itself.
func alone(c byte) bool {
	return c > 31 && c < 127 && c != 34 && c != 92
}

// written is how a token is written: there is but one way.
func written(t api.Token) string {
	switch t.Kind {
	case api.TName, api.TMark:
		return t.S
	case api.TInt:
		return strconv.Itoa(t.N)
	case api.TTick:
		return "@" + strconv.Itoa(t.N)
	case api.TId:
		return "#" + t.S
	case api.TText:
		var b strings.Builder
		for i := range len(t.S) {
			if c := t.S[i]; alone(c) {
				b.WriteByte(c)
			} else {
				fmt.Fprintf(&b, `\%02x`, c)
			}
		}
		return `"` + b.String() + `"`
	}
	return ""
}

// shapes are what the kinds look like in P7.1, whether or not they are as they must be; each is taken as long as it gets.
var shapes = []struct {
	kind int
	re   *regexp.Regexp
}{
	{api.TName, regexp.MustCompile(`\A[a-z][a-z0-9_]*`)},
	{api.TInt, regexp.MustCompile(`\A-?[0-9]+`)},
	{api.TTick, regexp.MustCompile(`\A@[0-9]+`)},
	{api.TId, regexp.MustCompile(`\A#[a-z][a-z0-9_]*`)},
	{api.TText, regexp.MustCompile(`\A"([ !#-\[\]-~]|\\[0-9a-f][0-9a-f])*"`)},
	{api.TMark, regexp.MustCompile(`\A[{}().,;=<>!]`)},
}

var byNumber = regexp.MustCompile(`\\[0-9a-f][0-9a-f]`)

// token makes of a text that looks like a token what it says, and tells whether it is as it must be.
func token(kind int, s string) (api.Token, bool) {
	t := api.Token{Kind: kind, S: s}
	var z big.Int
	switch kind {
	case api.TName:
		return t, len(s) <= maxName
	case api.TId:
		t.S = s[1:]
		return t, len(t.S) <= maxName
	case api.TInt, api.TTick:
		digits := strings.TrimPrefix(s, "@")
		z.SetString(digits, 10)
		t.N, t.S = int(z.Int64()), ""
		inBounds := z.IsInt64() && (kind == api.TInt || z.Int64() <= maxTick)
		return t, inBounds && z.String() == digits
	case api.TText:
		t.S = byNumber.ReplaceAllStringFunc(s[1:len(s)-1], func(d string) string {
			n, _ := strconv.ParseUint(d[1:], 16, 8)
			return string([]byte{byte(n)})
		})
		return t, len(t.S) <= maxText && written(t) == s
	}
	return t, true
}

// told reckons All from the words of P7.1: of all shapes that begin at a place the longest one.
func told(s string) ([]api.Token, api.Errno, int) {
	if len(s) > maxPolicy {
		return nil, api.ErrLimit, maxPolicy
	}
	var l []api.Token
	for place := 0; ; {
		place += len(s[place:]) - len(strings.TrimLeft(s[place:], "\x20\x0a"))
		if place == len(s) {
			return append(l, at(place, end())), api.OK, 0
		}
		kind, longest := 0, ""
		for _, shape := range shapes {
			if m := shape.re.FindString(s[place:]); len(m) > len(longest) {
				kind, longest = shape.kind, m
			}
		}
		t, right := token(kind, longest)
		if longest == "" || !right {
			return nil, api.ErrSyntax, place
		}
		l = append(l, at(place, t))
		place += len(longest)
	}
}

// asTold holds All against the words of P7.1, and what it answers against P7.2.
func asTold(t *testing.T, s string) {
	t.Helper()
	l, err, place := lex.All(s)
	want, e, p := told(s)
	if !slices.Equal(l, want) || err != e || place != p {
		t.Fatalf("%q: %+v, error %d at %d, not %+v, error %d at %d", s, l, err, place, want, e, p)
	}
	if err == api.OK {
		covered(t, s, l)
	}
}

// covered walks from token to token: each stands at its place as it is written, and between two of them there are blanks alone.
func covered(t *testing.T, s string, l []api.Token) {
	t.Helper()
	done, last := 0, -1
	for i, k := range l {
		if k.At <= last || k.At < done || k.At > len(s) || strings.Trim(s[done:k.At], " \n") != "" {
			t.Fatalf("%q: %+v begins at %d, behind %d", s, k, k.At, done)
		}
		if !strings.HasPrefix(s[k.At:], written(k)) || (k.Kind == api.TEnd) != (i == len(l)-1) {
			t.Fatalf("%q: %+v doesn't stand at %d", s, k, k.At)
		}
		last, done = k.At, k.At+len(written(k))
	}
	if len(l) == 0 || done != len(s) {
		t.Fatalf("%q: the tokens %+v don't reach the end", s, l)
	}
}

func bytes256() []string {
	var l []string
	for c := range 256 {
		l = append(l, string([]byte{byte(c)}))
	}
	return l
}

// kinds are some tokens of each kind, with those at the bounds among them.
func kinds() []api.Token {
	l := []api.Token{
		name("a"), name("z"), name("a_"), name("b9"), name("policy"), name("true"), name("q__0"), name(strings.Repeat("m", maxName)),
		whole(0), whole(7), whole(-7), whole(10), whole(-1), whole(most), whole(least),
		tick(0), tick(5), tick(100), tick(maxTick), id("a"), id("ann"), id("a_1"), id("z9" + strings.Repeat("_", maxName-2)),
		text(""), text("a b"), text(`x"`), text("\x00\xff\\\n"), text("#a @5 -7 ; a"), text(strings.Repeat("\x80", maxText)),
	}
	for _, c := range marks() {
		l = append(l, mark(c))
	}
	return l
}

func marks() []string {
	return []string{"{", "}", "(", ")", ".", ",", ";", "=", "<", ">", "!"}
}

// P7.1: each kind

func TestRuns(t *testing.T) {
	is(t, `a.b = -7 @5 "x\22"`, at(0, name("a")), at(1, mark(".")), at(2, name("b")), at(4, mark("=")), at(6, whole(-7)), at(9, tick(5)), at(12, text(`x"`)))
	if len(`a.b = -7 @5 "x\22"`) != 18 {
		t.Error("the end isn't at 18")
	}
	wrong(t, "a 01", 2)
	wrong(t, `"\41"`, 0)
	wrong(t, "#A", 0)
}

func TestEachKindByItself(t *testing.T) {
	for s, want := range map[string]api.Token{
		"a": name("a"), "z": name("z"), "ann": name("ann"), "a_9": name("a_9"), "a__": name("a__"), "true": name("true"), "x0": name("x0"), "abcdefghijklmnop": name("abcdefghijklmnop"),
		"0": whole(0), "7": whole(7), "-7": whole(-7), "10": whole(10), "-10": whole(-10), "-1": whole(-1), "100": whole(100), "1234567890": whole(1234567890), "-9876543210": whole(-9876543210),
		"@0": tick(0), "@5": tick(5), "@10": tick(10), "@1234567890": tick(1234567890),
		"#a": id("a"), "#ann": id("ann"), "#a_9": id("a_9"), "#true": id("true"), "#qrstuvwxyz012345": id("qrstuvwxyz012345"),
		`""`: text(""), `"a"`: text("a"), `" "`: text(" "), `"~"`: text("~"), `"a b;c"`: text("a b;c"), `"\00"`: text("\x00"), `"\0a"`: text("\n"), `"\1f"`: text("\x1f"), `"\7f"`: text("\x7f"), `"\ff"`: text("\xff"),
		`"\22"`: text(`"`), `"\5c"`: text(`\`), `"\5c22"`: text(`\22`), `"\c3\a4"`: text("ä"), `"'#@-09azAZ_{}().,;=<>!"`: text("'#@-09azAZ_{}().,;=<>!"),
		"{": mark("{"), "}": mark("}"), "(": mark("("), ")": mark(")"), ".": mark("."), ",": mark(","), ";": mark(";"), "=": mark("="), "<": mark("<"), ">": mark(">"), "!": mark("!"),
	} {
		among(t, s, want)
		asTold(t, s)
	}
	for _, k := range kinds() {
		among(t, written(k), k)
	}
}

func TestKindsAreNumberedAsInTheDocument(t *testing.T) {
	l, err, _ := lex.All(`a 1 @2 #b "c" !`)
	if err != api.OK || len(l) != 7 {
		t.Fatalf("%+v, error %d", l, err)
	}
	for i, k := range l {
		if k.Kind != i+1 {
			t.Errorf("%d: kind %d", i, k.Kind)
		}
	}
}

// apart tells whether two tokens are still two where nothing stands between them.
func apart(a, b api.Token) bool {
	c := written(b)[0]
	digit := c >= '0' && c <= '9'
	switch a.Kind {
	case api.TName, api.TId:
		return !digit && !(c >= 'a' && c <= 'z')
	case api.TInt, api.TTick:
		return !digit
	}
	return true
}

// row writes tokens with something between, and puts their places to them.
func row(between string, l ...api.Token) (string, []api.Token) {
	s := ""
	var placed []api.Token
	for i, k := range l {
		if i > 0 {
			s += between
		}
		placed = append(placed, at(len(s), k))
		s += written(k)
	}
	return s, placed
}

func TestSeveralInARow(t *testing.T) {
	for _, a := range kinds() {
		for _, b := range kinds() {
			for _, between := range []string{" ", "\n", "  ", " \n", "\n\n \n"} {
				s, want := row(between, a, b)
				is(t, s, want...)
			}
			if apart(a, b) {
				s, want := row("", a, b)
				is(t, s, want...)
			}
		}
	}
}

func TestThreeInARowWithNothingBetween(t *testing.T) {
	l := []api.Token{name("ab"), name("z_"), whole(0), whole(12), whole(-3), tick(0), tick(45), id("c"), text(""), text(`"`), text("d 6"), mark("."), mark("!"), mark("=")}
	for _, a := range l {
		for _, b := range l {
			for _, c := range l {
				if apart(a, b) && apart(b, c) {
					s, want := row("", a, b, c)
					is(t, s, want...)
					asTold(t, s)
				}
			}
		}
	}
}

func TestNoBytesAndBlanksAlone(t *testing.T) {
	is(t, "")
	for n := range 11 {
		for bits := range 1 << n {
			b := []byte(strings.Repeat(" ", n))
			for i := range n {
				if bits>>i&1 == 1 {
					b[i] = '\n'
				}
			}
			is(t, string(b))
		}
	}
	for _, n := range []int{100, maxPolicy - 1, maxPolicy} {
		is(t, strings.Repeat(" ", n))
		is(t, strings.Repeat("\n", n))
	}
}

func TestNoOtherByteIsABlank(t *testing.T) {
	for _, c := range []string{"\t", "\r", "\v", "\f", "\x00", "\x1f", "\x7f", "\x85", "\xa0", "\u00a0", "\u2003"} {
		wrongAmong(t, c)
		wrong(t, "a"+c+"b", 1)
		wrong(t, "a "+c, 2)
	}
}

func TestMostBytesOfAPolicy(t *testing.T) {
	for _, piece := range []string{" ", "\n", "a ", ";", "\"\"", "@0", "#a,", "-1", "{ } ( )", `"\00" `, "abcdefghijklmnop\n", "9223372036854775807!"} {
		full := strings.Repeat(piece, maxPolicy)[:maxPolicy/len(piece)*len(piece)]
		full += strings.Repeat(" ", maxPolicy-len(full))
		asTold(t, full)
		if l, err, place := lex.All(full); err != api.OK || place != 0 || l[len(l)-1] != at(maxPolicy, end()) {
			t.Errorf("%q over and over: error %d at %d", piece, err, place)
		}
		refused(t, full+" ", api.ErrLimit, maxPolicy)
		refused(t, full+";", api.ErrLimit, maxPolicy)
		refused(t, " "+full, api.ErrLimit, maxPolicy)
		is(t, strings.Repeat(" ", maxPolicy-len(";"))+";", at(maxPolicy-1, mark(";")))
	}
}

func TestTooLongAheadOfAllElse(t *testing.T) {
	for _, c := range bytes256() {
		refused(t, strings.Repeat(c, maxPolicy+1), api.ErrLimit, maxPolicy)
	}
	for _, n := range []int{maxPolicy + 1, maxPolicy + 2, 2 * maxPolicy, 1 << 16, 1<<16 + 1, 1 << 20} {
		refused(t, strings.Repeat(" ", n), api.ErrLimit, maxPolicy)
		refused(t, "?"+strings.Repeat("a ", n)[:n-1], api.ErrLimit, maxPolicy)
		refused(t, strings.Repeat(" ", n-1)+"?", api.ErrLimit, maxPolicy)
	}
	wrong(t, strings.Repeat("?", maxPolicy), 0)
	wrong(t, strings.Repeat(" ", maxPolicy-1)+"?", maxPolicy-1)
}

// P7.1: names

func TestLengthsOfNames(t *testing.T) {
	for n := 1; n <= 300; n++ {
		for _, s := range []string{strings.Repeat("a", n), "z" + strings.Repeat("9", n-1), "m" + strings.Repeat("_", n-1)} {
			if n <= maxName {
				among(t, s, name(s))
				among(t, "#"+s, id(s))
			} else {
				wrongAmong(t, s)
				wrongAmong(t, "#"+s)
			}
		}
	}
	wrong(t, strings.Repeat("a", maxPolicy), 0)
	wrong(t, "#"+strings.Repeat("a", maxPolicy-1), 0)
}

func TestBytesOfNames(t *testing.T) {
	for _, c := range bytes256() {
		for place := range maxName + 1 {
			s := "abcdefghijklmnop"[:place] + c + "abcdefghijklmnopq"[place+1:]
			asTold(t, s[:maxName])
			asTold(t, s)
			asTold(t, "#"+s[:maxName])
			asTold(t, "#"+s)
		}
	}
	is(t, "a.b", at(0, name("a")), at(1, mark(".")), at(2, name("b")))
	is(t, "a-1", at(0, name("a")), at(1, whole(-1)))
	is(t, "a#b", at(0, name("a")), at(1, id("b")))
	is(t, "#a#b", at(0, id("a")), at(2, id("b")))
	is(t, "#a@1", at(0, id("a")), at(2, tick(1)))
	for s, place := range map[string]int{"A": 0, "aB": 1, "ann.Bo": 4, "_": 0, "_a": 0, "a _b": 2, "aä": 1, "ä": 0, "a-b": 1, "#aB": 2, "#a-b": 2, "a'": 1} {
		wrong(t, s, place)
	}
}

// P7.1: numbers

// near are the numbers at and just beside the given one.
func near(n string) []string {
	z, _ := new(big.Int).SetString(n, 10)
	var l []string
	for d := int64(-12); d <= 12; d++ {
		l = append(l, new(big.Int).Add(z, big.NewInt(d)).String())
	}
	return l
}

// digits are numbers at and beside each power of two and of ten, on both sides of nought, below the bounds and far beyond them.
func digits() []string {
	l := []string{"0", "-0"}
	for _, base := range []int64{2, 10} {
		z := big.NewInt(1)
		for z.BitLen() < 150 {
			l = append(l, near(z.String())...)
			l = append(l, near("-"+z.String())...)
			z = new(big.Int).Mul(z, big.NewInt(base))
		}
	}
	for _, n := range []string{"9223372036854775807", "-9223372036854775808", "92233720368547758070", "18446744073709551615", "-18446744073709551616", "1099511627776"} {
		l = append(l, near(n)...)
		for c := range 10 {
			l = append(l, n+strconv.Itoa(c), n[:len(n)-1]+strconv.Itoa(c))
		}
	}
	return l
}

func TestNumbersAreAsTold(t *testing.T) {
	for _, s := range digits() {
		for _, form := range []string{s, "0" + s, "00" + s, "-" + s, "-0" + s, s + "0", "@" + s, "@0" + s, "@-" + s, s + s, s + " " + s, "a=" + s + "b"} {
			asTold(t, form)
		}
	}
	for n := -1200; n <= 1200; n++ {
		among(t, strconv.Itoa(n), whole(n))
		if n >= 0 {
			among(t, "@"+strconv.Itoa(n), tick(n))
		}
	}
}

func TestBoundsOfNumbers(t *testing.T) {
	for s, n := range map[string]int{
		"9223372036854775807": most, "9223372036854775806": most - 1, "-9223372036854775808": least, "-9223372036854775807": least + 1,
		"9223372036854775799": most - 8, "-9223372036854775799": least + 9, "4294967296": 1 << 32, "-2147483649": -1<<31 - 1,
	} {
		among(t, s, whole(n))
	}
	for _, s := range []string{
		"9223372036854775808", "9223372036854775809", "9223372036854775810", "-9223372036854775809", "-9223372036854775810", "9999999999999999999", "-9999999999999999999", "10000000000000000000", "-10000000000000000000",
		"18446744073709551615", "18446744073709551616", "18446744073709551617", "-18446744073709551616", "27670116110564327424", "99999999999999999999", "92233720368547758080", "-92233720368547758080",
		"1" + strings.Repeat("0", 64), "-1" + strings.Repeat("0", 64), strings.Repeat("9", 4000), "-" + strings.Repeat("1", 4000),
	} {
		wrongAmong(t, s)
	}
	wrong(t, strings.Repeat("1", maxPolicy), 0)
	wrong(t, "@"+strings.Repeat("1", maxPolicy-1), 0)
}

func TestNoughts(t *testing.T) {
	among(t, "0", whole(0))
	among(t, "@0", tick(0))
	for _, s := range []string{"-0", "00", "01", "-00", "-01", "000", "007", "-007", "0123456789", "09223372036854775807", "-09223372036854775808", strings.Repeat("0", 19), strings.Repeat("0", 4000), "-" + strings.Repeat("0", 4000)} {
		wrongAmong(t, s)
	}
	for _, s := range []string{"@00", "@01", "@05", "@001", "@0" + strconv.Itoa(maxTick), "@" + strings.Repeat("0", 100)} {
		wrongAmong(t, s)
	}
	is(t, "0 0", at(0, whole(0)), at(2, whole(0)))
	is(t, "0a", at(0, whole(0)), at(1, name("a")))
	is(t, "0-1", at(0, whole(0)), at(1, whole(-1)))
	is(t, "@0@0", at(0, tick(0)), at(2, tick(0)))
	wrong(t, "0-0", 1)
	wrong(t, "0 00", 2)
}

func TestBoundsOfTicks(t *testing.T) {
	among(t, "@1099511627776", tick(maxTick))
	among(t, "@1099511627775", tick(maxTick-1))
	for _, s := range []string{"@1099511627777", "@1099511627780", "@1099511627786", "@10995116277760", "@2000000000000", "@9223372036854775807", "@9223372036854775808", "@18446744073709551616", "@18446744073709551621", "@" + strings.Repeat("9", 100), "@-1", "@-0", "@-5", "@+5", "@ 5", "@a", "@#a", "@@5", "@.5"} {
		wrongAmong(t, s)
	}
	is(t, "@1099511627776-1", at(0, tick(maxTick)), at(14, whole(-1)))
}

// P7.1: texts

func TestLengthsOfTexts(t *testing.T) {
	for n := range 200 {
		for _, c := range []string{"a", " ", "\x00", "\xff", `"`, `\`, "~"} {
			want := text(strings.Repeat(c, n))
			if n <= maxText {
				among(t, written(want), want)
			} else {
				wrongAmong(t, written(want))
			}
		}
	}
	among(t, `"`+strings.Repeat("a", maxText-1)+`\22"`, text(strings.Repeat("a", maxText-1)+`"`))
	among(t, `"\22`+strings.Repeat("a", maxText-1)+`"`, text(`"`+strings.Repeat("a", maxText-1)))
	wrongAmong(t, `"`+strings.Repeat("a", maxText)+`\22"`)
	wrongAmong(t, `"\22`+strings.Repeat("a", maxText)+`"`)
	wrong(t, `"`+strings.Repeat("a", maxPolicy-2)+`"`, 0)
	wrong(t, `"`+strings.Repeat("a", maxPolicy-1), 0)
}

func TestBytesOfTextsByThemselves(t *testing.T) {
	for i, c := range bytes256() {
		for _, around := range [][2]string{{"", ""}, {"a", ""}, {"", "a"}, {"xy", "yx"}, {`\22`, `\5c`}} {
			s := `"` + around[0] + c + around[1] + `"`
			asTold(t, s)
			switch {
			case i == '"':
				// The text ends there, and behind it another one begins.
			case i == '\\', i < 32, i > 126:
				wrongAmong(t, s)
			default:
				meant := strings.NewReplacer(`\22`, `"`, `\5c`, `\`).Replace(around[0] + c + around[1])
				among(t, s, text(meant))
			}
		}
	}
	wrongAmong(t, "\"a\nb\"")
	wrongAmong(t, "\"a\tb\"")
	wrongAmong(t, "\"ä\"")
}

func TestBytesOfTextsByNumber(t *testing.T) {
	for i, c := range bytes256() {
		number := fmt.Sprintf(`\%02x`, i)
		for _, around := range [][2]string{{"", ""}, {"a", ""}, {"", "a"}, {"0", "0"}, {"f", "f"}} {
			s := `"` + around[0] + number + around[1] + `"`
			if alone(byte(i)) {
				wrongAmong(t, s)
			} else {
				among(t, s, text(around[0]+c+around[1]))
			}
			if capital := strings.ToUpper(s); strings.ToUpper(number) != number {
				wrongAmong(t, capital)
			}
		}
	}
}

func TestDigitsBehindABackslash(t *testing.T) {
	for _, high := range bytes256() {
		for _, low := range bytes256() {
			asTold(t, `"\`+high+low+`"`)
			asTold(t, `"\`+high+low)
		}
	}
	for _, s := range []string{`"\"`, `"\0"`, `"\f"`, `"\2"`, `"\22`, `"\2`, `"\`, `"`, `"a`, `"a\`, `"a\0`, `"a\00`, `"\g0"`, `"\0g"`, `"\x00"`, `"\n"`, `"\\"`, `"\""`, `"\0A"`, `"\A0"`, `"\FF"`, `"\fF"`, `"\Ff"`, `"\ 0"`, `"\0 "`, `"\-1"`, `"\+1"`, `"\0_"`, `"\/0"`, `"\:0"`, `"\0:"`, "\"\\`0\"", "\"\\0`\""} {
		wrong(t, s, 0)
		wrong(t, "a "+s, 2)
	}
	is(t, `"\22""\22"`, at(0, text(`"`)), at(5, text(`"`)))
	is(t, `"\00a"`, at(0, text("\x00a")))
	is(t, `"\000"`, at(0, text("\x000")))
}

func TestATextThatIsNotClosed(t *testing.T) {
	for _, s := range []string{`"`, `"a`, `" `, `"a b`, `"\00`, `"` + strings.Repeat("a", maxText), `"` + strings.Repeat("a", maxText+1), `"` + strings.Repeat(`\22`, maxText), `"\5c\22`, `"a;`, `"#a`, `"5`} {
		wrong(t, s, 0)
		wrong(t, s+" ", 0)
		wrong(t, `"" `+s, 3)
		wrong(t, `a = `+s+"\n", 4)
	}
	wrong(t, `"""`, 2)
	is(t, `""""`, at(0, text("")), at(2, text("")))
}

// P7.1: the longest one, and what is none

func TestTheLongestOne(t *testing.T) {
	for s, want := range map[string]api.Token{
		"ab": name("ab"), "a1": name("a1"), "a_": name("a_"), "a0_b": name("a0_b"), "truer": name("truer"), "12": whole(12), "-12": whole(-12), "100": whole(100),
		"@12": tick(12), "@100": tick(100), "#ab": id("ab"), "#a1": id("a1"), `"a\22b"`: text(`a"b`), `" "`: text(" "), `"a"`: text("a"),
	} {
		among(t, s, want)
	}
	// What a shorter one would leave could stand by itself, too: the longest one is taken, and refused.
	for _, s := range []string{
		"abcdefghijklmnopq", "#abcdefghijklmnopq", "abcdefghijklmnop0", strings.Repeat("a", 2*maxName), "00", "01", "-01", "@00", "@01",
		"9223372036854775808", "-9223372036854775809", "99999999999999999990", "@1099511627777", "@10995116277760",
	} {
		wrongAmong(t, s)
	}
}

func TestEachByteByItself(t *testing.T) {
	begins := 0
	for i, c := range bytes256() {
		_, err, _ := lex.All(c)
		switch {
		case i == ' ', i == '\n':
			is(t, c)
		case i >= 'a' && i <= 'z':
			is(t, c, name(c))
		case i >= '0' && i <= '9':
			is(t, c, whole(i-'0'))
		case slices.Contains(marks(), c):
			is(t, c, mark(c))
		default:
			wrong(t, c, 0)
		}
		if err == api.OK {
			begins++
		}
	}
	if begins != 2+26+10+11 {
		t.Errorf("%d bytes stand by themselves", begins)
	}
}

func TestBytesThatBeginNoToken(t *testing.T) {
	for i, c := range bytes256() {
		if i == ' ' || i == '\n' || i >= 'a' && i <= 'z' || i >= '0' && i <= '9' || strings.Contains(`-@#"`, c) || slices.Contains(marks(), c) {
			continue
		}
		wrongAmong(t, c)
		for _, k := range kinds() {
			if named := k.Kind == api.TName || k.Kind == api.TId; !named || c != "_" {
				wrong(t, written(k)+c, len(written(k)))
			}
			wrong(t, written(k)+" "+c, len(written(k))+1)
			wrong(t, c+written(k), 0)
		}
	}
}

func TestWhatBeginsButIsNotThere(t *testing.T) {
	for _, c := range []string{"-", "@", "#"} {
		wrong(t, c, 0)
		wrong(t, "a "+c, 2)
		wrong(t, "a"+c, 1)
		wrong(t, ";"+c, 1)
		wrong(t, c+" ", 0)
		wrong(t, c+"\n1", 0)
		wrong(t, c+" a", 0)
		for i, d := range bytes256() {
			digit, letter := i >= '0' && i <= '9', i >= 'a' && i <= 'z'
			if c == "#" && letter || c == "@" && digit || c == "-" && digit && i != '0' {
				if _, err, _ := lex.All(c + d); err != api.OK {
					t.Errorf("%q: error %d", c+d, err)
				}
				continue
			}
			wrong(t, c+d, 0)
			wrong(t, c+d+"1", 0)
			wrong(t, c+d+"a", 0)
			wrong(t, "7 "+c+d, 2)
		}
	}
	for _, s := range []string{"--1", "-@1", "-a", "- 1", "-.5", "##a", "#-a", "#1a", "#_a", "#A", `#"a"`, "# a", "#@1", `@"5"`} {
		wrongAmong(t, s)
	}
}

func TestTheFirstFaultIsTold(t *testing.T) {
	faults := []string{"?", "01", "-", "@", "#", "A", `"\41"`, "abcdefghijklmnopq", "9223372036854775808", "@1099511627777"}
	for _, a := range faults {
		for _, b := range faults {
			for _, k := range kinds() {
				wrong(t, a+" "+b, 0)
				s := written(k) + "\n" + a + " "
				wrong(t, s+b, len(written(k))+1)
				wrong(t, s+written(k)+" "+b, len(written(k))+1)
			}
		}
	}
	wrong(t, `a ? "`, 2)
	wrong(t, `a " ?`, 2)
}

func TestNoTokensBesideAFaultAtTheVeryEnd(t *testing.T) {
	right := strings.Repeat("a = #b ; ", 400)
	for _, fault := range []string{"?", "00", `"`, "-", "#", "@"} {
		wrong(t, right+fault, len(right))
	}
}

// P7.1 and P7.2, by the document's words

func TestAllTextsOfTwoBytes(t *testing.T) {
	for _, a := range bytes256() {
		for _, b := range bytes256() {
			asTold(t, a+b)
			asTold(t, "a "+a+b+" 1")
		}
	}
}

func TestAllShortTextsOfAFewBytes(t *testing.T) {
	of := "a_0 7-@#\"\\.f"
	var walk func(s string)
	walk = func(s string) {
		asTold(t, s)
		if len(s) == 5 {
			return
		}
		for i := range len(of) {
			walk(s + of[i:i+1])
		}
	}
	walk("")
}

// next is a row of numbers that is the same each time.
func next(x *uint64, below int) int {
	*x = *x*6364136223846793005 + 1442695040888963407
	return int(*x >> 33 % uint64(below))
}

func TestMixedTexts(t *testing.T) {
	pieces := []string{" ", "\n", " ", ";", "a", "ann", "b_1", "_", "0", "-7", "-", "12", "@5", "@", "#a", "#", `"`, `"x"`, `\`, `\22`, `\41`, "{", "}", "(", ")", ".", ",", "=", "<", ">", "!", "?", "A", "\x00", "\xff", "999999999999", "abcdefghijkl"}
	x := uint64(7)
	for range 60000 {
		s := ""
		for range next(&x, 12) {
			s += pieces[next(&x, len(pieces))]
		}
		asTold(t, s)
	}
}

func TestMixedRowsOfTokens(t *testing.T) {
	x := uint64(11)
	l := kinds()
	for range 3000 {
		s := ""
		var want []api.Token
		for range next(&x, 30) {
			k := l[next(&x, len(l))]
			if len(want) > 0 && (next(&x, 2) == 0 || !apart(want[len(want)-1], k)) {
				s += []string{" ", "\n", " \n "}[next(&x, 3)]
			}
			want = append(want, at(len(s), k))
			s += written(k)
		}
		is(t, s, want...)
		asTold(t, s)
	}
}

func TestPlacesRiseAndEachByteBelongsToOneToken(t *testing.T) {
	for _, s := range []string{
		"", " ", "a", " a ", "a b", "a  b\n", `policy p denyover { permit r when (case.owner! = #ann or case.due < @5) if (not true) on permit log x; }`,
		`set s first{policy p only{deny r;}}`, "a.b = -7 @5 \"x\\22\"", "\n\n1-1-1@1#a#a\"\"\"\"a!", strings.Repeat(`"\5c"`, 800), strings.Repeat(";", maxPolicy), strings.Repeat("-1", maxPolicy/2),
	} {
		l, err, place := lex.All(s)
		if err != api.OK || place != 0 {
			t.Fatalf("%q: error %d at %d", s, err, place)
		}
		covered(t, s, l)
	}
}

// What is handed in

// lent makes a text of bytes that can be changed under it, to tell what is done to it and what is kept of it.
func lent(b []byte) string { return unsafe.String(unsafe.SliceData(b), len(b)) }

func TestWhatIsHandedInStaysAndIsNotKept(t *testing.T) {
	for _, s := range []string{`a.b = -7 @5 "x\22" #ann`, `"" "plain" {}().,;=<>! abcdefghijklmnop`, `policy p first { deny r; }`, "a 01", `a "\41"`, "#A", "a?", `"open`} {
		room := []byte("ahead" + s + "behind")
		before := string(room)
		part := room[5 : 5+len(s)]
		l, err, place := lex.All(lent(part))
		if string(room) != before {
			t.Fatalf("%q became %q", before, room)
		}
		for i := range room {
			room[i] = '?'
		}
		want, e, p := lex.All(s)
		if !slices.Equal(l, want) || err != e || place != p {
			t.Errorf("%q, changed behind the call: %+v, error %d at %d, not %+v", s, l, err, place, want)
		}
	}
}

func TestAnswersShareNoMemory(t *testing.T) {
	s := `a.b = -7 @5 "x\22" #ann`
	first, _, _ := lex.All(s)
	want := slices.Clone(first)
	second, _, _ := lex.All(s)
	for _, l := range [][]api.Token{first, second[:0]} {
		spare := l[:cap(l)]
		for i := range spare {
			spare[i] = api.Token{Kind: -1, At: -1, N: -1, S: "?"}
		}
	}
	if third, err, _ := lex.All(s); !slices.Equal(third, want) || err != api.OK {
		t.Errorf("%+v, not %+v", third, want)
	}
}

func TestWhatCameAheadDoesNotMatter(t *testing.T) {
	for range 2 {
		is(t, "a", name("a"))
		wrong(t, "a ?", 2)
		refused(t, strings.Repeat("a ", maxPolicy), api.ErrLimit, maxPolicy)
		is(t, "")
	}
}
