package regex_test

import (
	"math/rand"
	"slices"
	"strconv"
	"strings"
	"testing"

	"weighted/api"
	"weighted/regex"
	"weighted/semiring"
	"weighted/symbols"
)

// checkParse checks what a text is read as.
func checkParse(t *testing.T, r api.Ring, table []string, text string, want []api.ENode) {
	t.Helper()
	e, at, err := regex.Parse(r, table, text)
	if err != api.OK || at != 0 || !sameLists(e, want) {
		t.Errorf("%.200q: %v at %d, %v, not %v", text, err, at, e, want)
	}
}

// checkNoParse checks that a text has an error at a place, and nothing else.
func checkNoParse(t *testing.T, r api.Ring, table []string, text string, at int, want api.Errno) {
	t.Helper()
	e, place, err := regex.Parse(r, table, text)
	if err != want || place != at || len(e) > 0 {
		t.Errorf("%.200q: %v at %d, %v, not %v at %d", text, err, place, e, want, at)
	}
}

// names returns a table of n names.
func names(n int) []string {
	var table []string
	for i := range n {
		table = append(table, "n"+strconv.Itoa(i))
	}
	return table
}

func TestParse(t *testing.T) {
	table := []string{"a", "b", "10", "01", "a1"}
	a, b, half := letter(1), letter(2), read(t, rational(), "1/2")
	zero, one := of(api.EZero), of(api.EOne)
	for _, x := range []struct {
		text string
		want *expression
	}{
		{"0", zero}, {"1", one}, {"a", a}, {"10", letter(3)}, {"01", letter(4)}, {"a1", letter(5)},
		{" a", a}, {"a  ", a}, {"(a)", a}, {"((a))", a}, {" ( ( a ) ) ", a},
		{"a b", of(api.EProduct, a, b)}, {"a    b", of(api.EProduct, a, b)}, {"(a)b", of(api.EProduct, a, b)}, {"a(b)", of(api.EProduct, a, b)}, {"(a)(b)", of(api.EProduct, a, b)},
		{"0 1", of(api.EProduct, zero, one)}, {"1 0", of(api.EProduct, one, zero)}, {"0(1)", of(api.EProduct, zero, one)}, {"0 a", of(api.EProduct, zero, a)}, {"a 1", of(api.EProduct, a, one)}, {"1 a1 10", of(api.EProduct, of(api.EProduct, one, letter(5)), letter(3))},
		{"a+b", of(api.ESum, a, b)}, {"a + b", of(api.ESum, a, b)}, {" a  +b ", of(api.ESum, a, b)}, {"0+1", of(api.ESum, zero, one)}, {"(a)+(b)", of(api.ESum, a, b)},
		{"a*", of(api.EStar, a)}, {"a *", of(api.EStar, a)}, {"0*", of(api.EStar, zero)}, {"1*", of(api.EStar, one)}, {"10*", of(api.EStar, letter(3))}, {"a**", of(api.EStar, of(api.EStar, a))}, {"a * * ", of(api.EStar, of(api.EStar, a))},
		{"a*b", of(api.EProduct, of(api.EStar, a), b)}, {"a*1", of(api.EProduct, of(api.EStar, a), one)}, {"1*0", of(api.EProduct, of(api.EStar, one), zero)}, {"a*a1", of(api.EProduct, of(api.EStar, a), letter(5))}, {"a*(b)", of(api.EProduct, of(api.EStar, a), b)}, {"a*+b", of(api.ESum, of(api.EStar, a), b)}, {"a b*", of(api.EProduct, a, of(api.EStar, b))}, {"(a b)*", of(api.EStar, of(api.EProduct, a, b))}, {"(a+b) *", of(api.EStar, of(api.ESum, a, b))},
		{"a + b + a", of(api.ESum, of(api.ESum, a, b), a)}, {"a + (b + a)", of(api.ESum, a, of(api.ESum, b, a))}, {"a b a", of(api.EProduct, of(api.EProduct, a, b), a)}, {"a (b a)", of(api.EProduct, a, of(api.EProduct, b, a))}, {"a + b + a + b", of(api.ESum, of(api.ESum, of(api.ESum, a, b), a), b)}, {"a b a b", of(api.EProduct, of(api.EProduct, of(api.EProduct, a, b), a), b)},
		{"a + b a", of(api.ESum, a, of(api.EProduct, b, a))}, {"a b + a", of(api.ESum, of(api.EProduct, a, b), a)}, {"(a + b) a", of(api.EProduct, of(api.ESum, a, b), a)}, {"a (b + a)", of(api.EProduct, a, of(api.ESum, b, a))},
		{"[1/2]a", scaled(half, a)}, {"[1/2] a", scaled(half, a)}, {" [1/2]   a", scaled(half, a)}, {"[2/4]a", scaled(half, a)}, {"[1/2]1", scaled(half, one)}, {"[1/2]0", scaled(half, zero)}, {"[1/2](a)", scaled(half, a)}, {"[1/2]10", scaled(half, letter(3))}, {"([1/2]a)", scaled(half, a)},
		{"[1/2][0]a", scaled(half, scaled(read(t, rational(), "0"), a))}, {"[1/2] [-0] a", scaled(half, scaled(read(t, rational(), "0"), a))},
		{"[1/2]a*", of(api.EStar, scaled(half, a))}, {"[1/2] a *", of(api.EStar, scaled(half, a))}, {"[1/2](a*)", scaled(half, of(api.EStar, a))}, {"[1/2][1/2]a*", of(api.EStar, scaled(half, scaled(half, a)))}, {"[1/2](a)*", of(api.EStar, scaled(half, a))}, {"[1/2]a**", of(api.EStar, of(api.EStar, scaled(half, a)))},
		{"[1/2]a b", of(api.EProduct, scaled(half, a), b)}, {"[1/2]a + b", of(api.ESum, scaled(half, a), b)}, {"[1/2](a b)", scaled(half, of(api.EProduct, a, b))}, {"[1/2](a + b)", scaled(half, of(api.ESum, a, b))},
		{"a[1/2]b", of(api.EProduct, a, scaled(half, b))}, {"1[1/2]1", of(api.EProduct, one, scaled(half, one))}, {"a*[1/2]b*", of(api.EProduct, of(api.EStar, a), of(api.EStar, scaled(half, b)))}, {"10[1/2]01", of(api.EProduct, letter(3), scaled(half, letter(4)))}, {"(a)[1/2](b)", of(api.EProduct, a, scaled(half, b))},
	} {
		checkParse(t, rational(), table, x.text, x.want.list())
	}
}

func TestParseOfUnusualNames(t *testing.T) {
	long := strings.Repeat("x", api.MaxName)
	table := []string{"!", "~", "\"'", "00", "11", "0a", "a0", "&,./:;<=>?@\\^_`{}$%", long, "A"}
	if !symbols.Valid(table) {
		t.Fatal("no table")
	}
	for i, name := range table {
		checkParse(t, rational(), table, name, letter(i+1).list())
		checkParse(t, rational(), table, "("+name+")*"+name, of(api.EProduct, of(api.EStar, letter(i+1)), letter(i+1)).list())
		checkParse(t, rational(), table, "["+"1]"+name+"+0", of(api.ESum, scaled(semiring.One(rational()), letter(i+1)), of(api.EZero)).list())
		checkNoParse(t, rational(), table, " "+name+name+" ", 1, api.ErrName)
	}
	most := names(api.MaxSymbols)
	for i, name := range most {
		checkParse(t, rational(), most, name, letter(i+1).list())
	}
}

func TestWeightsInTexts(t *testing.T) {
	for _, s := range ringCases() {
		for _, text := range append(s.others, s.zero, s.one) {
			checkParse(t, s.ring, []string{"a"}, "["+text+"]a", scaled(read(t, s.ring, text), letter(1)).list())
			checkParse(t, s.ring, []string{"a"}, "a ["+text+"] (1)", of(api.EProduct, letter(1), scaled(read(t, s.ring, text), of(api.EOne))).list())
			// A weight is everything up to the bracket, also spaces.
			for _, wrong := range []string{" " + text, text + " ", text + "|", text + "(", "[" + text, text + "\t", ""} {
				checkNoParse(t, s.ring, []string{"a"}, "a + ["+wrong+"]a *)", 5, api.ErrForm)
			}
			for _, open := range []string{"[" + text, "[" + text + " a", "[ ", "[", "[x", "[(a)*"} {
				checkNoParse(t, s.ring, []string{"a"}, "a "+open, 2+len(open), api.ErrSyntax)
			}
		}
	}
	for _, x := range []struct {
		kind int
		text string
	}{
		{api.Rational, "1/0"}, {api.Rational, "inf"}, {api.Rational, "a"}, {api.Rational, "+1"}, {api.Rational, "1 /2"}, {api.Rational, strings.Repeat("1", api.MaxDigits+1)},
		{api.Tropical, "-1"}, {api.Tropical, "1/2"}, {api.Tropical, "01"}, {api.Tropical, "1099511627777"}, {api.Viterbi, "2"}, {api.Viterbi, "-1/2"},
		{api.Sets, "f"}, {api.Sets, "000000000000000F"}, {api.Polynomial, "a + 1"}, {api.Polynomial, "d"}, {api.Polynomial, "1+a"}, {api.Polynomial, "a^6"},
	} {
		checkNoParse(t, api.Ring{Kind: x.kind}, []string{"a"}, "["+x.text+"]a", 1, api.ErrForm)
	}
	most := strings.Repeat("7", api.MaxDigits)
	checkParse(t, rational(), []string{"a"}, "["+most+"]a", scaled(read(t, rational(), most), letter(1)).list())
}

func TestPlacesOfErrors(t *testing.T) {
	table := []string{"a", "b", "ab1"}
	for _, x := range []struct {
		text string
		at   int
		want api.Errno
	}{
		{"", 0, api.ErrSyntax}, {" ", 1, api.ErrSyntax}, {"   ", 3, api.ErrSyntax}, {"()", 1, api.ErrSyntax}, {"( )", 2, api.ErrSyntax}, {"a()", 2, api.ErrSyntax}, {"()a", 1, api.ErrSyntax}, {"[]", 1, api.ErrForm}, {"[]a", 1, api.ErrForm}, {"a []", 3, api.ErrForm},
		{"(", 1, api.ErrSyntax}, {"(a", 2, api.ErrSyntax}, {"(a ", 3, api.ErrSyntax}, {"((a)", 4, api.ErrSyntax}, {"(a+b", 4, api.ErrSyntax}, {"(a]", 2, api.ErrSyntax}, {"(a[", 3, api.ErrSyntax},
		{")", 0, api.ErrSyntax}, {"a)", 1, api.ErrSyntax}, {"a )b", 2, api.ErrSyntax}, {"(a))", 3, api.ErrSyntax}, {"a]", 1, api.ErrSyntax}, {"]a", 0, api.ErrSyntax}, {"[1/2]]a", 5, api.ErrSyntax}, {"[1/2]a]", 6, api.ErrSyntax},
		{"+", 0, api.ErrSyntax}, {"+a", 0, api.ErrSyntax}, {"a+", 2, api.ErrSyntax}, {"a + ", 4, api.ErrSyntax}, {"a + + b", 4, api.ErrSyntax}, {"a+)", 2, api.ErrSyntax}, {"(a+)", 3, api.ErrSyntax}, {"(+a)", 1, api.ErrSyntax},
		{"*", 0, api.ErrSyntax}, {" *a", 1, api.ErrSyntax}, {"a + *", 4, api.ErrSyntax}, {"(*a)", 1, api.ErrSyntax}, {"[1]*a", 3, api.ErrSyntax}, {"[1]", 3, api.ErrSyntax}, {"[1] ", 4, api.ErrSyntax}, {"[1]+a", 3, api.ErrSyntax}, {"([1])", 4, api.ErrSyntax}, {"[1][2]", 6, api.ErrSyntax}, {"a [1] + b", 6, api.ErrSyntax},
		{"[", 1, api.ErrSyntax}, {"a[1", 3, api.ErrSyntax}, {"[1)a", 4, api.ErrSyntax}, {"[x", 2, api.ErrSyntax}, {"[x]", 1, api.ErrForm}, {"[ 1]a", 1, api.ErrForm}, {"[1 ]a", 1, api.ErrForm}, {"[[1]]a", 1, api.ErrForm}, {"[1][x]a", 4, api.ErrForm}, {"[x][", 1, api.ErrForm}, {"a b ([1] [1/0] a", 10, api.ErrForm},
		{"c", 0, api.ErrName}, {"a c", 2, api.ErrName}, {"ab", 0, api.ErrName}, {"a ab ab1", 2, api.ErrName}, {"A", 0, api.ErrName}, {"00", 0, api.ErrName}, {"a 11 b", 2, api.ErrName}, {"01", 0, api.ErrName}, {"10", 0, api.ErrName}, {"1a", 0, api.ErrName}, {"a0", 0, api.ErrName}, {"1 + 2", 4, api.ErrName}, {"a*c", 2, api.ErrName}, {"(c", 1, api.ErrName}, {"[1]c", 3, api.ErrName}, {"ab1a", 0, api.ErrName}, {strings.Repeat("a", api.MaxName+1), 0, api.ErrName}, {"1/2", 0, api.ErrName}, {"a a,b", 2, api.ErrName},
		{"#", 0, api.ErrSyntax}, {"a#", 1, api.ErrSyntax}, {"a # b", 2, api.ErrSyntax}, {"-", 0, api.ErrSyntax}, {"a-b", 1, api.ErrSyntax}, {"-a", 0, api.ErrSyntax}, {"a|b", 1, api.ErrSyntax}, {"a | b", 2, api.ErrSyntax}, {"a + |", 4, api.ErrSyntax}, {"1|0", 1, api.ErrSyntax},
		{"a\tb", 1, api.ErrSyntax}, {"\ta", 0, api.ErrSyntax}, {"a\n", 1, api.ErrSyntax}, {"a\r\n", 1, api.ErrSyntax}, {"a\x00", 1, api.ErrSyntax}, {"\x00", 0, api.ErrSyntax}, {"(a\x00)", 2, api.ErrSyntax}, {"a + \x00", 4, api.ErrSyntax}, {"a\x7f", 1, api.ErrSyntax}, {"\u00e9", 0, api.ErrSyntax}, {"a\u00a0b", 1, api.ErrSyntax}, {"a\xff", 1, api.ErrSyntax}, {"\xff", 0, api.ErrSyntax}, {"a\x1f", 1, api.ErrSyntax},
		// The first part that does not fit counts, whatever comes behind it.
		{"c [x] *", 0, api.ErrName}, {"[x] c )", 1, api.ErrForm}, {"* c [x]", 0, api.ErrSyntax}, {"a + c + [x]", 4, api.ErrName}, {"(a c", 3, api.ErrName}, {"a) c", 1, api.ErrSyntax}, {"(c))", 1, api.ErrName}, {"[x c", 4, api.ErrSyntax},
	} {
		checkNoParse(t, rational(), table, x.text, x.at, x.want)
	}
	for i := range 256 {
		b := string([]byte{byte(i)})
		name := symbols.Valid([]string{b}) || strings.Contains("01()[]*+ ", b)
		if name {
			continue
		}
		checkNoParse(t, rational(), table, "a  "+b, 3, api.ErrSyntax)
		checkNoParse(t, rational(), table, "a +"+b+"b", 3, api.ErrSyntax)
		checkNoParse(t, rational(), table, "(a"+b+")", 2, api.ErrSyntax)
	}
}

func TestErrorsOfParseInOrder(t *testing.T) {
	noTables := [][]string{nil, {"a", "a"}, {"a", "*"}, {""}, {"0"}, {"a", "b c"}, names(api.MaxSymbols + 1), {strings.Repeat("n", api.MaxName+1)}}
	long := strings.Repeat(" ", api.MaxText) + "a"
	for _, text := range []string{"", "a", "[x]a", "c", "a +", long, strings.Repeat("(", api.MaxText+1)} {
		for _, r := range noRings() {
			checkNoParse(t, r, []string{"a"}, text, 0, api.ErrRing)
			checkNoParse(t, r, noTables[1], text, 0, api.ErrRing)
		}
		for _, table := range noTables {
			checkNoParse(t, rational(), table, text, 0, api.ErrName)
		}
	}
	for _, text := range []string{long, "c" + long, "[x]" + long, long + ")", strings.Repeat("a ", api.MaxText)} {
		checkNoParse(t, rational(), []string{"a"}, text, 0, api.ErrLimit)
	}
	// What does not fit comes before the limits of operations and levels, wherever it stands.
	many := strings.Repeat("a + ", 300)
	for text, want := range map[string]api.Errno{many + "a": api.ErrLimit, many: api.ErrSyntax, many + "c": api.ErrName, many + "[x]a": api.ErrForm, many + "a)": api.ErrSyntax} {
		at := len(many)
		switch {
		case want == api.ErrLimit:
			at = 0
		case want == api.ErrForm || strings.HasSuffix(text, ")"):
			at++
		}
		checkNoParse(t, rational(), []string{"a"}, text, at, want)
	}
}

func TestLongTexts(t *testing.T) {
	table := []string{"a"}
	for size := api.MaxText - 2; size <= api.MaxText+2; size++ {
		for _, text := range []string{strings.Repeat(" ", size-1) + "a", "a" + strings.Repeat(" ", size-1), "(" + strings.Repeat(" ", size-3) + "a)"} {
			if len(text) > api.MaxText {
				checkNoParse(t, rational(), table, text, 0, api.ErrLimit)
				continue
			}
			checkParse(t, rational(), table, text, letter(1).list())
		}
	}
	half := (api.MaxText - 1) / 2
	checkParse(t, rational(), table, strings.Repeat("(", half)+"a"+strings.Repeat(")", half), letter(1).list())
	for text, at := range map[string]int{
		strings.Repeat("(", api.MaxText): api.MaxText, strings.Repeat("(", half) + "a" + strings.Repeat(")", half-1): api.MaxText - 2, strings.Repeat(" ", api.MaxText): api.MaxText,
		strings.Repeat("[1]", api.MaxText/3): api.MaxText / 3 * 3, strings.Repeat("[", api.MaxText): api.MaxText, strings.Repeat("a+", api.MaxText/2): api.MaxText, strings.Repeat("*", api.MaxText): 0,
	} {
		checkNoParse(t, rational(), table, text, at, api.ErrSyntax)
	}
	for _, text := range []string{
		strings.Repeat("a ", api.MaxText/2), "a" + strings.Repeat("+a", api.MaxText/2-1), "a" + strings.Repeat("*", api.MaxText-1), strings.Repeat("[1]", api.MaxText/3-1) + "a",
		strings.Repeat("a(", api.MaxText/4) + "a" + strings.Repeat(")", api.MaxText/4), strings.Repeat("(", 4000) + "a" + strings.Repeat("+a)", 4000),
	} {
		checkNoParse(t, rational(), table, text, 0, api.ErrLimit)
	}
}

func TestLimitsOfExpressions(t *testing.T) {
	for levels := 1; levels <= api.MaxDepth+3; levels++ {
		deepest := levels - 1
		for _, text := range []string{
			"a" + strings.Repeat(" a", deepest), "a" + strings.Repeat(" + a", deepest), "a" + strings.Repeat("*", deepest), strings.Repeat("[1]", deepest) + "a",
			strings.Repeat("a (", deepest) + "a" + strings.Repeat(")", deepest), strings.Repeat("a + (", deepest) + "a" + strings.Repeat(")", deepest), "b (" + "a" + strings.Repeat("*", max(deepest-1, 0)) + ")",
		} {
			if levels > api.MaxDepth {
				checkNoParse(t, rational(), []string{"a", "b"}, text, 0, api.ErrLimit)
			} else if e, _, err := regex.Parse(rational(), []string{"a", "b"}, text); err != api.OK || !regex.Valid(rational(), 2, e) {
				t.Errorf("%d levels: %v, %q", levels, err, text)
			}
		}
	}
	for size := api.MaxNodes - 3; size <= api.MaxNodes+3; size++ {
		x := balanced(size)
		text := x.text(rational(), []string{"a"}, everywhere)
		if size > api.MaxNodes {
			checkNoParse(t, rational(), []string{"a"}, text, 0, api.ErrLimit)
			continue
		}
		checkParse(t, rational(), []string{"a"}, text, x.list())
	}
}

// everywhere puts all operands in brackets.
func everywhere(string, int) bool {
	return true
}

func TestParseOfBrackets(t *testing.T) {
	source := rand.New(rand.NewSource(4))
	table := []string{"a", "b"}
	for _, s := range ringCases() {
		for range 200 {
			x := random(t, source, s, 6)
			text := strings.ReplaceAll(x.text(s.ring, table, everywhere), " ", "")
			if len(x.list()) > api.MaxNodes {
				continue
			}
			checkParse(t, s.ring, table, text, x.list())
			// Spaces everywhere outside weights.
			var spaced strings.Builder
			inWeight := false
			for _, c := range text {
				inWeight = c == '[' || inWeight && c != ']'
				if !inWeight && c != ']' || c == '[' {
					spaced.WriteString(strings.Repeat(" ", source.Intn(3)))
				}
				spaced.WriteRune(c)
			}
			checkParse(t, s.ring, table, spaced.String()+" ", x.list())
		}
	}
}

// shunter reads a text with a stack of signs that wait for operands, as another way to find what it stands for.
type shunter struct {
	table []string
	signs []api.ENode
	done  []*expression
	at    int
}

// bracket is the sign of an opening bracket.
const bracket = 0

// rank tells which signs bind more.
func rank(op int) int {
	return slices.Index([]int{bracket, api.ESum, api.EProduct, api.EScale}, op)
}

// settle builds what binds as much as a rank, or more.
func (s *shunter) settle(least int) {
	for len(s.signs) > 0 && rank(s.signs[len(s.signs)-1].Op) >= least {
		sign := s.signs[len(s.signs)-1]
		s.signs = s.signs[:len(s.signs)-1]
		n := 2
		if sign.Op == api.EScale {
			n = 1
		}
		x := &expression{sign, slices.Clone(s.done[len(s.done)-n:])}
		s.done = append(s.done[:len(s.done)-n], x)
	}
}

// operand takes an operand without operands, with the factors before it.
func (s *shunter) operand(x *expression) {
	s.done = append(s.done, x)
	s.settle(rank(api.EScale))
}

// factor takes a weight in brackets.
func (s *shunter) factor(text string) api.Errno {
	end := strings.Index(text[s.at:], "]")
	if end < 0 {
		s.at = len(text)
		return api.ErrSyntax
	}
	w, ok := semiring.Parse(rational(), text[s.at+1:s.at+end])
	if !ok {
		s.at++
		return api.ErrForm
	}
	s.signs = append(s.signs, api.ENode{Op: api.EScale, Weight: w})
	s.at += end + 1
	return api.OK
}

// name takes a name, "0" or "1".
func (s *shunter) name(name string) api.Errno {
	symbol := slices.Index(s.table, name) + 1
	switch {
	case name == "0":
		s.operand(of(api.EZero))
	case name == "1":
		s.operand(of(api.EOne))
	case symbol == 0:
		return api.ErrName
	default:
		s.operand(letter(symbol))
	}
	s.at += len(name)
	return api.OK
}

// sign takes a sign behind an operand, and tells whether it ends one itself.
func (s *shunter) sign(c byte) (behind bool, err api.Errno) {
	switch c {
	case '+':
		s.settle(rank(api.ESum))
		s.signs = append(s.signs, api.ENode{Op: api.ESum})
	case '*':
		last := len(s.done) - 1
		s.done[last] = of(api.EStar, s.done[last])
	case ')':
		s.settle(rank(api.ESum))
		if len(s.signs) == 0 {
			return false, api.ErrSyntax
		}
		s.signs = s.signs[:len(s.signs)-1]
		// Factors in front of the opening bracket have had no operand until now.
		s.settle(rank(api.EScale))
	default:
		return false, api.ErrSyntax
	}
	s.at++
	return c != '+', api.OK
}

// shunt reads a text over Rational. The error is at s.at.
func (s *shunter) shunt(text string) (err api.Errno) {
	behind := false // an operand
	for s.at < len(text) && err == api.OK {
		c := text[s.at]
		name := nameAt(text, s.at)
		if behind && (c == '(' || c == '[' || name != "") {
			s.settle(rank(api.EProduct))
			s.signs = append(s.signs, api.ENode{Op: api.EProduct})
		}
		switch {
		case c == ' ':
			s.at++
		case c == '(':
			s.signs = append(s.signs, api.ENode{Op: bracket})
			s.at++
			behind = false
		case c == '[':
			err = s.factor(text)
			behind = false
		case name != "":
			err = s.name(name)
			behind = true
		case behind:
			behind, err = s.sign(c)
		default:
			err = api.ErrSyntax
		}
	}
	if err != api.OK {
		return err
	}
	if !behind {
		return api.ErrSyntax
	}
	s.settle(rank(api.ESum))
	if len(s.signs) > 0 {
		return api.ErrSyntax
	}
	return api.OK
}

// nameAt returns the bytes of names from a place on.
func nameAt(text string, at int) string {
	end := at
	for end < len(text) && text[end] > ' ' && text[end] < 127 && !strings.Contains("#()*+|-[]", text[end:end+1]) {
		end++
	}
	return text[at:end]
}

// checkShunted compares Parse with shunt.
func checkShunted(t *testing.T, text string) {
	t.Helper()
	s := shunter{table: []string{"a", "b", "a1"}}
	err := s.shunt(text)
	if err != api.OK {
		checkNoParse(t, rational(), s.table, text, s.at, err)
		return
	}
	checkParse(t, rational(), s.table, text, s.done[0].list())
}

func TestAllSmallTexts(t *testing.T) {
	const bytes = " 01a()[]+*"
	var texts func(text string)
	texts = func(text string) {
		checkShunted(t, text)
		for i := range len(bytes) {
			if len(text) < 5 {
				texts(text + bytes[i:i+1])
			}
		}
	}
	texts("")
}

func TestRandomTexts(t *testing.T) {
	source := rand.New(rand.NewSource(5))
	pieces := []string{"a", "b", "a1", "a", "b", "0", "1", "[1/2]", "[-3]", "(", ")", "(", ")", "+", "+", "*", " ", " ", " ", "c", "[x]", "[", "]", "#"}
	for round := range 100000 {
		// Most texts have parts from the front of the list alone, so that they can be long and fit.
		most := len(pieces) - 5
		if round%10 == 0 {
			most = len(pieces)
		}
		text := ""
		for range 1 + source.Intn(14) {
			text += pieces[source.Intn(most)]
		}
		checkShunted(t, text)
	}
}
