package regex_test

import (
	"math/rand"
	"slices"
	"strings"
	"testing"
	"time"

	"weighted/api"
	"weighted/regex"
	"weighted/semiring"
)

// checkFormat checks the text of an expression, and that it is read back.
func checkFormat(t *testing.T, r api.Ring, table []string, e []api.ENode, want string) {
	t.Helper()
	text, err := regex.Format(r, table, e)
	if err != api.OK || text != want {
		t.Errorf("%v: %v, %.300q, not %.300q", e, err, text, want)
	}
	checkParse(t, r, table, want, e)
}

// checkNoFormat checks that there is an error, and nothing else.
func checkNoFormat(t *testing.T, r api.Ring, table []string, e []api.ENode, want api.Errno) {
	t.Helper()
	if text, err := regex.Format(r, table, e); err != want || text != "" {
		t.Errorf("%v, %v, %v: %v, %.300q, not %v", r, table, e, err, text, want)
	}
}

// operandTexts returns what stands for each operation as an operand, by the place where it stands. The operands of the operand are the symbols p and q, with the factor 1/2.
func operandTexts() map[string][7]string {
	const zero, one, symbol, scale, sum, product, star = "0", "1", "p", "[1/2]p", "p + q", "p q", "p*"
	in := func(s string) string { return "(" + s + ")" }
	return map[string][7]string{
		"[3]%":   {zero, one, symbol, scale, in(sum), in(product), in(star)},
		"% + q":  {zero, one, symbol, scale, sum, product, star},
		"q + %":  {zero, one, symbol, scale, in(sum), product, star},
		"% q":    {zero, one, symbol, scale, in(sum), product, star},
		"q %":    {zero, one, symbol, scale, in(sum), in(product), star},
		"%*":     {zero, one, symbol, scale, in(sum), in(product), star},
		"(% q)*": {zero, one, symbol, scale, in(sum), product, star},
	}
}

func TestBrackets(t *testing.T) {
	table := []string{"p", "q"}
	p, q := letter(1), letter(2)
	half, three := read(t, rational(), "1/2"), read(t, rational(), "3")
	inner := [7]*expression{of(api.EZero), of(api.EOne), p, scaled(half, p), of(api.ESum, p, q), of(api.EProduct, p, q), of(api.EStar, p)}
	outer := map[string]func(x *expression) *expression{
		"[3]%":   func(x *expression) *expression { return scaled(three, x) },
		"% + q":  func(x *expression) *expression { return of(api.ESum, x, q) },
		"q + %":  func(x *expression) *expression { return of(api.ESum, q, x) },
		"% q":    func(x *expression) *expression { return of(api.EProduct, x, q) },
		"q %":    func(x *expression) *expression { return of(api.EProduct, q, x) },
		"%*":     func(x *expression) *expression { return of(api.EStar, x) },
		"(% q)*": func(x *expression) *expression { return of(api.EStar, of(api.EProduct, x, q)) },
	}
	for place, texts := range operandTexts() {
		for i, text := range texts {
			checkFormat(t, rational(), table, outer[place](inner[i]).list(), strings.Replace(place, "%", text, 1))
		}
	}
}

func TestFormat(t *testing.T) {
	table := []string{"a", "b", "10", "~"}
	a, b, half := letter(1), letter(2), read(t, rational(), "-1/2")
	for _, x := range []struct {
		x    *expression
		want string
	}{
		{of(api.EZero), "0"}, {of(api.EOne), "1"}, {a, "a"}, {letter(3), "10"}, {letter(4), "~"},
		{scaled(half, a), "[-1/2]a"}, {scaled(read(t, rational(), "0"), a), "[0]a"}, {scaled(read(t, rational(), "1"), of(api.EOne)), "[1]1"}, {scaled(half, scaled(half, b)), "[-1/2][-1/2]b"},
		{of(api.ESum, of(api.ESum, a, b), a), "a + b + a"}, {of(api.ESum, a, of(api.ESum, b, a)), "a + (b + a)"}, {of(api.EProduct, of(api.EProduct, a, b), a), "a b a"}, {of(api.EProduct, a, of(api.EProduct, b, a)), "a (b a)"},
		{of(api.EProduct, of(api.ESum, a, b), of(api.ESum, b, a)), "(a + b) (b + a)"}, {of(api.ESum, of(api.EProduct, a, b), of(api.EProduct, b, a)), "a b + b a"},
		{of(api.EStar, of(api.EStar, a)), "a**"}, {of(api.EStar, scaled(half, a)), "[-1/2]a*"}, {scaled(half, of(api.EStar, a)), "[-1/2](a*)"}, {of(api.EStar, scaled(half, of(api.EStar, a))), "[-1/2](a*)*"},
		{of(api.EStar, of(api.ESum, scaled(half, a), of(api.EProduct, of(api.EStar, b), letter(3)))), "([-1/2]a + b* 10)*"},
		{of(api.EProduct, of(api.EZero), of(api.EProduct, of(api.EOne), of(api.ESum, of(api.EOne), of(api.EZero)))), "0 (1 (1 + 0))"},
	} {
		checkFormat(t, rational(), table, x.x.list(), x.want)
	}
	for _, s := range ringCases() {
		for _, text := range append(s.others, s.zero, s.one) {
			checkFormat(t, s.ring, table, of(api.EProduct, scaled(read(t, s.ring, text), a), b).list(), "["+text+"]a b")
		}
	}
	most := names(api.MaxSymbols)
	for i, name := range most {
		checkFormat(t, rational(), most, of(api.EStar, letter(i+1)).list(), name+"*")
	}
}

// brackets tells whether the texts of operandTexts have brackets.
func brackets(place string, op int) bool {
	return strings.HasPrefix(operandTexts()[place][op-1], "(")
}

func TestFormatOfRandomExpressions(t *testing.T) {
	source := rand.New(rand.NewSource(6))
	table := []string{"a", "b"}
	for _, s := range ringCases() {
		for i := range 300 {
			x := random(t, source, s, 1+i%8)
			if e := x.list(); len(e) <= api.MaxNodes {
				checkFormat(t, s.ring, table, e, x.text(s.ring, table, brackets))
			}
		}
	}
}

func TestFormatOfLargeExpressions(t *testing.T) {
	table := []string{strings.Repeat("n", api.MaxName)}
	for _, x := range []*expression{balanced(api.MaxNodes), balanced(api.MaxNodes - 1), deep(api.MaxDepth, false), deep(api.MaxDepth, true)} {
		checkFormat(t, rational(), table, x.list(), x.text(rational(), table, brackets))
	}
	for _, x := range []*expression{balanced(api.MaxNodes + 1), deep(api.MaxDepth+1, false), deep(api.MaxDepth+1, true)} {
		checkNoFormat(t, rational(), table, x.list(), api.ErrForm)
	}
}

func TestErrorsOfFormat(t *testing.T) {
	good := of(api.ESum, scaled(read(t, rational(), "2"), letter(1)), letter(2)).list()
	checkFormat(t, rational(), []string{"a", "b"}, good, "[2]a + b")
	var long api.Weight
	long.Q.Num = slices.Repeat([]uint32{7}, 2000)
	tooLong := scaled(long, letter(1)).list()
	checkNoFormat(t, rational(), []string{"a"}, tooLong, api.ErrLimit)
	bad := [][]api.ENode{
		nil, good[:3], good[1:], append(slices.Clone(good), good[3]), {{}}, {{Op: 8}}, {{Op: api.ESymbol}}, {{Op: api.ESymbol, Num: 33}}, {{Op: api.ESymbol, Num: -1}}, {{Op: api.EOne, Num: 1}},
		{{Op: api.EScale, Weight: api.Weight{Cost: 1}}, {Op: api.EOne}}, {{Op: api.EStar, Weight: long}, {Op: api.EOne}}, append([]api.ENode{{Op: api.ESum}}, tooLong...),
	}
	tables := [][]string{{"a", "b"}, nil, {"a", "a"}, {"a", "*"}, {""}, {"1"}, {"a", "b c"}, names(api.MaxSymbols + 1), {strings.Repeat("n", api.MaxName+1)}}
	for i, table := range tables {
		for _, e := range append(bad, good, tooLong) {
			for _, r := range noRings() {
				checkNoFormat(t, r, table, e, api.ErrRing)
			}
			if i > 0 {
				checkNoFormat(t, rational(), table, e, api.ErrName)
			}
		}
	}
	for _, e := range bad {
		checkNoFormat(t, rational(), tables[0], e, api.ErrForm)
	}
	// The symbol 2 has no name, and the factor is none of this ring.
	checkNoFormat(t, rational(), []string{"a"}, good, api.ErrForm)
	checkNoFormat(t, api.Ring{Kind: api.Tropical}, []string{"a", "b"}, good, api.ErrForm)
}

func TestTextsThatBecomeTooLong(t *testing.T) {
	table := []string{"a"}
	for _, x := range []struct {
		text string
		x    func(w api.Weight) *expression
	}{
		{"[%]a", func(w api.Weight) *expression { return scaled(w, letter(1)) }},
		{"a + [%]a* a", func(w api.Weight) *expression {
			return of(api.ESum, letter(1), of(api.EProduct, of(api.EStar, scaled(w, letter(1))), letter(1)))
		}},
		{"[%](a + a)", func(w api.Weight) *expression { return scaled(w, of(api.ESum, letter(1), letter(1))) }},
		{"([%]a a)*", func(w api.Weight) *expression {
			return of(api.EStar, of(api.EProduct, scaled(w, letter(1)), letter(1)))
		}},
	} {
		for over := -2; over <= 2; over++ {
			digits := strings.Repeat("3", api.MaxText-len(x.text)+len("%")+over)
			e := x.x(number(digits)).list()
			if over > 0 {
				checkNoFormat(t, rational(), table, e, api.ErrLimit)
				continue
			}
			text, err := regex.Format(rational(), table, e)
			if err != api.OK || text != strings.Replace(x.text, "%", digits, 1) {
				t.Errorf("%q with %d more bytes than the limit: %v, %d bytes", x.text, over, err, len(text))
			}
			// The text is not too long to be read, but its number is.
			if _, at, err := regex.Parse(rational(), table, text); err != api.ErrForm || at != strings.Index(text, "[")+1 {
				t.Errorf("%q: %v at %d", x.text, err, at)
			}
		}
	}
}

// number returns a whole number that may have more digits than semiring.Parse reads.
func number(digits string) api.Weight {
	var sum api.Weight
	thousand := api.Weight{Q: api.Rat{Num: []uint32{1000}}}
	for len(digits)%3 != 0 {
		digits = "0" + digits
	}
	for i := 0; i < len(digits); i += 3 {
		n := uint32(digits[i]-'0')*100 + uint32(digits[i+1]-'0')*10 + uint32(digits[i+2]-'0')
		group := api.Weight{Q: api.Rat{Num: []uint32{n}}}
		sum = semiring.Plus(rational(), semiring.Times(rational(), sum, thousand), group)
	}
	return sum
}

func TestFormatEndsEarly(t *testing.T) {
	long := api.Weight{Q: api.Rat{Num: slices.Repeat([]uint32{7}, 8000)}}
	x := letter(1)
	for range 30 {
		x = of(api.ESum, scaled(long, letter(1)), x)
	}
	start := time.Now()
	checkNoFormat(t, rational(), []string{"a"}, x.list(), api.ErrLimit)
	if used := time.Since(start); used > 5*time.Second {
		t.Errorf("a text that is too long takes %v", used)
	}
}
