package rational

import (
	"math"
	"math/big"
	"slices"
	"strconv"
	"strings"
	"testing"

	"weighted/api"
)

// number reads a number that a test relies on.
func number(t *testing.T, s string) api.Rat {
	t.Helper()
	x, ok := Parse(s)
	if !ok {
		t.Fatalf("no number: %.40q", s)
	}
	return x
}

// same reports whether two numbers have the same fields.
func same(x, y api.Rat) bool {
	return x.Neg == y.Neg && slices.Equal(x.Num, y.Num) && slices.Equal(x.Den, y.Den)
}

// check compares a result with the text of the number that is expected.
func check(t *testing.T, what string, got api.Rat, want string) {
	t.Helper()
	if !Valid(got) || Format(got) != want {
		t.Errorf("%s: %s (%v), not %s", what, Format(got), got, want)
	}
}

// invalid returns numbers that are not Valid, each for one reason.
func invalid() []api.Rat {
	return []api.Rat{
		{Num: []uint32{0}},
		{Num: []uint32{0, 0, 0}},
		{Num: []uint32{5, 0}},
		{Neg: true, Num: []uint32{1, 2, 3, 0}},
		{Num: []uint32{5}, Den: []uint32{0}},
		{Num: []uint32{5}, Den: []uint32{2, 0}},
		{Num: []uint32{5}, Den: []uint32{1}},
		{Num: []uint32{5}, Den: []uint32{1, 0}},
		{Num: []uint32{4}, Den: []uint32{6}},
		{Num: []uint32{7}, Den: []uint32{7}},
		{Num: []uint32{0, 1}, Den: []uint32{6}},
		{Num: []uint32{0, 0, 1}, Den: []uint32{0, 0, 3}},
		{Num: []uint32{3, 3, 3, 3}, Den: []uint32{5, 5, 5, 5}},
		{Den: []uint32{2}},
		{Den: []uint32{1}},
		{Den: []uint32{0}},
		{Neg: true},
		{Neg: true, Num: []uint32{0}},
		{Neg: true, Den: []uint32{3}},
	}
}

func TestValid(t *testing.T) {
	for _, x := range invalid() {
		if Valid(x) {
			t.Errorf("%v is valid", x)
		}
	}
	for _, x := range []api.Rat{
		{},
		{Num: []uint32{}, Den: []uint32{}},
		{Num: []uint32{1}},
		{Neg: true, Num: []uint32{1}},
		{Num: []uint32{1}, Den: []uint32{}},
		{Neg: true, Num: []uint32{3}, Den: []uint32{2}},
		{Num: []uint32{1}, Den: []uint32{math.MaxUint32}},
		{Num: []uint32{0, 1}},
		{Num: []uint32{0, 1}, Den: []uint32{3}},
		{Num: []uint32{1}, Den: []uint32{0, 0, 0, 1}},
		{Num: []uint32{0, 0, 0, 1}, Den: []uint32{1, 1, 1}},
		{Num: []uint32{math.MaxUint32, math.MaxUint32, math.MaxUint32}, Den: []uint32{0, 0, 0, 1}},
	} {
		if !Valid(x) {
			t.Errorf("%v is not valid", x)
		}
	}
}

func TestInvalidCountsAsZero(t *testing.T) {
	seven := number(t, "7/2")
	for _, x := range invalid() {
		for what, got := range map[string]api.Rat{
			"neg": Neg(x), "abs": Abs(x), "down": Down(x, 3), "up": Up(x, 3), "times": Mul(x, seven), "times it": Mul(seven, x), "itself": Add(x, x), "less itself": Sub(x, x),
		} {
			if !same(got, api.Rat{}) {
				t.Errorf("%v: %s: %v", x, what, got)
			}
		}
		check(t, "sum", Add(x, seven), "7/2")
		check(t, "sum", Add(seven, x), "7/2")
		check(t, "difference", Sub(seven, x), "7/2")
		check(t, "difference", Sub(x, seven), "-7/2")
		if Sign(x) != 0 || Compare(x, api.Rat{}) != 0 || Compare(api.Rat{}, x) != 0 || Compare(x, seven) != -1 || Compare(seven, x) != 1 || Format(x) != "0" {
			t.Errorf("%v does not count as 0: %d %s", x, Sign(x), Format(x))
		}
		if v, ok := Whole(x); v != 0 || !ok {
			t.Errorf("%v: %d %v", x, v, ok)
		}
		if y, e := Div(seven, x); e != api.ErrZero || !same(y, api.Rat{}) {
			t.Errorf("7/2 by %v: %v %v", x, y, e)
		}
		if y, e := Div(x, seven); e != api.OK || !same(y, api.Rat{}) {
			t.Errorf("%v by 7/2: %v %v", x, y, e)
		}
	}
}

func TestMake(t *testing.T) {
	for _, x := range []struct {
		num, den int
		want     string
	}{
		{6, -4, "-3/2"}, {-6, 4, "-3/2"}, {-6, -3, "2"}, {0, 1, "0"}, {0, -5, "0"}, {0, math.MinInt, "0"}, {5, 1, "5"}, {5, 5, "1"},
		{math.MinInt, 1, "-9223372036854775808"}, {math.MinInt, -1, "9223372036854775808"}, {math.MinInt, math.MinInt, "1"}, {1, math.MinInt, "-1/9223372036854775808"},
		{math.MaxInt, 1, "9223372036854775807"}, {math.MaxInt, math.MaxInt, "1"}, {math.MaxInt, math.MinInt, "-9223372036854775807/9223372036854775808"}, {math.MinInt, 6, "-4611686018427387904/3"},
	} {
		got, e := Make(x.num, x.den)
		check(t, strconv.Itoa(x.num)+" by "+strconv.Itoa(x.den), got, x.want)
		if e != api.OK {
			t.Errorf("%d / %d: %v", x.num, x.den, e)
		}
	}
	if got, _ := Make(6, -4); !same(got, api.Rat{Neg: true, Num: []uint32{3}, Den: []uint32{2}}) {
		t.Errorf("6 / -4: %v", got)
	}
	for _, num := range []int{0, 5, math.MinInt} {
		if got, e := Make(num, 0); e != api.ErrZero || !same(got, api.Rat{}) {
			t.Errorf("%d / 0: %v %v", num, got, e)
		}
	}
	for num := -12; num <= 12; num++ {
		for den := -12; den <= 12; den++ {
			if den != 0 {
				got, _ := Make(num, den)
				check(t, "small", got, big.NewRat(int64(num), int64(den)).RatString())
			}
		}
	}
}

func TestOrder(t *testing.T) {
	order := []string{"-" + strings.Repeat("9", 200), "-18446744073709551616", "-4294967297", "-4294967296", "-3", "-5/2", "-5/3", "-1", "-1/1000", "-1/18446744073709551616", "0", "1/18446744073709551616", "1/4294967296", "1/4294967295", "1/3", "1/2", "2/3", "18446744073709551615/18446744073709551616", "1", "7/2", "4294967295", "4294967296", "18446744073709551616", "18446744073709551617"}
	for i, s := range order {
		x := number(t, s)
		for k, u := range order {
			want := 0
			if i < k {
				want = -1
			} else if i > k {
				want = 1
			}
			if got := Compare(x, number(t, u)); got != want {
				t.Errorf("%s, %s: %d", s, u, got)
			}
		}
		if Sign(x) != Compare(x, api.Rat{}) {
			t.Errorf("%s: sign %d", s, Sign(x))
		}
		check(t, "abs", Abs(x), strings.TrimPrefix(s, "-"))
		minus := "-" + s
		if s == "0" || s[0] == '-' {
			minus = strings.TrimPrefix(s, "-")
		}
		check(t, "neg", Neg(x), minus)
	}
}

func TestArithmetic(t *testing.T) {
	for _, x := range [][6]string{
		{"1/2", "1/3", "5/6", "1/6", "1/6", "3/2"},
		{"1/2", "1/2", "1", "0", "1/4", "1"},
		{"-1/2", "1/2", "0", "-1", "-1/4", "-1"},
		{"-1/2", "-1/3", "-5/6", "-1/6", "1/6", "3/2"},
		{"3", "-2", "1", "5", "-6", "-3/2"},
		{"0", "7/5", "7/5", "-7/5", "0", "0"},
		{"0", "-7/5", "-7/5", "7/5", "0", "0"},
		{"1/6", "1/10", "4/15", "1/15", "1/60", "5/3"},
		{"3/4", "2/3", "17/12", "1/12", "1/2", "9/8"},
		{"6/5", "5/6", "61/30", "11/30", "1", "36/25"},
		{"18446744073709551615", "1", "18446744073709551616", "18446744073709551614", "18446744073709551615", "18446744073709551615"},
		{"18446744073709551616", "-1", "18446744073709551615", "18446744073709551617", "-18446744073709551616", "-18446744073709551616"},
	} {
		a, b := number(t, x[0]), number(t, x[1])
		name := x[0] + " and " + x[1]
		check(t, name+" add", Add(a, b), x[2])
		check(t, name+" sub", Sub(a, b), x[3])
		check(t, name+" mul", Mul(a, b), x[4])
		d, e := Div(a, b)
		check(t, name+" div", d, x[5])
		if e != api.OK {
			t.Errorf("%s: %v", name, e)
		}
	}
	for _, s := range []string{"0", "1", "-2/3"} {
		if d, e := Div(number(t, s), api.Rat{}); e != api.ErrZero || !same(d, api.Rat{}) {
			t.Errorf("%s by 0: %v %v", s, d, e)
		}
	}
	for _, s := range []string{"0", "5", "-5", "2/3"} {
		check(t, "less zero", Sub(number(t, s), api.Rat{}), s)
		check(t, "and zero", Add(number(t, s), api.Rat{}), s)
	}
}

func TestDownAndUp(t *testing.T) {
	all := strings.Repeat("9", 60)
	for _, x := range []struct {
		s        string
		bits     int
		down, up string
	}{
		{"5/3", 1, "3/2", "2"}, {"5/3", 0, "1", "2"}, {"-5/3", 0, "-2", "-1"}, {"-5/3", 1, "-2", "-3/2"}, {"3/2", 0, "1", "2"}, {"3/2", 1, "3/2", "3/2"}, {"-3/2", 1, "-3/2", "-3/2"}, {"3/2", 2, "3/2", "3/2"},
		{"0", 0, "0", "0"}, {"0", 256, "0", "0"}, {"1/3", 0, "0", "1"}, {"-1/3", 0, "-1", "0"}, {"1/3", 2, "1/4", "1/2"}, {"-1/3", 2, "-1/2", "-1/4"}, {"7", 256, "7", "7"}, {all, 256, all, all}, {"6", 0, "6", "6"},
		{"1/3", 32, "1431655765/4294967296", "715827883/2147483648"}, {"1/3", 64, "6148914691236517205/18446744073709551616", "3074457345618258603/9223372036854775808"},
		{"5/3", -1, "0", "0"}, {"5/3", 257, "0", "0"}, {"5", 257, "0", "0"}, {"5", math.MinInt, "0", "0"}, {"5", math.MaxInt, "0", "0"},
	} {
		check(t, x.s+" down", Down(number(t, x.s), x.bits), x.down)
		check(t, x.s+" up", Up(number(t, x.s), x.bits), x.up)
	}
	third := number(t, "1/3")
	step := new(big.Int).Lsh(big.NewInt(1), 256)
	below := new(big.Rat).SetFrac(new(big.Int).Div(step, big.NewInt(3)), step)
	check(t, "256 bits", Down(third, 256), below.RatString())
	check(t, "256 bits apart", Sub(Up(third, 256), Down(third, 256)), "1/"+step.String())
}

func TestWhole(t *testing.T) {
	for _, v := range []int{0, 1, -1, 7, -7, 1 << 31, -1 << 31, 1<<32 - 1, 1 << 32, -1 << 32, math.MaxInt, math.MaxInt - 1, math.MinInt, math.MinInt + 1} {
		if got, ok := Whole(number(t, strconv.Itoa(v))); got != v || !ok {
			t.Errorf("%d: %d %v", v, got, ok)
		}
	}
	for _, s := range []string{"1/2", "-1/2", "7/3", "9223372036854775808", "-9223372036854775809", "18446744073709551615", "-18446744073709551615", "-18446744073709551616", "18446744073709551616", "18446744073709551617", "-" + strings.Repeat("9", 100)} {
		if got, ok := Whole(number(t, s)); got != 0 || ok {
			t.Errorf("%s: %d %v", s, got, ok)
		}
	}
}

func TestText(t *testing.T) {
	most := strings.Repeat("9", api.MaxDigits)
	for s, want := range map[string]string{
		"0": "0", "-0": "0", "0/5": "0", "-0/7": "0", "0/1": "0", "4/6": "2/3", "-4/6": "-2/3", "7/1": "7", "7/7": "1", "-6/3": "-2", "12/18446744073709551616": "3/4611686018427387904",
		"999999999": "999999999", "1000000000": "1000000000", "1000000001/3": "1000000001/3", "1000000000000000001": "1000000000000000001", "-123000000000456000000000789": "-123000000000456000000000789", "4294967296": "4294967296", "18446744073709551616": "18446744073709551616",
		most: most, "-" + most + "/2": "-" + most + "/2", "2/" + most: "2/" + most, most + "/" + most: "1", "1" + strings.Repeat("0", api.MaxDigits-1): "1" + strings.Repeat("0", api.MaxDigits-1), "-0/" + most: "0",
	} {
		if x, ok := Parse(s); !ok || !Valid(x) || Format(x) != want {
			t.Errorf("%.40s: %v %.40s", s, ok, Format(x))
		}
	}
	for _, s := range []string{
		"", "-", "/", "-/", "--1", "+1", "- 1", "01", "00", "-00", "-01", "1/", "/2", "-/2", "1/0", "1/-2", "1/+2", "1/02", "1/00", "0/0", "1/2/3", "1//2", "1.5", " 1", "1 ", "1 /2", "1/2 ", "1a", "a", "1e3", "1_0", "0x1", "1\x00", "\u0661", "1/\u0661", "123456789a", "1234567890-1",
		"9" + most, "1/9" + most, "9" + most + "/1", "0" + most, "-9" + most,
	} {
		if x, ok := Parse(s); ok || !same(x, api.Rat{}) {
			t.Errorf("%.40q: %v", s, x)
		}
	}
}

func TestFormatOfLargeNumbers(t *testing.T) {
	wide := new(big.Int).Sub(new(big.Int).Lsh(big.NewInt(1), 32*700), big.NewInt(1))
	x := api.Rat{Neg: true, Num: slices.Repeat([]uint32{math.MaxUint32}, 700), Den: append(make([]uint32, 700), 1)}
	if got, want := Format(x), "-"+wide.String()+"/"+wide.Add(wide, big.NewInt(1)).String(); got != want {
		t.Errorf("%.40s, not %.40s", got, want)
	}
}

func TestMemory(t *testing.T) {
	x, y := number(t, "-7/3"), number(t, "5/4")
	sum, _ := Make(6, 4)
	quotient, _ := Div(x, y)
	read, _ := Parse("14/6")
	for _, z := range []api.Rat{Neg(x), Abs(x), Add(x, api.Rat{}), Add(api.Rat{}, x), Add(x, y), Sub(x, api.Rat{}), Sub(api.Rat{}, x), Mul(x, number(t, "1")), Mul(number(t, "1"), x), Mul(x, y), Down(y, 2), Up(y, 2), sum, quotient, read} {
		before := slices.Clone(z.Den)
		for i := range z.Num {
			z.Num[i] = 99
		}
		if z.Num = append(z.Num, 99, 99); !slices.Equal(z.Den, before) {
			t.Errorf("%v: Num and Den share memory", z)
		}
		for i := range z.Den {
			z.Den[i] = 99
		}
	}
	check(t, "argument", x, "-7/3")
	check(t, "argument", y, "5/4")
}

// hidden returns x with limbs behind the lengths of its slices, and these limbs.
func hidden(x api.Rat) (api.Rat, []uint32, []uint32) {
	num := append(slices.Clone(x.Num), 7, 7, 7)
	den := append(slices.Clone(x.Den), 7, 7, 7)
	return api.Rat{Neg: x.Neg, Num: num[:len(x.Num)], Den: den[:len(x.Den)]}, num, den
}

func TestArgumentsAreLeftAlone(t *testing.T) {
	for _, s := range []string{"0", "5", "-7/3", "18446744073709551617/9223372036854775808", "-123456789012345678901234567890/1234567890123456789012345678901"} {
		for _, u := range []string{"0", "3/7", "-1234567890123456789012345678901234567890/987654321098765432109876543211", "18446744073709551616"} {
			x, xNum, xDen := hidden(number(t, s))
			y, yNum, yDen := hidden(number(t, u))
			wants := [][]uint32{slices.Clone(xNum), slices.Clone(xDen), slices.Clone(yNum), slices.Clone(yDen)}
			for _, z := range []api.Rat{Add(x, y), Sub(x, y), Mul(x, y), Neg(x), Abs(x), Down(x, 40), Up(x, 40)} {
				_ = append(append(z.Num, 9), append(z.Den, 9)...)
			}
			_, _ = Div(x, y)
			_, _ = Compare(x, y), Sign(x)
			_, _ = Format(x), Valid(x)
			_, _ = Whole(x)
			for i, got := range [][]uint32{xNum, xDen, yNum, yDen} {
				if !slices.Equal(got, wants[i]) {
					t.Errorf("%s, %s: an argument has changed: %v", s, u, got)
				}
			}
		}
	}
}
