package fixed_test

import (
	"fmt"
	"math"
	"math/big"
	"regexp"
	"strings"
	"testing"

	"entrepot/api"
	"entrepot/fixed"
)

// most is the greatest M of a Num.
const most = 1000000000000

// pieces make up the texts on which reading is tried: digits, the signs of numbers, blanks and ends
// of lines, the bytes right beside the digits, letters that other readers of numbers take, and
// signs that are no bytes of ours: a wide nought, an Arabic three, bytes that are no signs.
var pieces = []string{"0", "1", "9", "-", ".", "+", " ", "\n", "/", ":", "e", "_", ",", "\x00", "\uff10", "\u0663", "\xff"}

// texts goes through all texts of as many of l's pieces as longest, or fewer.
func texts(l []string, longest int, use func(s string)) {
	var grow func(s string, left int)
	grow = func(s string, left int) {
		use(s)
		if left == 0 {
			return
		}
		for _, p := range l {
			grow(s+p, left-1)
		}
	}
	grow("", longest)
}

// runs goes through all texts of a sign, digits ahead of a point, and digits behind it, of all
// lengths up to the longest ones and some beyond, with noughts at every one of both their ends.
func runs(use func(s string)) {
	digits := func(n, ahead, behind int) string {
		return strings.Repeat("0", min(ahead, n)) + strings.Repeat("7", max(0, n-ahead-behind)) + strings.Repeat("0", min(behind, max(0, n-ahead)))
	}
	for _, sign := range []string{"", "-"} {
		for n := range 15 {
			for noughts := range n + 1 {
				use(sign + digits(n, noughts, 0))
				for m := range 9 {
					for left := range m + 1 {
						use(sign + digits(n, noughts, 0) + "." + digits(m, 0, left))
						use(sign + digits(n, 0, noughts) + "." + digits(m, left, 0))
					}
				}
			}
		}
	}
}

// nums goes through numbers of every scale: small ones, round ones, and those beside the edges.
func nums(use func(n fixed.Num)) {
	edges := []int{0, 125, 12345678, api.MaxNum, 10 * api.MaxNum, 777777777777, most - 100, most}
	for t := 1; t <= most; t *= 10 {
		edges = append(edges, t, 5*t, 95*t)
	}
	for s := range api.MaxScale + 1 {
		for _, edge := range edges {
			for by := -2; by <= 2; by++ {
				if m := edge + by; -most <= m && m <= most {
					use(fixed.Num{M: m, S: s})
					use(fixed.Num{M: -m, S: s})
				}
			}
		}
	}
}

// strange goes through numbers inside and outside of what is promised: of those outside only that
// calls end, and do not panic.
func strange(use func(n fixed.Num)) {
	for _, m := range []int{math.MinInt, math.MinInt + 1, -most - 1, -1, 0, 1, 10, most, most + 1, math.MaxInt} {
		for _, s := range []int{math.MinInt, math.MinInt + 1, -7, -1, 0, api.MaxScale, api.MaxScale + 1, 19, 1 << 40, math.MaxInt} {
			use(fixed.Num{M: m, S: s})
		}
	}
}

// worth is what n is as a quotient.
func worth(n fixed.Num) *big.Rat {
	return new(big.Rat).SetFrac(big.NewInt(int64(n.M)), power(n.S))
}

func power(s int) *big.Int {
	return new(big.Int).Exp(big.NewInt(10), big.NewInt(int64(s)), nil)
}

// plainLeast tells the least number that is worth as much: that of the least S in which it is whole.
func plainLeast(n fixed.Num) fixed.Num {
	w := worth(n)
	for s := 0; ; s++ {
		if m := new(big.Rat).Mul(w, new(big.Rat).SetInt(power(s))); m.IsInt() {
			return fixed.Num{M: int(m.Num().Int64()), S: s}
		}
	}
}

var (
	whole   = regexp.MustCompile(`\A-?[0-9]{1,12}\z`)
	decimal = regexp.MustCompile(`\A-?[0-9]{1,12}(\.[0-9]{1,6})?\z`)
)

// plainRead tells what Read and Int tell of s, as P2.1 words it, by the form that s must have.
func plainRead(form *regexp.Regexp, s string) (fixed.Num, api.Errno) {
	if !form.MatchString(s) {
		return fixed.Num{}, api.ErrDigits
	}
	ahead, behind, _ := strings.Cut(s, ".")
	m, _ := new(big.Int).SetString(ahead+behind, 10)
	n := plainLeast(fixed.Num{M: int(m.Int64()), S: len(behind)})
	if n.M < -api.MaxNum || n.M > api.MaxNum {
		return fixed.Num{}, api.ErrFull
	}
	return n, api.OK
}

// P2.1

func TestInt(t *testing.T) {
	for _, x := range []struct {
		name, s string
		want    int
		e       api.Errno
	}{
		{"one digit", "7", 7, api.OK},
		{"nought", "0", 0, api.OK},
		{"nought below nought", "-0", 0, api.OK},
		{"noughts alone", "000", 0, api.OK},
		{"noughts below nought", "-000", 0, api.OK},
		{"noughts ahead", "0012", 12, api.OK},
		{"noughts ahead are not of base eight", "-010", -10, api.OK},
		{"all ten digits", "98765432", 98765432, api.OK},
		{"more of them", "-10", -10, api.OK},
		{"twelve digits", "000000000001", 1, api.OK},
		{"twelve digits and a sign", "-000100000000", -100000000, api.OK},
		{"thirteen digits", "0000000000001", 0, api.ErrDigits},
		{"thirteen noughts", "0000000000000", 0, api.ErrDigits},
		{"thirteen digits and a sign", "-0000000000001", 0, api.ErrDigits},
		{"MaxNum", "100000000", api.MaxNum, api.OK},
		{"MaxNum and one", "100000001", 0, api.ErrFull},
		{"MaxNum below nought", "-100000000", -api.MaxNum, api.OK},
		{"MaxNum and one below nought", "-100000001", 0, api.ErrFull},
		{"the greatest of twelve digits", "999999999999", 0, api.ErrFull},
		{"the least of twelve digits", "-999999999999", 0, api.ErrFull},
		{"2 to the 64 and 1", "18446744073709551617", 0, api.ErrDigits},
		{"nothing", "", 0, api.ErrDigits},
		{"a sign alone", "-", 0, api.ErrDigits},
		{"two signs", "--1", 0, api.ErrDigits},
		{"a sign behind", "1-", 0, api.ErrDigits},
		{"a plus", "+1", 0, api.ErrDigits},
		{"a blank", " ", 0, api.ErrDigits},
		{"a blank ahead", " 1", 0, api.ErrDigits},
		{"a blank behind", "1 ", 0, api.ErrDigits},
		{"a tab behind", "1\t", 0, api.ErrDigits},
		{"a blank behind the sign", "- 1", 0, api.ErrDigits},
		{"a blank within", "1 2", 0, api.ErrDigits},
		{"an end of line behind", "1\n", 0, api.ErrDigits},
		{"a point", "1.0", 0, api.ErrDigits},
		{"a point behind", "1.", 0, api.ErrDigits},
		{"digits of another base", "0x1f", 0, api.ErrDigits},
		{"a letter behind", "12a", 0, api.ErrDigits},
		{"digits put apart", "1_000", 0, api.ErrDigits},
		{"an exponent", "1e2", 0, api.ErrDigits},
		{"the byte below the digits", "1/", 0, api.ErrDigits},
		{"the byte above the digits", "1:", 0, api.ErrDigits},
		{"a byte 0", "1\x00", 0, api.ErrDigits},
		{"a wide one", "\uff11", 0, api.ErrDigits},
		{"a byte that is no sign", "\xff", 0, api.ErrDigits},
		{"too great, but no number", "999999999x", 0, api.ErrDigits},
	} {
		if n, e := fixed.Int(x.s); n != x.want || e != x.e {
			t.Errorf("%s: Int(%q) = %d, %d, want %d, %d", x.name, x.s, n, e, x.want, x.e)
		}
	}
}

func TestRead(t *testing.T) {
	for _, x := range []struct {
		name, s string
		want    fixed.Num
		e       api.Errno
	}{
		{"the document's example", "-12.50", fixed.Num{-125, 1}, api.OK},
		{"a whole number", "3", fixed.Num{3, 0}, api.OK},
		{"a whole number with noughts behind", "100", fixed.Num{100, 0}, api.OK},
		{"nought", "0", fixed.Num{}, api.OK},
		{"nought below nought", "-0", fixed.Num{}, api.OK},
		{"nought with a point", "-0.000000", fixed.Num{}, api.OK},
		{"noughts ahead", "00.10", fixed.Num{1, 1}, api.OK},
		{"noughts ahead of a whole number", "-007", fixed.Num{-7, 0}, api.OK},
		{"noughts right behind the point", "1.05", fixed.Num{105, 2}, api.OK},
		{"a sign and no whole digits but 0", "-0.5", fixed.Num{-5, 1}, api.OK},
		{"noughts behind the point alone", "-20.00", fixed.Num{-20, 0}, api.OK},
		{"six digits behind the point", "0.000001", fixed.Num{1, 6}, api.OK},
		{"six noughts behind the point", "1.000000", fixed.Num{1, 0}, api.OK},
		{"seven digits behind the point", "0.0000001", fixed.Num{}, api.ErrDigits},
		{"seven noughts behind the point", "1.0000000", fixed.Num{}, api.ErrDigits},
		{"twelve digits ahead of the point", "000000000001.5", fixed.Num{15, 1}, api.OK},
		{"twelve whole digits", "-000000000001", fixed.Num{-1, 0}, api.OK},
		{"twelve digits and six", "-000000000012.345678", fixed.Num{-12345678, 6}, api.OK},
		{"thirteen digits ahead of the point", "0000000000001.5", fixed.Num{}, api.ErrDigits},
		{"thirteen whole digits", "0000000000001", fixed.Num{}, api.ErrDigits},
		{"no digit ahead of the point", ".5", fixed.Num{}, api.ErrDigits},
		{"no digit between sign and point", "-.5", fixed.Num{}, api.ErrDigits},
		{"no digit behind the point", "5.", fixed.Num{}, api.ErrDigits},
		{"a point alone", ".", fixed.Num{}, api.ErrDigits},
		{"a sign and a point", "-.", fixed.Num{}, api.ErrDigits},
		{"two points", "1.2.3", fixed.Num{}, api.ErrDigits},
		{"two points in a row", "1..2", fixed.Num{}, api.ErrDigits},
		{"a point behind", "1.2.", fixed.Num{}, api.ErrDigits},
		{"a comma", "1,5", fixed.Num{}, api.ErrDigits},
		{"a sign behind the point", "1.-5", fixed.Num{}, api.ErrDigits},
		{"MaxNum", "100000000", fixed.Num{api.MaxNum, 0}, api.OK},
		{"MaxNum, and noughts", "-100000000.000000", fixed.Num{-api.MaxNum, 0}, api.OK},
		{"MaxNum of a scale", "99.999999", fixed.Num{99999999, 6}, api.OK},
		{"MaxNum of a scale, with a nought", "10000000.10", fixed.Num{}, api.ErrFull},
		{"MaxNum of scale 6", "100.000000", fixed.Num{100, 0}, api.OK},
		{"MaxNum and one", "100000001", fixed.Num{}, api.ErrFull},
		{"MaxNum and one below nought", "-100000001.0", fixed.Num{}, api.ErrFull},
		{"MaxNum and one of a scale", "100.000001", fixed.Num{}, api.ErrFull},
		{"MaxNum and one of a scale, below nought", "-10000000.1", fixed.Num{}, api.ErrFull},
		{"MaxNum and a bit", "100000000.000001", fixed.Num{}, api.ErrFull},
		{"the greatest of eighteen digits", "999999999999.999999", fixed.Num{}, api.ErrFull},
		{"nothing", "", fixed.Num{}, api.ErrDigits},
		{"a sign alone", "-", fixed.Num{}, api.ErrDigits},
		{"a plus", "+1.5", fixed.Num{}, api.ErrDigits},
		{"two signs", "--1.5", fixed.Num{}, api.ErrDigits},
		{"blanks", " \t", fixed.Num{}, api.ErrDigits},
		{"a blank ahead", " 1.5", fixed.Num{}, api.ErrDigits},
		{"a blank behind", "1.5 ", fixed.Num{}, api.ErrDigits},
		{"a blank behind the point", "1. 5", fixed.Num{}, api.ErrDigits},
		{"an exponent", "1e5", fixed.Num{}, api.ErrDigits},
		{"an exponent behind the point", "1.5e5", fixed.Num{}, api.ErrDigits},
		{"words of floats", "Inf", fixed.Num{}, api.ErrDigits},
		{"a wide digit behind the point", "1.\uff15", fixed.Num{}, api.ErrDigits},
		{"a byte that is no sign", "1.5\xff", fixed.Num{}, api.ErrDigits},
		{"too great, but no number", "999999999.5x", fixed.Num{}, api.ErrDigits},
		{"too great, but too many behind the point", "999999999.1234567", fixed.Num{}, api.ErrDigits},
	} {
		if n, e := fixed.Read(x.s); n != x.want || e != x.e {
			t.Errorf("%s: Read(%q) = %v, %d, want %v, %d", x.name, x.s, n, e, x.want, x.e)
		}
	}
}

// read holds what Int and Read tell of s against the plain way.
func read(t *testing.T, s string) {
	want, wantE := plainRead(whole, s)
	if n, e := fixed.Int(s); n != want.M || e != wantE {
		t.Fatalf("Int(%q) = %d, %d, want %d, %d", s, n, e, want.M, wantE)
	}
	want, wantE = plainRead(decimal, s)
	if n, e := fixed.Read(s); n != want || e != wantE {
		t.Fatalf("Read(%q) = %v, %d, want %v, %d", s, n, e, want, wantE)
	}
}

func TestReadingAllShortTexts(t *testing.T) {
	texts(pieces, 4, func(s string) { read(t, s) })
	texts([]string{"0", "5", "-", "."}, 9, func(s string) { read(t, s) })
}

func TestReadingAllLengths(t *testing.T) {
	runs(func(s string) { read(t, s) })
}

func TestReadingBesideMaxNum(t *testing.T) {
	for s := range api.MaxScale + 1 {
		for m := api.MaxNum - 12; m <= api.MaxNum+12; m++ {
			digits := fmt.Sprint(m)
			text := digits[:len(digits)-s]
			if s > 0 {
				text += "." + digits[len(digits)-s:]
			}
			read(t, text)
			read(t, "-"+text)
		}
	}
}

func TestReadingLongTexts(t *testing.T) {
	for _, piece := range []string{"0", "9", "-", ".", "1.", " ", "\xff"} {
		for _, ahead := range []string{"", "-", "1.", "-0."} {
			read(t, ahead+strings.Repeat(piece, 2000))
		}
	}
}

// P2.2

func TestLeast(t *testing.T) {
	for _, x := range []struct{ n, want fixed.Num }{
		{fixed.Num{1250, 2}, fixed.Num{125, 1}},
		{fixed.Num{-1250, 2}, fixed.Num{-125, 1}},
		{fixed.Num{125, 1}, fixed.Num{125, 1}},
		{fixed.Num{1000, 2}, fixed.Num{10, 0}},
		{fixed.Num{-1000, 3}, fixed.Num{-1, 0}},
		{fixed.Num{1000, 0}, fixed.Num{1000, 0}}, // scale 0: noughts ahead of the point stay
		{fixed.Num{0, 0}, fixed.Num{0, 0}},
		{fixed.Num{0, 1}, fixed.Num{0, 0}},
		{fixed.Num{0, 6}, fixed.Num{0, 0}},
		{fixed.Num{1000000, 6}, fixed.Num{1, 0}},
		{fixed.Num{100000, 6}, fixed.Num{1, 1}},
		{fixed.Num{1000001, 6}, fixed.Num{1000001, 6}},
		{fixed.Num{most, 0}, fixed.Num{most, 0}},
		{fixed.Num{most, 6}, fixed.Num{1000000, 0}},
		{fixed.Num{-most, 6}, fixed.Num{-1000000, 0}},
		{fixed.Num{most - 1, 6}, fixed.Num{most - 1, 6}},
	} {
		if got := fixed.Least(x.n); got != x.want {
			t.Errorf("Least(%v) = %v, want %v", x.n, got, x.want)
		}
	}
	nums(func(n fixed.Num) {
		if got, want := fixed.Least(n), plainLeast(n); got != want {
			t.Fatalf("Least(%v) = %v, want %v", n, got, want)
		}
	})
}

func TestPrint(t *testing.T) {
	for _, x := range []struct {
		n    fixed.Num
		want string
	}{
		{fixed.Num{0, 0}, "0"},
		{fixed.Num{7, 0}, "7"},
		{fixed.Num{-7, 0}, "-7"},
		{fixed.Num{-120, 0}, "-120"},
		{fixed.Num{0, 1}, "0.0"}, // S digits, also where they are noughts
		{fixed.Num{0, 6}, "0.000000"},
		{fixed.Num{5, 1}, "0.5"},
		{fixed.Num{-5, 1}, "-0.5"},
		{fixed.Num{-5, 2}, "-0.05"},
		{fixed.Num{10, 1}, "1.0"},
		{fixed.Num{1250, 2}, "12.50"},
		{fixed.Num{-1250, 2}, "-12.50"},
		{fixed.Num{1005, 3}, "1.005"},
		{fixed.Num{1, 6}, "0.000001"},
		{fixed.Num{-1, 6}, "-0.000001"},
		{fixed.Num{999999, 6}, "0.999999"},
		{fixed.Num{1000000, 6}, "1.000000"},
		{fixed.Num{api.MaxNum, 0}, "100000000"},
		{fixed.Num{most, 0}, "1000000000000"},
		{fixed.Num{-most, 0}, "-1000000000000"},
		{fixed.Num{most, 6}, "1000000.000000"},
		{fixed.Num{-most + 1, 6}, "-999999.999999"},
	} {
		if got := fixed.Print(x.n); got != x.want {
			t.Errorf("Print(%v) = %q, want %q", x.n, got, x.want)
		}
	}
	nums(func(n fixed.Num) {
		if got, want := fixed.Print(n), worth(n).FloatString(n.S); got != want {
			t.Fatalf("Print(%v) = %q, want %q", n, got, want)
		}
	})
}

// P2.3

func TestTo(t *testing.T) {
	for _, x := range []struct {
		n       fixed.Num
		s, want int
		e       api.Errno
	}{
		{fixed.Num{125, 1}, 1, 125, api.OK},
		{fixed.Num{125, 1}, 3, 12500, api.OK},
		{fixed.Num{-125, 1}, 2, -1250, api.OK},
		{fixed.Num{1250, 2}, 1, 125, api.OK},
		{fixed.Num{120, 1}, 0, 12, api.OK},
		{fixed.Num{-120, 1}, 0, -12, api.OK},
		{fixed.Num{0, 6}, 0, 0, api.OK},
		{fixed.Num{0, 0}, 6, 0, api.OK},
		{fixed.Num{7, 0}, 0, 7, api.OK},
		{fixed.Num{1, 6}, 6, 1, api.OK},
		{fixed.Num{1, 6}, 5, 0, api.ErrWhole},
		{fixed.Num{-1, 6}, 0, 0, api.ErrWhole},
		{fixed.Num{125, 1}, 0, 0, api.ErrWhole},
		{fixed.Num{-125, 1}, 0, 0, api.ErrWhole},
		{fixed.Num{1000000, 6}, 0, 1, api.OK},
		{fixed.Num{1000010, 6}, 4, 0, api.ErrWhole},
		{fixed.Num{most, 6}, 0, 1000000, api.OK},
		{fixed.Num{most, 6}, 2, api.MaxNum, api.OK},
		{fixed.Num{-most, 6}, 2, -api.MaxNum, api.OK},
		{fixed.Num{most, 6}, 3, 0, api.ErrFull},
		{fixed.Num{most, 0}, 0, 0, api.ErrFull},
		{fixed.Num{most, 0}, 6, 0, api.ErrFull},
		{fixed.Num{-most, 0}, 6, 0, api.ErrFull},
		{fixed.Num{most - 1, 1}, 0, 0, api.ErrWhole}, // too great also: what is not whole comes first
		{fixed.Num{100, 0}, 6, api.MaxNum, api.OK},
		{fixed.Num{101, 0}, 6, 0, api.ErrFull},
		{fixed.Num{api.MaxNum, 0}, 0, api.MaxNum, api.OK},
		{fixed.Num{api.MaxNum + 1, 0}, 0, 0, api.ErrFull},
		{fixed.Num{-api.MaxNum, 3}, 3, -api.MaxNum, api.OK},
		{fixed.Num{-api.MaxNum - 1, 3}, 3, 0, api.ErrFull},
		{fixed.Num{1, 0}, 7, 0, api.ErrArg},
		{fixed.Num{1, 0}, -1, 0, api.ErrArg},
		{fixed.Num{0, 0}, 7, 0, api.ErrArg},
		{fixed.Num{125, 1}, -1, 0, api.ErrArg}, // not whole also
		{fixed.Num{most, 0}, 7, 0, api.ErrArg}, // too great also
		{fixed.Num{1, 6}, math.MinInt, 0, api.ErrArg},
		{fixed.Num{1, 6}, math.MaxInt, 0, api.ErrArg},
	} {
		if m, e := fixed.To(x.n, x.s); m != x.want || e != x.e {
			t.Errorf("To(%v, %d) = %d, %d, want %d, %d", x.n, x.s, m, e, x.want, x.e)
		}
	}
}

// plainTo tells what To tells, as P2.3 words it.
func plainTo(n fixed.Num, s int) (int, api.Errno) {
	if s < 0 || s > api.MaxScale {
		return 0, api.ErrArg
	}
	m := new(big.Rat).Mul(worth(n), new(big.Rat).SetInt(power(s)))
	if !m.IsInt() {
		return 0, api.ErrWhole
	}
	if new(big.Int).Abs(m.Num()).Cmp(big.NewInt(api.MaxNum)) > 0 {
		return 0, api.ErrFull
	}
	return int(m.Num().Int64()), api.OK
}

func TestToOfManyNumbers(t *testing.T) {
	nums(func(n fixed.Num) {
		for s := -2; s <= api.MaxScale+2; s++ {
			want, wantE := plainTo(n, s)
			if m, e := fixed.To(n, s); m != want || e != wantE {
				t.Fatalf("To(%v, %d) = %d, %d, want %d, %d", n, s, m, e, want, wantE)
			}
		}
	})
}

func TestCmp(t *testing.T) {
	for _, x := range []struct {
		a, b fixed.Num
		want int
	}{
		{fixed.Num{}, fixed.Num{}, 0},
		{fixed.Num{1, 0}, fixed.Num{2, 0}, -1},
		{fixed.Num{-1, 0}, fixed.Num{-2, 0}, 1},
		{fixed.Num{125, 1}, fixed.Num{1250, 2}, 0},
		{fixed.Num{-125, 1}, fixed.Num{-1250, 2}, 0},
		{fixed.Num{0, 6}, fixed.Num{0, 0}, 0},
		{fixed.Num{2, 0}, fixed.Num{19, 1}, 1},
		{fixed.Num{2, 0}, fixed.Num{21, 1}, -1},
		{fixed.Num{-2, 0}, fixed.Num{-19, 1}, -1},
		{fixed.Num{-1, 6}, fixed.Num{}, -1},
		{fixed.Num{1, 6}, fixed.Num{}, 1},
		{fixed.Num{1, 6}, fixed.Num{-1, 0}, 1},
		{fixed.Num{most, 0}, fixed.Num{most, 6}, 1},
		{fixed.Num{-most, 0}, fixed.Num{most, 0}, -1},
		{fixed.Num{most, 0}, fixed.Num{most - 1, 0}, 1},
		{fixed.Num{most, 6}, fixed.Num{1000000, 0}, 0},
		{fixed.Num{most - 1, 6}, fixed.Num{1000000, 0}, -1},
	} {
		if got := fixed.Cmp(x.a, x.b); got != x.want {
			t.Errorf("Cmp(%v, %v) = %d, want %d", x.a, x.b, got, x.want)
		}
		if got := fixed.Cmp(x.b, x.a); got != -x.want {
			t.Errorf("Cmp(%v, %v) = %d, want %d", x.b, x.a, got, -x.want)
		}
	}
}

func TestCmpOfManyNumbers(t *testing.T) {
	var all []fixed.Num
	var worths []*big.Rat
	nums(func(n fixed.Num) {
		all = append(all, n)
		worths = append(worths, worth(n))
	})
	// Each number is held against every eleventh one, in turn from another one on.
	for i, a := range all {
		for k := i % 11; k < len(all); k += 11 {
			if got, want := fixed.Cmp(a, all[k]), worths[i].Cmp(worths[k]); got != want {
				t.Fatalf("Cmp(%v, %v) = %d, want %d", a, all[k], got, want)
			}
		}
	}
}

// P2.4

func TestWhatIsPrintedIsReadBack(t *testing.T) {
	nums(func(n fixed.Num) {
		s := fixed.Print(n)
		least := fixed.Least(n)
		got, e := fixed.Read(s)
		if -api.MaxNum <= least.M && least.M <= api.MaxNum {
			if got != least || e != api.OK {
				t.Fatalf("%v: Read(%q) = %v, %d, want %v", n, s, got, e, least)
			}
			return
		}
		// Too great for Read by P2.1; and 10^12 of scale 0 has thirteen digits.
		want := api.ErrFull
		if len(strings.TrimPrefix(s, "-")) == 13 && n.S == 0 {
			want = api.ErrDigits
		}
		if got != (fixed.Num{}) || e != want {
			t.Fatalf("%v: Read(%q) = %v, %d, want %d", n, s, got, e, want)
		}
	})
}

func TestWhatIsPrintedWholeIsReadBackByInt(t *testing.T) {
	nums(func(n fixed.Num) {
		if n.S > 0 || n.M < -api.MaxNum || n.M > api.MaxNum {
			return
		}
		if m, e := fixed.Int(fixed.Print(n)); m != n.M || e != api.OK {
			t.Fatalf("%v: Int(%q) = %d, %d", n, fixed.Print(n), m, e)
		}
	})
}

func TestWhatIsReadIsPrintedAndReadBack(t *testing.T) {
	again := func(s string) {
		n, e := fixed.Read(s)
		if e != api.OK {
			return
		}
		if m, e := fixed.Read(fixed.Print(n)); m != n || e != api.OK {
			t.Fatalf("%q: %v, then %v, %d", s, n, m, e)
		}
		if fixed.Least(n) != n {
			t.Fatalf("Read(%q) = %v, which is not its Least", s, n)
		}
	}
	texts([]string{"0", "5", "-", "."}, 8, again)
	runs(again)
}

// R1: every call ends, and none panics, also of numbers of which nothing else is said.
func TestStrangeNumbers(t *testing.T) {
	strange(func(a fixed.Num) {
		fixed.Least(a)
		fixed.Print(a)
		for _, s := range []int{math.MinInt, -1, 0, 3, api.MaxScale, api.MaxScale + 1, math.MaxInt} {
			if m, e := fixed.To(a, s); e != api.OK && m != 0 || (s < 0 || s > api.MaxScale) && e != api.ErrArg {
				t.Errorf("To(%v, %d) = %d, %d", a, s, m, e)
			}
		}
		strange(func(b fixed.Num) { fixed.Cmp(a, b) })
	})
}
