package sheet_test

import (
	"fmt"
	"math"
	"math/big"
	"math/rand"
	"regexp"
	"slices"
	"strconv"
	"strings"
	"testing"

	"entrepot/api"
	"entrepot/fixed"
	"entrepot/sheet"
	"entrepot/words"
)

// mostM is the greatest M of a number.
const mostM = 1000000000000

// ends are how lines end, and blanks what stands between words.
var (
	ends   = []string{"\n", "\r\n", "\n\n", " \r\n", "\n \t\n", "\t\n\r\n"}
	blanks = []string{" ", "\t", "  ", " \t ", "\t\t"}
)

// wrongs are words that neither fixed.Int nor fixed.Read takes, and what is wrong with them.
var wrongs = []struct {
	text string
	e    api.Errno
}{
	{"x", api.ErrDigits}, {"-", api.ErrDigits}, {"+1", api.ErrDigits}, {"1x", api.ErrDigits}, {"0000000000001", api.ErrDigits},
	{"1e3", api.ErrDigits}, {".5", api.ErrDigits}, {"5.", api.ErrDigits}, {"\r", api.ErrDigits}, {"1\r", api.ErrDigits}, {"\xff", api.ErrDigits},
	{"100000001", api.ErrFull}, {"-100000001", api.ErrFull}, {"999999999999", api.ErrFull},
}

var (
	wordForm  = regexp.MustCompile(`[^ \t]+`)
	wholeForm = regexp.MustCompile(`\A-?[0-9]{1,12}\z`)
	pointForm = regexp.MustCompile(`\A(-?[0-9]{1,12})(?:\.([0-9]{1,6}))?\z`)
)

// plainRows tells what P13.1 says of Rows, by its words, and those of the layers below.
func plainRows(s string, from int) []sheet.Row {
	var rows []sheet.Row
	at := 0
	for _, part := range strings.SplitAfter(s, "\n") {
		body, ended := strings.CutSuffix(part, "\n")
		if ended {
			body = strings.TrimSuffix(body, "\r")
		}
		r := sheet.Row{From: at}
		for _, w := range wordForm.FindAllStringIndex(body, -1) {
			r.Words = append(r.Words, words.Word{From: at + w[0], To: at + w[1]})
		}
		if len(r.Words) > 0 && r.From >= from {
			rows = append(rows, r)
		}
		at += len(part)
	}
	return rows
}

func plainInt(text string) (int, api.Errno) {
	if !wholeForm.MatchString(text) {
		return 0, api.ErrDigits
	}
	n, _ := strconv.Atoi(text)
	if n < -api.MaxNum || n > api.MaxNum {
		return 0, api.ErrFull
	}
	return n, api.OK
}

func plainRead(text string) (fixed.Num, api.Errno) {
	parts := pointForm.FindStringSubmatch(text)
	if parts == nil {
		return fixed.Num{}, api.ErrDigits
	}
	behind := strings.TrimRight(parts[2], "0")
	m, _ := strconv.Atoi(parts[1] + behind)
	if m < -api.MaxNum || m > api.MaxNum {
		return fixed.Num{}, api.ErrFull
	}
	return fixed.Num{M: m, S: len(behind)}, api.OK
}

// plainInts tells what P13.2 says of Ints, by its words.
func plainInts(s string, r sheet.Row, n int) ([]int, api.Diag) {
	if len(r.Words) != n {
		return nil, api.Diag{At: r.From, Code: 3}
	}
	var all []int
	for _, w := range r.Words {
		k, e := plainInt(s[w.From:w.To])
		if e != api.OK {
			return nil, api.Diag{At: w.From, Code: e}
		}
		all = append(all, k)
	}
	return all, api.Diag{}
}

// plainNums tells what P13.2 says of Nums, by its words.
func plainNums(s string, r sheet.Row, skip int) ([]fixed.Num, api.Diag) {
	var all []fixed.Num
	for i, w := range r.Words {
		if i < skip {
			continue
		}
		n, e := plainRead(s[w.From:w.To])
		if e != api.OK {
			return nil, api.Diag{At: w.From, Code: e}
		}
		all = append(all, n)
	}
	return all, api.Diag{}
}

// plainFlat tells what P13.3 says of Flat, by its words.
func plainFlat(s string, l []sheet.Row, n int) ([]int, int, api.Diag) {
	if n < 1 {
		return nil, 0, api.Diag{}
	}
	type seat struct{ from, to, row int }
	var seats []seat
	for i, r := range l {
		for _, w := range r.Words {
			seats = append(seats, seat{w.From, w.To, i})
		}
	}
	var all []int
	for i, x := range seats {
		if i == n {
			break
		}
		k, e := plainInt(s[x.from:x.to])
		if e != api.OK {
			return nil, 0, api.Diag{At: x.from, Code: e}
		}
		all = append(all, k)
	}
	if len(all) < n {
		return nil, 0, api.Diag{At: len(s), Code: 4}
	}
	last := seats[n-1].row
	if len(seats) > n && seats[n].row == last {
		return nil, 0, api.Diag{At: seats[n].from, Code: 3}
	}
	return all, last + 1, api.Diag{}
}

// plainCommon tells what P13.4 says of Common, by its words, in wide numbers.
func plainCommon(l []fixed.Num) ([]int, int, int) {
	scale := 0
	for _, n := range l {
		if n.S > scale {
			scale = n.S
		}
	}
	var all []int
	for i, n := range l {
		m := new(big.Int).Exp(big.NewInt(10), big.NewInt(int64(scale-n.S)), nil)
		m.Mul(m, big.NewInt(int64(n.M)))
		if m.CmpAbs(big.NewInt(api.MaxNum)) > 0 {
			return nil, 0, i
		}
		all = append(all, int(m.Int64()))
	}
	return all, scale, -1
}

// short tells what may be long.
func short(x any) string {
	s := fmt.Sprintf("%+v", x)
	if len(s) > 300 {
		return s[:300] + ".."
	}
	return s
}

// nums makes numbers of an M and an S each.
func nums(l ...int) []fixed.Num {
	var all []fixed.Num
	for i := 1; i < len(l); i += 2 {
		all = append(all, fixed.Num{M: l[i-1], S: l[i]})
	}
	return all
}

func sameRows(a, b []sheet.Row) bool {
	return slices.EqualFunc(a, b, func(x, y sheet.Row) bool { return x.From == y.From && slices.Equal(x.Words, y.Words) })
}

// rowOf is the only row of s.
func rowOf(t *testing.T, s string) sheet.Row {
	t.Helper()
	l := sheet.Rows(s, 0)
	if len(l) != 1 {
		t.Fatalf("%q: %d rows, want 1", s, len(l))
	}
	return l[0]
}

// The holders hold one call's answer against what is wanted: with a Diag all else is to be zero.

func holdsInts(t *testing.T, s string, r sheet.Row, n int, want []int, d api.Diag) {
	t.Helper()
	if l, got := sheet.Ints(s, r, n); !slices.Equal(l, want) || got != d {
		t.Errorf("Ints(%q, %s, %d) = %v, %v, want %v, %v", s, short(r), n, l, got, want, d)
	}
}

func holdsNums(t *testing.T, s string, r sheet.Row, skip int, want []fixed.Num, d api.Diag) {
	t.Helper()
	if l, got := sheet.Nums(s, r, skip); !slices.Equal(l, want) || got != d {
		t.Errorf("Nums(%q, %s, %d) = %v, %v, want %v, %v", s, short(r), skip, l, got, want, d)
	}
}

func holdsFlat(t *testing.T, s string, l []sheet.Row, n int, want []int, rows int, d api.Diag) {
	t.Helper()
	if m, k, got := sheet.Flat(s, l, n); !slices.Equal(m, want) || k != rows || got != d {
		t.Errorf("Flat(%q, %s, %d) = %s, %d, %v, want %s, %d, %v", s, short(l), n, short(m), k, got, short(want), rows, d)
	}
}

func holdsCommon(t *testing.T, l []fixed.Num, want []int, scale, at int) {
	t.Helper()
	if m, s, k := sheet.Common(l); !slices.Equal(m, want) || s != scale || k != at {
		t.Errorf("Common(%s) = %s, %d, %d, want %s, %d, %d", short(l), short(m), s, k, short(want), scale, at)
	}
}

// holdsRow holds that both calls of P13.2 answer what it says, of every n and skip that is near.
func holdsRow(t *testing.T, s string, r sheet.Row) {
	t.Helper()
	for _, n := range append(around(len(r.Words)), 0, -1, 1, math.MinInt, math.MaxInt, 1<<32+len(r.Words)) {
		want, d := plainInts(s, r, n)
		holdsInts(t, s, r, n, want, d)
	}
	for skip := -2; skip <= len(r.Words)+2; skip++ {
		want, d := plainNums(s, r, skip)
		holdsNums(t, s, r, skip, want, d)
	}
	for _, skip := range []int{math.MinInt, math.MinInt + 1, -1 << 32, 1 << 32, math.MaxInt - 1, math.MaxInt} {
		want, d := plainNums(s, r, skip)
		holdsNums(t, s, r, skip, want, d)
	}
}

// holdsRows holds that Flat answers what P13.3 says of l, of every n that is near.
func holdsRows(t *testing.T, s string, l []sheet.Row) {
	t.Helper()
	many := 0
	for _, r := range l {
		many += len(r.Words)
	}
	for n := -2; n <= many+2; n++ {
		want, rows, d := plainFlat(s, l, n)
		holdsFlat(t, s, l, n, want, rows, d)
	}
	for _, n := range []int{math.MinInt, math.MinInt + 1, -1 << 32, 1<<32 + many, math.MaxInt - 1, math.MaxInt} {
		want, rows, d := plainFlat(s, l, n)
		holdsFlat(t, s, l, n, want, rows, d)
	}
}

func around(n int) []int { return []int{n - 2, n - 1, n, n + 1, n + 2} }

// texts goes through all texts of as many of l's pieces as longest, or fewer.
func texts(l []string, longest int, use func(s string)) {
	use("")
	if longest == 0 {
		return
	}
	for _, p := range l {
		texts(l, longest-1, func(s string) {
			use(p + s)
		})
	}
}

// P13.1: Rows

func TestRows(t *testing.T) {
	type word = [][2]int
	type row struct {
		from  int
		words word
	}
	for _, x := range []struct {
		name, s string
		want    []row
	}{
		{"no text", "", nil},
		{"a line feed", "\n", nil},
		{"lines without words", "\n \n\t\n \t \r\n\r\n", nil},
		{"blanks without an end", " \t", nil},
		{"one word", "a", []row{{0, word{{0, 1}}}}},
		{"one word, and its end", "a\n", []row{{0, word{{0, 1}}}}},
		{"an end of two bytes", "ab\r\n", []row{{0, word{{0, 2}}}}},
		{"blanks ahead of an end of two bytes", "ab \t\r\n", []row{{0, word{{0, 2}}}}},
		{"a carriage return ahead of an end of two bytes", "ab\r\r\n", []row{{0, word{{0, 3}}}}},
		{"a carriage return and a blank", "a\r \n", []row{{0, word{{0, 2}}}}},
		{"a carriage return at the end", "a\n\r", []row{{0, word{{0, 1}}}, {2, word{{2, 3}}}}},
		{"blanks ahead: From is the line's", " \ta\n", []row{{0, word{{2, 3}}}}},
		{"words apart by blanks of both sorts", "a \t b\tc", []row{{0, word{{0, 1}, {4, 5}, {6, 7}}}}},
		{"the last line without an end", "a b\nc", []row{{0, word{{0, 1}, {2, 3}}}, {4, word{{4, 5}}}}},
		{"lines without words ahead, between and behind", "\n \na\n\n\t\r\n b\n \n", []row{{3, word{{3, 4}}}, {9, word{{10, 11}}}}},
		{"the document's example of lines", "ab\r\nc", []row{{0, word{{0, 2}}}, {4, word{{4, 5}}}}},
		{"signs of several bytes", "é ü\n\xff", []row{{0, word{{0, 2}, {3, 5}}}, {6, word{{6, 7}}}}},
		{"other white space is no blank", "a\vb\u00a0c\f\n", []row{{0, word{{0, 7}}}}},
	} {
		var want []sheet.Row
		for _, r := range x.want {
			w := sheet.Row{From: r.from}
			for _, p := range r.words {
				w.Words = append(w.Words, words.Word{From: p[0], To: p[1]})
			}
			want = append(want, w)
		}
		if l := sheet.Rows(x.s, 0); !sameRows(l, want) {
			t.Errorf("%s: Rows(%q, 0) = %v, want %v", x.name, x.s, l, want)
		}
	}
}

func TestRowsFrom(t *testing.T) {
	s := "a b\n\n 3 -4\n5\r\n\t\n6"
	begins := []int{0, 5, 11, 16}
	for from := -3; from <= len(s)+3; from++ {
		want := slices.DeleteFunc(slices.Clone(begins), func(b int) bool { return b < from })
		var got []int
		for _, r := range sheet.Rows(s, from) {
			got = append(got, r.From)
		}
		if !slices.Equal(got, want) {
			t.Errorf("from %d: rows at %v, want %v", from, got, want)
		}
	}
	for from, want := range map[int]int{math.MinInt: 4, math.MinInt + 1: 4, -1 << 32: 4, -1: 4, 17: 0, 1 << 32: 0, math.MaxInt: 0} {
		if l := sheet.Rows(s, from); len(l) != want {
			t.Errorf("from %d: %d rows, want %d", from, len(l), want)
		}
	}
}

func TestRowsOfAllShortTexts(t *testing.T) {
	texts([]string{"a", "1", " ", "\t", "\n", "\r", "é"}, 5, func(s string) {
		for from := -1; from <= len(s)+1; from++ {
			if l, want := sheet.Rows(s, from), plainRows(s, from); !sameRows(l, want) {
				t.Fatalf("Rows(%q, %d) = %v, want %v", s, from, l, want)
			}
		}
	})
}

func TestRowsOfLongTexts(t *testing.T) {
	for _, piece := range []string{"a", " ", "\n", "a ", "a\n", "a b\r\n", "\r\n", " a\n\n", "\r", "\xff\n"} {
		s := strings.Repeat(piece, 2000/len(piece))
		for _, from := range []int{-1, 0, 1, 999, 1000, 1001, len(s) - 3, len(s) - 2, len(s) - 1, len(s), len(s) + 1} {
			if l, want := sheet.Rows(s, from), plainRows(s, from); !sameRows(l, want) {
				t.Errorf("%q .., from %d: %s, want %s", piece, from, short(l), short(want))
			}
		}
	}
}

// P13.1: Title

func TestTitle(t *testing.T) {
	for _, x := range []struct {
		s, title string
		want     bool
	}{
		{"EOF", "EOF", true},
		{" \tEOF \t\r\n", "EOF", true},
		{"EOF", "", false},
		{"EOF", " ", false},
		{"EOF", "EO", false},
		{"EOF", "EOFF", false},
		{"EOF", "EOG", false},
		{"EOF", "OOF", false},
		{"EOF", "eof", false},
		{"EOF", " EOF", false},
		{"EOF", "EOF ", false},
		{"EOF", "EOF\n", false},
		{"EOF", "E OF", false},
		{"EOF\r", "EOF", false},
		{"EOF\r", "EOF\r", true},
		{"EOF\r\n", "EOF\r", false},
		{"-1", "-1", true},
		{"-01", "-1", false},
		{"NUMBER CAPACITY", "NUMBER CAPACITY", true},
		{"  NUMBER \t  CAPACITY\t", "NUMBER CAPACITY", true},
		{"NUMBER\tCAPACITY", "NUMBER CAPACITY", true},
		{"NUMBER\tCAPACITY", "NUMBER\tCAPACITY", false},
		{"NUMBER  CAPACITY", "NUMBER  CAPACITY", false},
		{"NUMBER CAPACITY", "NUMBERCAPACITY", false},
		{"NUMBERCAPACITY", "NUMBER CAPACITY", false},
		{"NUMBER CAPACITY", "CAPACITY NUMBER", false},
		{"NUMBER CAPACITY", "NUMBER", false},
		{"NUMBER CAPACITY", "CAPACITY", false},
		{"NUMBER CAPACITY", "NUMBER CAPACITY X", false},
		{"NUMBER CAPACITY X", "NUMBER CAPACITY", false},
		{"NUMBER CAPACITY", "NUMBER CAPACITX", false},
		{"NUMBE RCAPACITY", "NUMBER CAPACITY", false},
		{"a b c d", "a b c d", true},
		{"a b c d", "a b d c", false},
		{"a b c d", "a b  c d", false},
		{"a b b", "a b", false},
		{"é \xff", "é \xff", true},
		{"é \xff", "é \xfe", false},
	} {
		if got := sheet.Title(x.s, rowOf(t, x.s), x.title); got != x.want {
			t.Errorf("%q, %q: %t, want %t", x.s, x.title, got, x.want)
		}
	}
}

// Of each row of a text of several rows its own words are held against the title.
func TestTitleOfEachRow(t *testing.T) {
	s := "a\n\nb c\r\n a b\nEOF"
	titles := []string{"a", "b c", "a b", "EOF"}
	l := sheet.Rows(s, 0)
	for i := range l {
		for k, title := range titles {
			if got := sheet.Title(s, l[i], title); got != (i == k) {
				t.Errorf("row %d, %q: %t, want %t", i, title, got, i == k)
			}
		}
	}
}

func TestTitlesOfAllShortTexts(t *testing.T) {
	var titles []string
	texts([]string{"a", "b", " ", "\t"}, 5, func(s string) { titles = append(titles, s) })
	texts([]string{"a", "b", " ", "\t", "\r\n"}, 5, func(s string) {
		for _, r := range sheet.Rows(s, 0) {
			var parts []string
			for _, w := range r.Words {
				parts = append(parts, s[w.From:w.To])
			}
			for _, title := range titles {
				want := slices.Equal(strings.Split(title, " "), parts)
				if got := sheet.Title(s, r, title); got != want {
					t.Fatalf("Title(%q, %v, %q) = %t, want %t", s, r, title, got, want)
				}
			}
		}
	})
}

// P13.2

func TestInts(t *testing.T) {
	line := func(at int) api.Diag { return api.Diag{At: at, Code: api.ErrLine} }
	bad := func(at int) api.Diag { return api.Diag{At: at, Code: api.ErrDigits} }
	full := func(at int) api.Diag { return api.Diag{At: at, Code: api.ErrFull} }
	for _, x := range []struct {
		s    string
		n    int
		want []int
		d    api.Diag
	}{
		{"3 -4", 2, []int{3, -4}, api.Diag{}}, // the document's example
		{"3 -4", 1, nil, line(0)},
		{"3 -4", 3, nil, line(0)},
		{"3 -4", 0, nil, line(0)},
		{"3 -4", -1, nil, line(0)},
		{"3 -4", -2, nil, line(0)},
		{"\n\n \t3 -4\r\n", 2, []int{3, -4}, api.Diag{}},
		{"\n\n \t3 -4\r\n", 3, nil, line(2)}, // the row's From, not its first word's
		{"\n\n \t3 -4\r\n", 1, nil, line(2)},
		{"\n\n \tx -4\r\n", 2, nil, bad(4)},
		{"7", 1, []int{7}, api.Diag{}},
		{"7", 0, nil, line(0)},
		{"7", 2, nil, line(0)},
		{"0 -0 007 -010", 4, []int{0, 0, 7, -10}, api.Diag{}},
		{"100000000 -100000000", 2, []int{api.MaxNum, -api.MaxNum}, api.Diag{}},
		{"x 2 3", 3, nil, bad(0)},
		{"1 x 3", 3, nil, bad(2)},
		{"1 2 x", 3, nil, bad(4)},
		{"1  x y", 3, nil, bad(3)},
		{"x y 100000001", 3, nil, bad(0)},
		{"100000001 x", 2, nil, full(0)},
		{"1 -100000001 x", 3, nil, full(2)},
		{"1 2.5", 2, nil, bad(2)},
		{"1 2.0", 2, nil, bad(2)},
		{"x y z", 2, nil, line(0)}, // ahead of what is wrong with the words
		{"x", 2, nil, line(0)},
		{"1 2\r", 2, nil, bad(2)},
	} {
		holdsInts(t, x.s, rowOf(t, x.s), x.n, x.want, x.d)
	}
}

func TestNums(t *testing.T) {
	bad := func(at int) api.Diag { return api.Diag{At: at, Code: api.ErrDigits} }
	full := func(at int) api.Diag { return api.Diag{At: at, Code: api.ErrFull} }
	for _, x := range []struct {
		s    string
		skip int
		want []fixed.Num
		d    api.Diag
	}{
		{"1 0 0.5", 1, nums(0, 0, 5, 1), api.Diag{}},
		{"1 0 0.5", 0, nums(1, 0, 0, 0, 5, 1), api.Diag{}},
		{"1 0 0.5", -1, nums(1, 0, 0, 0, 5, 1), api.Diag{}},
		{"1 0 0.5", math.MinInt, nums(1, 0, 0, 0, 5, 1), api.Diag{}},
		{"1 0 0.5", 2, nums(5, 1), api.Diag{}},
		{"1 0 0.5", 3, nil, api.Diag{}},
		{"1 0 0.5", 4, nil, api.Diag{}},
		{"1 0 0.5", math.MaxInt, nil, api.Diag{}},
		{"-12.50", 0, nums(-125, 1), api.Diag{}},
		{"-12.50", 1, nil, api.Diag{}},
		{"10.00 -0.0 000.000001", 0, nums(10, 0, 0, 0, 1, 6), api.Diag{}},
		{"100000000 -99.999999", 0, nums(api.MaxNum, 0, -99999999, 6), api.Diag{}},
		{"x 2.5 3", 0, nil, bad(0)},
		{"x 2.5 3", 1, nums(25, 1, 3, 0), api.Diag{}},
		{"1 x 3", 0, nil, bad(2)},
		{"1 x 3", 1, nil, bad(2)},
		{"1 x 3", 2, nums(3, 0), api.Diag{}},
		{"1 2 x", 2, nil, bad(4)},
		{"1 2 x", 3, nil, api.Diag{}},
		{"x y 3", 0, nil, bad(0)},
		{"x y 3", 1, nil, bad(2)},
		{"x 100.000001 y", 1, nil, full(2)},
		{"x 100.000001 y", 0, nil, bad(0)},
		{"x 100.000001 y", 2, nil, bad(13)},
		{"100000001 x", 0, nil, full(0)},
		{"\n\t1.5  .5\r\n", 0, nil, bad(7)},
		{"\n\t1.5  5.\r\n", 1, nil, bad(7)},
		{"1.0000000", 0, nil, bad(0)},
	} {
		holdsNums(t, x.s, rowOf(t, x.s), x.skip, x.want, x.d)
	}
}

// Each word that is not taken, at the first place, the last one, and all between; alone, and with
// another one ahead or behind.
func TestWordsThatAreNotTaken(t *testing.T) {
	for size := 1; size <= 5; size++ {
		for at := range size {
			for _, wrong := range wrongs {
				l := strings.Fields(strings.Repeat("7 ", size))
				l[at] = wrong.text
				s := "0\n " + strings.Join(l, "\t ")
				r := sheet.Rows(s, 1)[0]
				d := api.Diag{At: 3 + 3*at, Code: wrong.e}
				if r.Words[at].From != d.At {
					t.Fatalf("%q: word %d at %d, want %d", s, at, r.Words[at].From, d.At)
				}
				holdsInts(t, s, r, size, nil, d)
				holdsNums(t, s, r, at, nil, d)
				holdsNums(t, s, r, at+1, slices.Repeat([]fixed.Num{{M: 7}}, size-at-1), api.Diag{})
				holdsFlat(t, s, []sheet.Row{r}, size, nil, 0, d)
				holdsRow(t, s, r)
				for other := range size {
					l[other] = wrongs[(at+other)%len(wrongs)].text
					both := strings.Join(l, " ")
					holdsRow(t, both, rowOf(t, both))
					l[other] = "7"
				}
			}
		}
	}
}

func TestRowsOfAllShortWords(t *testing.T) {
	texts([]string{"1", "-", ".", " ", "\t", "\r\n"}, 6, func(s string) {
		for _, r := range sheet.Rows(s, 0) {
			holdsRow(t, s, r)
		}
	})
}

// P13.3

func TestFlat(t *testing.T) {
	end := func(at int) api.Diag { return api.Diag{At: at, Code: api.ErrEnd} }
	line := func(at int) api.Diag { return api.Diag{At: at, Code: api.ErrLine} }
	bad := func(at int) api.Diag { return api.Diag{At: at, Code: api.ErrDigits} }
	full := func(at int) api.Diag { return api.Diag{At: at, Code: api.ErrFull} }
	for _, x := range []struct {
		s    string
		n    int
		want []int
		rows int
		d    api.Diag
	}{
		{"", 0, nil, 0, api.Diag{}},
		{"", -1, nil, 0, api.Diag{}},
		{"", 1, nil, 0, end(0)},
		{"\n \n", 1, nil, 0, end(3)},
		{"\n \n", 0, nil, 0, api.Diag{}},
		{"5", 1, []int{5}, 1, api.Diag{}},
		{"5", 2, nil, 0, end(1)},
		{"5\n\n", 2, nil, 0, end(3)},
		{"1 2 3\n4 5 6\n7", 0, nil, 0, api.Diag{}},
		{"1 2 3\n4 5 6\n7", -1, nil, 0, api.Diag{}},
		{"1 2 3\n4 5 6\n7", math.MinInt, nil, 0, api.Diag{}},
		{"1 2 3\n4 5 6\n7", 1, nil, 0, line(2)},
		{"1 2 3\n4 5 6\n7", 2, nil, 0, line(4)},
		{"1 2 3\n4 5 6\n7", 3, []int{1, 2, 3}, 1, api.Diag{}},
		{"1 2 3\n4 5 6\n7", 4, nil, 0, line(8)},
		{"1 2 3\n4 5 6\n7", 5, nil, 0, line(10)},
		{"1 2 3\n4 5 6\n7", 6, []int{1, 2, 3, 4, 5, 6}, 2, api.Diag{}},
		{"1 2 3\n4 5 6\n7", 7, []int{1, 2, 3, 4, 5, 6, 7}, 3, api.Diag{}},
		{"1 2 3\n4 5 6\n7", 8, nil, 0, end(13)},
		{"1 2 3\n4 5 6\n7", math.MaxInt, nil, 0, end(13)},
		{"1 2 3\n4 5 6\n7\n", math.MaxInt, nil, 0, end(14)},
		{"1\n2\n3", 1, []int{1}, 1, api.Diag{}},
		{"1\n2\n3", 2, []int{1, 2}, 2, api.Diag{}},
		{"1\n2\n3", 3, []int{1, 2, 3}, 3, api.Diag{}},
		{"\n1\n\n\t\n2\r\n \n3\n", 2, []int{1, 2}, 2, api.Diag{}}, // blank lines are no rows
		{"1 2\nx", 2, []int{1, 2}, 1, api.Diag{}},                 // behind the last one that is taken, in another row
		{"1 2\nx", 3, nil, 0, bad(4)},
		{"1 2 x", 2, nil, 0, line(4)}, // and in its own one
		{"1 2 100000001", 2, nil, 0, line(4)},
		{"1 x 2", 1, nil, 0, line(2)},
		{"1 x 2", 2, nil, 0, bad(2)},
		{"x", 0, nil, 0, api.Diag{}},
		{"x", 1, nil, 0, bad(0)},
		{"x", 2, nil, 0, bad(0)}, // ahead of ErrEnd
		{"1 x", 9, nil, 0, bad(2)},
		{"1\nx y", 2, nil, 0, bad(2)}, // ahead of ErrLine
		{"1\n2 y\nz", 2, nil, 0, line(4)},
		{"1\n2 y\nz", 4, nil, 0, bad(4)},
		{"1\n100000001 x", 3, nil, 0, full(2)},
		{"1\nx 100000001", 3, nil, 0, bad(2)},
		{"1\n2.0", 2, nil, 0, bad(2)},
		{"100000000\n-100000000 -0", 3, []int{api.MaxNum, -api.MaxNum, 0}, 2, api.Diag{}},
	} {
		holdsFlat(t, x.s, sheet.Rows(x.s, 0), x.n, x.want, x.rows, x.d)
	}
}

// Rows that are a part of a text's: what is ahead of them and behind them is not looked at, but the
// end is the text's.
func TestFlatOfSomeRows(t *testing.T) {
	s := "x y\n1 2\n3\n\nz 4\n5\n"
	l := sheet.Rows(s, 0)
	holdsFlat(t, s, l[1:3], 3, []int{1, 2, 3}, 2, api.Diag{})
	holdsFlat(t, s, l[1:3], 2, []int{1, 2}, 1, api.Diag{})
	holdsFlat(t, s, l[2:], 1, []int{3}, 1, api.Diag{})
	holdsFlat(t, s, l[2:], 2, nil, 0, api.Diag{At: 11, Code: api.ErrDigits})
	holdsFlat(t, s, l[1:3], 4, nil, 0, api.Diag{At: len(s), Code: api.ErrEnd})
	holdsFlat(t, s, l[4:], 1, []int{5}, 1, api.Diag{})
	holdsFlat(t, s, l[5:], 1, nil, 0, api.Diag{At: len(s), Code: api.ErrEnd})
	holdsFlat(t, s, l[5:], 0, nil, 0, api.Diag{})
	holdsFlat(t, s, nil, 1, nil, 0, api.Diag{At: len(s), Code: api.ErrEnd})
	for from := range l {
		for to := from; to <= len(l); to++ {
			holdsRows(t, s, l[from:to])
		}
	}
}

// Rows without words count, up to that of the last number that is taken.
func TestFlatCountsEmptyRows(t *testing.T) {
	s := "1 2\n\n\n3\n\n"
	one, two, none := sheet.Rows(s, 0)[0], sheet.Rows(s, 0)[1], sheet.Row{From: 4}
	l := []sheet.Row{none, one, none, none, two, none}
	holdsFlat(t, s, l, 0, nil, 0, api.Diag{})
	holdsFlat(t, s, l, -1, nil, 0, api.Diag{})
	holdsFlat(t, s, l, 1, nil, 0, api.Diag{At: 2, Code: api.ErrLine})
	holdsFlat(t, s, l, 2, []int{1, 2}, 2, api.Diag{})
	holdsFlat(t, s, l, 3, []int{1, 2, 3}, 5, api.Diag{})
	holdsFlat(t, s, l, 4, nil, 0, api.Diag{At: len(s), Code: api.ErrEnd})
	holdsFlat(t, s, []sheet.Row{none, none}, 0, nil, 0, api.Diag{})
	holdsFlat(t, s, []sheet.Row{none, none}, 1, nil, 0, api.Diag{At: len(s), Code: api.ErrEnd})
	for bits := range 64 {
		var some []sheet.Row
		for i, r := range l {
			if bits>>i&1 == 1 {
				some = append(some, r)
			}
		}
		holdsRows(t, s, some)
	}
}

func TestFlatOfAllShortTexts(t *testing.T) {
	texts([]string{"1", "-", " ", "\n", "\r\n"}, 7, func(s string) {
		holdsRows(t, s, sheet.Rows(s, 0))
	})
}

// shapes goes through all lists of at most three rows, of at most three words each.
func shapes(use func(sizes []int)) {
	for a := range 4 {
		use([]int{a})
		for b := range 4 {
			use([]int{a, b})
			for c := range 4 {
				use([]int{a, b, c})
			}
		}
	}
}

// One word or two that are not taken, at each place of rows of all shapes.
func TestFlatWithWordsThatAreNotTaken(t *testing.T) {
	shapes(func(sizes []int) {
		var l []string
		total := 0
		for _, n := range sizes {
			total += n
		}
		for first := range total + 1 {
			for second := first; second < total+1; second++ {
				l = l[:0]
				at := 0
				for _, n := range sizes {
					var row []string
					for range n {
						switch at {
						case first:
							row = append(row, "x")
						case second:
							row = append(row, "100000001")
						default:
							row = append(row, strconv.Itoa(at-2))
						}
						at++
					}
					l = append(l, strings.Join(row, " "))
				}
				s := strings.Join(l, "\n")
				holdsRows(t, s, sheet.Rows(s, 0))
			}
		}
	})
}

// P13.4

func TestCommon(t *testing.T) {
	for _, x := range []struct {
		l         []fixed.Num
		want      []int
		scale, at int
	}{
		{nil, nil, 0, -1},
		{[]fixed.Num{}, nil, 0, -1},
		{nums(0, 0), []int{0}, 0, -1},
		{nums(5, 0), []int{5}, 0, -1},
		{nums(-125, 1), []int{-125}, 1, -1},
		{nums(50, 1), []int{50}, 1, -1}, // its scale stays, though it needs none
		{nums(0, 6), []int{0}, 6, -1},
		{nums(0, 6, 1, 0), []int{0, 1000000}, 6, -1},
		{nums(5, 0, 25, 1, -1, 2), []int{500, 250, -1}, 2, -1},
		{nums(-1, 2, 25, 1, 5, 0), []int{-1, 250, 500}, 2, -1},
		{nums(25, 1, -1, 2, 5, 0), []int{250, -1, 500}, 2, -1},
		{nums(1, 0, 1, 1, 1, 2, 1, 3, 1, 4, 1, 5, 1, 6), []int{1000000, 100000, 10000, 1000, 100, 10, 1}, 6, -1},
		{nums(0, 0, 5, 1, 3, 0, 4, 0), []int{0, 5, 30, 40}, 1, -1}, // the document's tour of two points
		{nums(api.MaxNum, 0), []int{api.MaxNum}, 0, -1},
		{nums(-api.MaxNum, 6), []int{-api.MaxNum}, 6, -1},
		{nums(api.MaxNum+1, 0), nil, 0, 0},
		{nums(-api.MaxNum-1, 6), nil, 0, 0},
		{nums(10000000, 0, 1, 1), []int{api.MaxNum, 1}, 1, -1},
		{nums(10000001, 0, 1, 1), nil, 0, 0},
		{nums(1, 1, 10000001, 0), nil, 0, 1},
		{nums(100, 0, -100, 0, 1, 6), []int{api.MaxNum, -api.MaxNum, 1}, 6, -1},
		{nums(100, 0, -101, 0, 1, 6), nil, 0, 1},
		{nums(5, 0, 101, 0, 1, 6), nil, 0, 1},
		{nums(101, 0, 5, 0, 1, 6), nil, 0, 0},
		{nums(5, 0, 1, 6, 101, 0), nil, 0, 2},
		{nums(5, 0, -101, 0, 101, 0, 1, 6), nil, 0, 1},
		{nums(101, 0, 102, 0, 103, 0, 1, 6), nil, 0, 0},
		{nums(api.MaxNum+1, 3, 5, 0), nil, 0, 0},
		{nums(mostM, 0), nil, 0, 0},
		{nums(1, 0, mostM, 6, -mostM, 6), nil, 0, 1},
		{nums(-mostM, 0, 1, 6), nil, 0, 0},
		{nums(mostM, 6, -mostM, 0), nil, 0, 0},
	} {
		holdsCommon(t, x.l, x.want, x.scale, x.at)
	}
}

// edgeNums are numbers of every scale: small ones, and those at and beside the greatest that are told
// in each scale that is as great or greater.
func edgeNums() []fixed.Num {
	var l []fixed.Num
	for s := range api.MaxScale + 1 {
		for _, m := range []int{0, 1, 10, 25, mostM, mostM - 1} {
			l = append(l, fixed.Num{M: m, S: s}, fixed.Num{M: -m, S: s})
		}
		for to, edge := s, api.MaxNum; to <= api.MaxScale; to, edge = to+1, edge/10 {
			for by := -1; by <= 1; by++ {
				l = append(l, fixed.Num{M: edge + by, S: s}, fixed.Num{M: -edge - by, S: s})
			}
		}
	}
	return l
}

func TestCommonOfAllPairs(t *testing.T) {
	l := edgeNums()
	for _, a := range l {
		want, scale, at := plainCommon([]fixed.Num{a})
		holdsCommon(t, []fixed.Num{a}, want, scale, at)
		for _, b := range l {
			pair := []fixed.Num{a, b}
			want, scale, at := plainCommon(pair)
			holdsCommon(t, pair, want, scale, at)
		}
	}
}

// Each number of a list in turn is too great, and each two of them, in each scale.
func TestCommonPlaces(t *testing.T) {
	for size := 1; size <= 6; size++ {
		for scale := range api.MaxScale + 1 {
			for first := range size {
				for second := first; second < size; second++ {
					l := make([]fixed.Num, size)
					for i := range l {
						l[i] = fixed.Num{M: i - 2, S: scale}
					}
					l[first].M, l[second].M = api.MaxNum+1, -api.MaxNum-1
					holdsCommon(t, l, nil, 0, first)
				}
			}
		}
	}
}

func TestCommonByChance(t *testing.T) {
	r := rand.New(rand.NewSource(13))
	all := edgeNums()
	for range 20000 {
		l := make([]fixed.Num, r.Intn(7))
		for i := range l {
			if l[i] = all[r.Intn(len(all))]; r.Intn(2) == 0 {
				l[i] = fixed.Num{M: r.Intn(2001) - 1000, S: r.Intn(api.MaxScale + 1)}
			}
		}
		want, scale, at := plainCommon(l)
		holdsCommon(t, l, want, scale, at)
	}
}

func TestCommonOfManyNumbers(t *testing.T) {
	l := make([]fixed.Num, 1000)
	var want []int
	for i := range l {
		l[i] = fixed.Num{M: i, S: i % 3}
		want = append(want, []int{100 * i, 10 * i, i}[i%3])
	}
	holdsCommon(t, l, want, 2, -1)
	l[999].M = api.MaxNum + 1
	holdsCommon(t, l, nil, 0, 999)
	l[500].M = api.MaxNum + 1
	holdsCommon(t, l, nil, 0, 500)
}

// P13.5

// write writes rows of texts, with blanks and ends of lines of all sorts, and blank lines between;
// the last line may have no end.
func write(r *rand.Rand, rows [][]string) string {
	var b strings.Builder
	pick := func(l []string) string { return l[r.Intn(len(l))] }
	for i, row := range rows {
		if r.Intn(3) == 0 {
			b.WriteString(pick(blanks))
		}
		for k, text := range row {
			if k > 0 {
				b.WriteString(pick(blanks))
			}
			b.WriteString(text)
		}
		if i < len(rows)-1 || r.Intn(2) == 0 {
			b.WriteString(pick(ends))
		}
	}
	return b.String()
}

// Whole numbers in rows are told again, row by row, and all together.
func TestWholeNumbersAreToldAgain(t *testing.T) {
	r := rand.New(rand.NewSource(5))
	for range 3000 {
		rows, texts := make([][]int, r.Intn(6)), [][]string{}
		var all []int
		for i := range rows {
			var row []string
			for range 1 + r.Intn(5) {
				n := []int{r.Intn(21) - 10, r.Intn(2*api.MaxNum+1) - api.MaxNum, 0, api.MaxNum, -api.MaxNum}[r.Intn(5)]
				rows[i] = append(rows[i], n)
				row = append(row, strconv.Itoa(n))
			}
			texts = append(texts, row)
			all = append(all, rows[i]...)
		}
		s := write(r, texts)
		l := sheet.Rows(s, 0)
		if len(l) != len(rows) {
			t.Fatalf("%q: %d rows, want %d", s, len(l), len(rows))
		}
		many := 0
		for i := range l {
			holdsInts(t, s, l[i], len(rows[i]), rows[i], api.Diag{})
			if !sheet.Title(s, l[i], strings.Join(texts[i], " ")) {
				t.Errorf("%q: row %d is not %v", s, i, texts[i])
			}
			many += len(rows[i])
			holdsFlat(t, s, l, many, all[:many], i+1, api.Diag{})
		}
		holdsFlat(t, s, l, len(all), all, len(rows), api.Diag{})
		if from := sheet.Rows(s, 1); !sameRows(from, plainRows(s, 1)) {
			t.Errorf("%q: from 1 %v", s, from)
		}
		holdsRows(t, s, l)
	}
}

// Numbers with a point are told again, row by row, behind any many words, and in one scale.
func TestNumbersAreToldAgain(t *testing.T) {
	r := rand.New(rand.NewSource(6))
	for range 3000 {
		skip := r.Intn(3)
		var rows [][]fixed.Num
		var texts [][]string
		var all []fixed.Num
		for range r.Intn(6) {
			var nums []fixed.Num
			row := []string{"x", "y1"}[:skip]
			row = slices.Clip(row)
			for range r.Intn(4) + 1 {
				n := fixed.Num{M: r.Intn(20001) - 10000, S: r.Intn(4)}
				row = append(row, fixed.Print(n))
				nums = append(nums, fixed.Least(n))
			}
			rows, texts, all = append(rows, nums), append(texts, row), append(all, nums...)
		}
		s := write(r, texts)
		l := sheet.Rows(s, 0)
		if len(l) != len(rows) {
			t.Fatalf("%q: %d rows, want %d", s, len(l), len(rows))
		}
		var again []fixed.Num
		for i := range l {
			holdsNums(t, s, l[i], skip, rows[i], api.Diag{})
			holdsRow(t, s, l[i])
			told, _ := sheet.Nums(s, l[i], skip)
			again = append(again, told...)
		}
		m, scale, at := sheet.Common(again)
		if at != -1 || len(m) != len(all) {
			t.Fatalf("%q: %v, %d, %d", s, m, scale, at)
		}
		for i := range m {
			if fixed.Least(fixed.Num{M: m[i], S: scale}) != all[i] {
				t.Errorf("%q: %d of scale %d, want %v", s, m[i], scale, all[i])
			}
		}
	}
}

// A matrix of as many numbers as can be looked at, in rows of all sizes.
func TestManyNumbersAreToldAgain(t *testing.T) {
	for _, size := range []int{1, 2, 19, 20, 21, 399, 400} {
		var all []int
		var b strings.Builder
		for i := range 400 {
			all = append(all, i*i%1000)
			b.WriteString(strconv.Itoa(all[i]))
			if (i+1)%size == 0 {
				b.WriteString("\n")
			} else {
				b.WriteString(" ")
			}
		}
		s := b.String()
		l := sheet.Rows(s, 0)
		holdsFlat(t, s, l, 400, all, (399+size)/size, api.Diag{})
		holdsFlat(t, s, l, 401, nil, 0, api.Diag{At: len(s), Code: api.ErrEnd})
		for n := 398; n < 400; n++ {
			want, rows, d := plainFlat(s, l, n)
			holdsFlat(t, s, l, n, want, rows, d)
		}
	}
}

// R1, R4, R5: calls end, what is handed in stays, and answers share nothing.

// Of rows that are not the text's nothing is said, but that calls end, and do not panic.
func TestStrangeRows(t *testing.T) {
	edges := []int{math.MinInt, -1, 0, 1, 3, 4, 5, math.MaxInt}
	for _, s := range []string{"", "1", "1 2\n", "é\xff"} {
		for _, a := range edges {
			for _, b := range edges {
				r := sheet.Row{From: a, Words: []words.Word{{From: a, To: b}, {From: b, To: a}}}
				sheet.Title(s, r, "1 2")
				for _, n := range append(edges, 2) {
					sheet.Ints(s, r, n)
					sheet.Nums(s, r, n)
					sheet.Flat(s, []sheet.Row{r, {}, r}, n)
				}
				sheet.Common([]fixed.Num{{M: a, S: b}, {M: b, S: a}})
			}
		}
	}
	if sheet.Title("", sheet.Row{}, "x") {
		t.Error("a row without words has a word as title")
	}
}

// roomy makes a copy of l with room behind it that is filled, and tells both.
func roomy[T any](l []T, fill T) ([]T, []T) {
	whole := append(slices.Clone(l), fill, fill, fill)
	return whole[:len(l)], whole
}

func TestWhatIsHandedInStays(t *testing.T) {
	for _, s := range []string{"1 2.5 3\n4\n\n5 6", "x 1\n2 3", "100000001", "7\n8\n9"} {
		word, full := words.Word{From: 77, To: 78}, fixed.Num{M: 77, S: 6}
		var rows []sheet.Row
		var wholes [][]words.Word
		for _, r := range sheet.Rows(s, 0) {
			l, whole := roomy(r.Words, word)
			rows, wholes = append(rows, sheet.Row{From: r.From, Words: l}), append(wholes, whole)
		}
		l, whole := roomy(rows, sheet.Row{From: 77})
		numbers, room := roomy([]fixed.Num{{M: 50, S: 1}, {M: 7}, {M: -1, S: 2}}, full)
		for n := -1; n < 9; n++ {
			sheet.Flat(s, l, n)
			for _, r := range l {
				sheet.Title(s, r, "1 2")
				sheet.Ints(s, r, n)
				sheet.Nums(s, r, n)
			}
		}
		sheet.Common(numbers)
		sheet.Common(append(numbers[:2:2], fixed.Num{M: mostM}))
		if !sameRows(l, plainRows(s, 0)) || !sameRows(whole[len(l):], slices.Repeat([]sheet.Row{{From: 77}}, 3)) {
			t.Errorf("%q: rows are %v", s, whole)
		}
		for _, w := range wholes {
			if !slices.Equal(w[len(w)-3:], []words.Word{word, word, word}) {
				t.Errorf("%q: words are %v", s, w)
			}
		}
		if !slices.Equal(room, []fixed.Num{{M: 50, S: 1}, {M: 7}, {M: -1, S: 2}, full, full, full}) {
			t.Errorf("numbers are %v", room)
		}
	}
}

// spoil writes over l, and over what room there is behind it.
func spoil[T any](l []T, by T) {
	l = l[:cap(l)]
	for i := range l {
		l[i] = by
	}
}

func TestRowsShareNothing(t *testing.T) {
	s := "a b c\n1 2\r\n\n x"
	want := plainRows(s, 0)
	first, second := sheet.Rows(s, 0), sheet.Rows(s, 0)
	for i, r := range first {
		spoil(r.Words, words.Word{From: -1, To: -1})
		// Nor do the rows of one answer share any, and so those behind it stay.
		if !sameRows(first[i+1:], want[i+1:]) {
			t.Errorf("row %d was written over: %v", i, first)
		}
	}
	spoil(first, sheet.Row{From: -1})
	if third := sheet.Rows(s, 0); !sameRows(second, want) || !sameRows(third, want) {
		t.Errorf("%v, %v, want %v", second, third, want)
	}
}

func TestNumbersShareNothing(t *testing.T) {
	s := "1 2\n3"
	l := sheet.Rows(s, 0)
	numbers := []fixed.Num{{M: 5}, {M: 25, S: 1}}
	for range 2 {
		ints, _ := sheet.Ints(s, l[0], 2)
		nums, _ := sheet.Nums(s, l[0], 0)
		flat, _, _ := sheet.Flat(s, l, 3)
		common, _, _ := sheet.Common(numbers)
		again, _ := sheet.Ints(s, l[0], 2)
		spoil(again, -1)
		more, _ := sheet.Nums(s, l[0], 0)
		spoil(more, fixed.Num{M: -1})
		other, _, _ := sheet.Flat(s, l, 3)
		spoil(other, -1)
		scaled, _, _ := sheet.Common(numbers)
		spoil(scaled, -1)
		if !slices.Equal(ints, []int{1, 2}) || !slices.Equal(nums, []fixed.Num{{M: 1}, {M: 2}}) ||
			!slices.Equal(flat, []int{1, 2, 3}) || !slices.Equal(common, []int{50, 25}) {
			t.Errorf("%v, %v, %v, %v", ints, nums, flat, common)
		}
		spoil(ints, -1)
		spoil(nums, fixed.Num{M: -1})
		spoil(flat, -1)
		spoil(common, -1)
		if !sameRows(l, plainRows(s, 0)) || !slices.Equal(numbers, []fixed.Num{{M: 5}, {M: 25, S: 1}}) {
			t.Errorf("what was handed in is now %v, %v", l, numbers)
		}
	}
}
