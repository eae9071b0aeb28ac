package layout_test

import (
	"math"
	"math/rand"
	"slices"
	"strings"
	"testing"

	"entrepot/api"
	"entrepot/layout"
)

// keywords are the layouts' keywords, as the chapter has them, from 1 on.
var keywords = []string{"FULL_MATRIX", "UPPER_ROW", "LOWER_ROW", "UPPER_DIAG_ROW", "LOWER_DIAG_ROW", "UPPER_COL", "LOWER_COL"}

// all are the layouts.
var all = []int{layout.Full, layout.UpperRow, layout.LowerRow, layout.UpperDiagRow, layout.LowerDiagRow, layout.UpperCol, layout.LowerCol}

// strange are numbers that are no layout.
var strange = []int{math.MinInt, math.MinInt + 1, -1 << 32, 1<<32 - 1<<33 + 1, -256, -8, -7, -2, -1, 0, 8, 9, 10, 14, 64, 256, 257, 1 << 31, 1 << 32, 1<<32 + 1, math.MaxInt - 1, math.MaxInt}

// nowhere are numbers of rows that no matrix has.
var nowhere = []int{math.MinInt, math.MinInt + 1, -1 << 32, 1 - 1<<32, -401, -400, -3, -2, -1, 0, 401, 402, 500, 65536, 1 << 31, 1 << 32, 1<<32 + 1, 1<<32 + 3, 1 << 62, math.MaxInt - 1, math.MaxInt}

// sizes are numbers of rows that a matrix has, the least and the greatest among them.
var sizes = []int{1, 2, 3, 4, 5, 6, 7, 8, 9, 10, 11, 16, 20, 21, 64, 399, 400}

// cell is a row and a column.
type cell struct{ row, column int }

// has tells whether a layout tells the number of a cell.
func has(kind int, c cell) bool {
	switch kind {
	case layout.Full:
		return true
	case layout.UpperRow:
		return c.column > c.row
	case layout.LowerRow:
		return c.column < c.row
	case layout.UpperDiagRow:
		return c.column > c.row || c.column == c.row
	case layout.LowerDiagRow:
		return c.column < c.row || c.column == c.row
	case layout.UpperCol:
		return c.row < c.column
	case layout.LowerCol:
		return c.row > c.column
	}
	return false
}

// told tells the cells that a layout tells of a matrix of n, by the words of P7.2: all cells in the
// order of the layout, without those that it does not have.
func told(kind, n int) []cell {
	var l []cell
	for a := range n {
		for b := range n {
			c := cell{row: a, column: b}
			if kind == layout.UpperCol || kind == layout.LowerCol {
				c = cell{row: b, column: a}
			}
			if has(kind, c) {
				l = append(l, c)
			}
		}
	}
	return l
}

// where tells at which place each cell stands itself.
func where(kind, n int) map[cell]int {
	m := map[cell]int{}
	for at, c := range told(kind, n) {
		m[c] = at
	}
	return m
}

// index tells what P7.2 says of Index, of where each cell stands.
func index(m map[cell]int, i, j int) int {
	if at, is := m[cell{i, j}]; is {
		return at
	}
	if at, is := m[cell{j, i}]; is {
		return at
	}
	return -1
}

// diagonal tells whether a layout tells the numbers of i and i.
func diagonal(kind int) bool {
	return has(kind, cell{0, 0})
}

// P7.1

func TestNumbersOfLayouts(t *testing.T) {
	for i, got := range all {
		if got != i+1 {
			t.Errorf("layout %d has the number %d", i+1, got)
		}
	}
}

func TestKeyword(t *testing.T) {
	for kind := -300; kind <= 300; kind++ {
		want := ""
		if 1 <= kind && kind <= 7 {
			want = keywords[kind-1]
		}
		if got := layout.Keyword(kind); got != want {
			t.Errorf("Keyword(%d) = %q, want %q", kind, got, want)
		}
	}
	for _, kind := range strange {
		if got := layout.Keyword(kind); got != "" {
			t.Errorf("Keyword(%d) = %q", kind, got)
		}
	}
}

func TestOf(t *testing.T) {
	for i, k := range keywords {
		if got := layout.Of(k); got != i+1 {
			t.Errorf("Of(%q) = %d", k, got)
		}
	}
}

// none holds that no layout has the keyword, unless it is one.
func none(t *testing.T, keyword string) {
	t.Helper()
	if slices.Contains(keywords, keyword) {
		return
	}
	if got := layout.Of(keyword); got != 0 {
		t.Errorf("Of(%q) = %d", keyword, got)
	}
}

func TestOfOtherTexts(t *testing.T) {
	for _, s := range []string{
		"", " ", "\x00", "0", "1", "7", "_", "FULL", "MATRIX", "ROW", "COL", "DIAG", "UPPER", "LOWER", "FUNCTION", "UPPER_DIAG_COL",
		"LOWER_DIAG_COL", "UPPER_DIAG", "FULL_ROW", "UPPER_MATRIX", "UPPER_ROW LOWER_ROW", "UPPER_ROWLOWER_ROW", "UPPER_ROW:", "é", "\xff",
	} {
		none(t, s)
	}
}

func TestOfTextsThatAreNearlyOne(t *testing.T) {
	for _, k := range keywords {
		none(t, strings.ToLower(k))
		none(t, k+k)
		none(t, strings.ReplaceAll(k, "_", " "))
		for at := range len(k) + 1 {
			none(t, k[:at])
			none(t, k[at:])
			for b := range 256 {
				none(t, k[:at]+string([]byte{byte(b)})+k[at:])
				if at < len(k) {
					none(t, k[:at]+string([]byte{byte(b)})+k[at+1:])
				}
			}
			if at < len(k) {
				none(t, k[:at]+k[at+1:])
			}
		}
	}
}

// P7.2

func TestCountAndIndexOfThree(t *testing.T) {
	for _, x := range []struct {
		kind, count int
		places      [9]int // row by row
	}{
		{layout.Full, 9, [9]int{0, 1, 2, 3, 4, 5, 6, 7, 8}},
		{layout.UpperRow, 3, [9]int{-1, 0, 1, 0, -1, 2, 1, 2, -1}},
		{layout.LowerRow, 3, [9]int{-1, 0, 1, 0, -1, 2, 1, 2, -1}},
		{layout.UpperDiagRow, 6, [9]int{0, 1, 2, 1, 3, 4, 2, 4, 5}},
		{layout.LowerDiagRow, 6, [9]int{0, 1, 3, 1, 2, 4, 3, 4, 5}},
		{layout.UpperCol, 3, [9]int{-1, 0, 1, 0, -1, 2, 1, 2, -1}},
		{layout.LowerCol, 3, [9]int{-1, 0, 1, 0, -1, 2, 1, 2, -1}},
	} {
		if got := layout.Count(x.kind, 3); got != x.count {
			t.Errorf("Count(%d, 3) = %d, want %d", x.kind, got, x.count)
		}
		for at, want := range x.places {
			if got := layout.Index(x.kind, 3, at/3, at%3); got != want {
				t.Errorf("Index(%d, 3, %d, %d) = %d, want %d", x.kind, at/3, at%3, got, want)
			}
		}
	}
}

func TestIndexOfFour(t *testing.T) {
	// Of four rows on, rows and columns go by other orders.
	for _, x := range []struct {
		kind   int
		places [6]int // of 0 1, 0 2, 0 3, 1 2, 1 3 and 2 3
	}{
		{layout.UpperRow, [6]int{0, 1, 2, 3, 4, 5}},
		{layout.LowerCol, [6]int{0, 1, 2, 3, 4, 5}},
		{layout.LowerRow, [6]int{0, 1, 3, 2, 4, 5}},
		{layout.UpperCol, [6]int{0, 1, 3, 2, 4, 5}},
		{layout.UpperDiagRow, [6]int{1, 2, 3, 5, 6, 8}},
		{layout.LowerDiagRow, [6]int{1, 3, 6, 4, 7, 8}},
	} {
		for k, c := range []cell{{0, 1}, {0, 2}, {0, 3}, {1, 2}, {1, 3}, {2, 3}} {
			for _, c := range []cell{c, {c.column, c.row}} {
				if got := layout.Index(x.kind, 4, c.row, c.column); got != x.places[k] {
					t.Errorf("Index(%d, 4, %d, %d) = %d, want %d", x.kind, c.row, c.column, got, x.places[k])
				}
			}
		}
	}
}

func TestCount(t *testing.T) {
	for n := 1; n <= 400; n++ {
		less := n * (n - 1) / 2
		for i, want := range []int{n * n, less, less, less + n, less + n, less, less} {
			if got := layout.Count(i+1, n); got != want {
				t.Errorf("Count(%d, %d) = %d, want %d", i+1, n, got, want)
			}
		}
	}
	for _, n := range sizes {
		for _, kind := range all {
			if got, want := layout.Count(kind, n), len(told(kind, n)); got != want {
				t.Errorf("Count(%d, %d) = %d, want %d", kind, n, got, want)
			}
		}
	}
}

func TestCountOfNone(t *testing.T) {
	none := func(kind, n int) {
		if got := layout.Count(kind, n); got != 0 {
			t.Errorf("Count(%d, %d) = %d", kind, n, got)
		}
	}
	for _, kind := range strange {
		for _, n := range slices.Concat(sizes, nowhere) {
			none(kind, n)
		}
	}
	for _, kind := range all {
		for _, n := range nowhere {
			none(kind, n)
		}
	}
}

func TestIndex(t *testing.T) {
	for _, n := range sizes {
		for _, kind := range all {
			m := where(kind, n)
			for i := range n {
				for j := range n {
					if got, want := layout.Index(kind, n, i, j), index(m, i, j); got != want {
						t.Fatalf("Index(%d, %d, %d, %d) = %d, want %d", kind, n, i, j, got, want)
					}
				}
			}
		}
	}
}

func TestIndexOutside(t *testing.T) {
	for _, n := range sizes {
		out := []int{math.MinInt, math.MinInt + 1, -1 << 32, -n * n, -n - 1, -n, -2, -1, n, n + 1, 2 * n, n * n, 1 << 31, 1 << 32, math.MaxInt - 1, math.MaxInt}
		in := []int{0, n / 2, n - 1}
		for _, kind := range all {
			for _, i := range out {
				for _, j := range slices.Concat(in, out) {
					for _, c := range []cell{{i, j}, {j, i}} {
						if got := layout.Index(kind, n, c.row, c.column); got != -1 {
							t.Errorf("Index(%d, %d, %d, %d) = %d", kind, n, c.row, c.column, got)
						}
					}
				}
			}
		}
	}
}

func TestIndexOfNone(t *testing.T) {
	none := func(kind, n int) {
		for _, c := range []cell{{0, 0}, {0, 1}, {1, 0}, {1, 1}, {-1, 0}, {0, -1}, {n - 1, n - 1}, {n, 0}, {0, n}, {math.MinInt, math.MaxInt}} {
			if got := layout.Index(kind, n, c.row, c.column); got != -1 {
				t.Errorf("Index(%d, %d, %d, %d) = %d", kind, n, c.row, c.column, got)
			}
		}
	}
	for _, kind := range strange {
		for _, n := range slices.Concat(sizes, nowhere) {
			none(kind, n)
		}
	}
	for _, kind := range all {
		for _, n := range nowhere {
			none(kind, n)
		}
		if !diagonal(kind) {
			none(kind, 1) // Count is 0
		}
	}
}

// P7.3: matrices that are told

// chance makes numbers of all sizes and signs, the same ones of the same seed.
func chance(seed, n int) []int {
	r := rand.New(rand.NewSource(int64(seed)))
	l := make([]int, n)
	for k := range l {
		l[k] = int(r.Uint64()) >> r.Intn(64)
	}
	return l
}

// unpacked makes the matrix that P7.3 says of Unpack, cell by cell.
func unpacked(kind, n int, l []int) []int {
	m := where(kind, n)
	var a []int
	for i := range n {
		for j := range n {
			if at := index(m, i, j); at >= 0 {
				a = append(a, l[at])
			} else {
				a = append(a, 0)
			}
		}
	}
	return a
}

// packed tells the numbers that P7.3 says of Pack.
func packed(kind, n int, m []int) []int {
	var l []int
	for _, c := range told(kind, n) {
		l = append(l, m[c.row*n+c.column])
	}
	return l
}

// unpack and pack do so where no error is told.
func unpack(t *testing.T, kind, n int, l []int) []int {
	t.Helper()
	m, e := layout.Unpack(kind, n, l)
	if e != api.OK {
		t.Fatalf("Unpack(%d, %d) of %d numbers: error %d", kind, n, len(l), e)
	}
	return m
}

func pack(t *testing.T, kind, n int, m []int) []int {
	t.Helper()
	l, e := layout.Pack(kind, n, m)
	if e != api.OK {
		t.Fatalf("Pack(%d, %d) of %d numbers: error %d", kind, n, len(m), e)
	}
	return l
}

func TestMatrices(t *testing.T) {
	for _, x := range []struct {
		name    string
		kind, n int
		l, m    []int
	}{
		{"full, one", layout.Full, 1, []int{5}, []int{5}},
		{"full, two", layout.Full, 2, []int{1, 2, 3, 4}, []int{1, 2, 3, 4}},
		{"full, three", layout.Full, 3, []int{1, 2, 3, 4, 5, 6, 7, 8, 9}, []int{1, 2, 3, 4, 5, 6, 7, 8, 9}},
		{"upper rows, one", layout.UpperRow, 1, nil, []int{0}},
		{"lower rows, one", layout.LowerRow, 1, []int{}, []int{0}},
		{"upper columns, one", layout.UpperCol, 1, nil, []int{0}},
		{"lower columns, one", layout.LowerCol, 1, nil, []int{0}},
		{"upper rows with the diagonal, one", layout.UpperDiagRow, 1, []int{-7}, []int{-7}},
		{"lower rows with the diagonal, one", layout.LowerDiagRow, 1, []int{7}, []int{7}},
		{"upper rows, two", layout.UpperRow, 2, []int{3}, []int{0, 3, 3, 0}},
		{"upper rows with the diagonal, two", layout.UpperDiagRow, 2, []int{1, 2, 3}, []int{1, 2, 2, 3}},
		{"lower rows with the diagonal, two", layout.LowerDiagRow, 2, []int{1, 2, 3}, []int{1, 2, 2, 3}},
		{"upper rows with the diagonal, three", layout.UpperDiagRow, 3, []int{1, 2, 3, 4, 5, 6}, []int{1, 2, 3, 2, 4, 5, 3, 5, 6}},
		{"lower rows with the diagonal, three", layout.LowerDiagRow, 3, []int{1, 2, 3, 4, 5, 6}, []int{1, 2, 4, 2, 3, 5, 4, 5, 6}},
		{"upper rows, four", layout.UpperRow, 4, []int{1, 2, 3, 4, 5, 6}, []int{0, 1, 2, 3, 1, 0, 4, 5, 2, 4, 0, 6, 3, 5, 6, 0}},
		{"lower columns, four", layout.LowerCol, 4, []int{1, 2, 3, 4, 5, 6}, []int{0, 1, 2, 3, 1, 0, 4, 5, 2, 4, 0, 6, 3, 5, 6, 0}},
		{"lower rows, four", layout.LowerRow, 4, []int{1, 2, 3, 4, 5, 6}, []int{0, 1, 2, 4, 1, 0, 3, 5, 2, 3, 0, 6, 4, 5, 6, 0}},
		{"upper columns, four", layout.UpperCol, 4, []int{1, 2, 3, 4, 5, 6}, []int{0, 1, 2, 4, 1, 0, 3, 5, 2, 3, 0, 6, 4, 5, 6, 0}},
		{"numbers as wide as can be", layout.UpperDiagRow, 2, []int{math.MinInt, math.MaxInt, -1}, []int{math.MinInt, math.MaxInt, math.MaxInt, -1}},
	} {
		if m := unpack(t, x.kind, x.n, x.l); !slices.Equal(m, x.m) {
			t.Errorf("%s: unpacked %v, want %v", x.name, m, x.m)
		}
		if l := pack(t, x.kind, x.n, x.m); !slices.Equal(l, x.l) {
			t.Errorf("%s: packed %v, want %v", x.name, l, x.l)
		}
	}
}

func TestUnpack(t *testing.T) {
	for _, n := range sizes {
		for _, kind := range all {
			l := chance(n+kind, len(told(kind, n)))
			if !slices.Equal(unpack(t, kind, n, l), unpacked(kind, n, l)) {
				t.Errorf("Unpack(%d, %d)", kind, n)
			}
		}
	}
}

func TestPack(t *testing.T) {
	for _, n := range sizes {
		for _, kind := range all {
			m := unpacked(kind, n, chance(n-kind, len(told(kind, n))))
			if !slices.Equal(pack(t, kind, n, m), packed(kind, n, m)) {
				t.Errorf("Pack(%d, %d)", kind, n)
			}
		}
	}
}

// P7.3: errors

// unfit holds that Unpack tells that error, and nothing with it (R3).
func unfit(t *testing.T, want api.Errno, kind, n int, l []int) {
	t.Helper()
	if m, e := layout.Unpack(kind, n, l); len(m) != 0 || e != want {
		t.Errorf("Unpack(%d, %d) of %d numbers: %d numbers, error %d, want error %d", kind, n, len(l), len(m), e, want)
	}
}

// unlike holds the same of Pack.
func unlike(t *testing.T, want api.Errno, kind, n int, m []int) {
	t.Helper()
	if l, e := layout.Pack(kind, n, m); len(l) != 0 || e != want {
		t.Errorf("Pack(%d, %d) of %d numbers: %d numbers, error %d, want error %d", kind, n, len(m), len(l), e, want)
	}
}

// lists are lists of numbers that are, for some layouts and sizes, just as many as are to be.
func lists() [][]int {
	var l [][]int
	for k := range 20 {
		l = append(l, make([]int, k), chance(k, k))
	}
	return append(l, nil, make([]int, 80200), make([]int, 160000), make([]int, 401*401))
}

// R2: no such layout or size is told ahead of a list that does not fit.
func TestNoSuchLayoutOrSize(t *testing.T) {
	for _, l := range lists() {
		for _, kind := range strange {
			for _, n := range []int{1, 2, 3, 4, 400} {
				unfit(t, api.ErrArg, kind, n, l)
				unlike(t, api.ErrArg, kind, n, l)
			}
			for _, n := range nowhere {
				unfit(t, api.ErrArg, kind, n, l)
				unlike(t, api.ErrArg, kind, n, l)
			}
		}
		for _, kind := range all {
			for _, n := range nowhere {
				unfit(t, api.ErrArg, kind, n, l)
				unlike(t, api.ErrArg, kind, n, l)
			}
		}
	}
}

func TestAnotherLength(t *testing.T) {
	for _, n := range sizes {
		for _, kind := range all {
			count := len(told(kind, n))
			for _, k := range []int{0, 1, count - 2, count - 1, count + 1, count + 2, 2 * count, n, n * n, n*n + 1} {
				if k >= 0 && k != count {
					unfit(t, api.ErrLayout, kind, n, make([]int, k))
				}
			}
			for _, k := range []int{0, 1, n, count, n*n - 2, n*n - 1, n*n + 1, n*n + n, (n + 1) * (n + 1)} {
				if k >= 0 && k != n*n {
					unlike(t, api.ErrLayout, kind, n, make([]int, k))
				}
			}
		}
		unlike(t, api.ErrLayout, layout.Full, n, nil)
	}
}

func TestAllShortLengths(t *testing.T) {
	for n := 1; n <= 5; n++ {
		for _, kind := range all {
			for k := range 31 {
				if k != len(told(kind, n)) {
					unfit(t, api.ErrLayout, kind, n, make([]int, k))
				}
				if k != n*n {
					unlike(t, api.ErrLayout, kind, n, make([]int, k))
				}
			}
		}
	}
}

// oneOff tells whether a matrix that fits a layout does so, with one number changed.
func oneOff(kind, row, column int) bool {
	return kind == layout.Full || row == column && diagonal(kind)
}

func TestOneNumberIsAnother(t *testing.T) {
	for _, n := range []int{1, 2, 3, 4, 5, 9, 16} {
		for _, kind := range all {
			for i := range n {
				for j := range n {
					m := unpacked(kind, n, chance(n*kind, len(told(kind, n))))
					for _, by := range []int{1, -1, 1 << 32, math.MinInt} {
						a := slices.Clone(m)
						a[i*n+j] += by
						if !oneOff(kind, i, j) {
							unlike(t, api.ErrLayout, kind, n, a)
						} else if l := pack(t, kind, n, a); !slices.Equal(l, packed(kind, n, a)) {
							t.Errorf("Pack(%d, %d): %v of %v", kind, n, l, a)
						}
					}
				}
			}
		}
	}
}

func TestOneNumberOfManyIsAnother(t *testing.T) {
	const n = 400
	for _, kind := range all {
		m := unpacked(kind, n, chance(kind, len(told(kind, n))))
		for _, c := range []cell{{0, 0}, {0, 1}, {1, 0}, {0, 399}, {399, 0}, {200, 199}, {199, 200}, {200, 200}, {398, 399}, {399, 398}, {399, 399}} {
			m[c.row*n+c.column]++
			if oneOff(kind, c.row, c.column) {
				pack(t, kind, n, m)
			} else {
				unlike(t, api.ErrLayout, kind, n, m)
			}
			m[c.row*n+c.column]--
		}
	}
}

// Two numbers that are the same mirrored fit again; nothing but the diagonal is to be 0.
func TestBothNumbersAreOthers(t *testing.T) {
	for _, n := range []int{2, 3, 5, 9} {
		for _, kind := range all {
			m := make([]int, n*n)
			for i := range n {
				for j := range i {
					m[i*n+j], m[j*n+i] = i-j, i-j
					if l := pack(t, kind, n, m); !slices.Equal(l, packed(kind, n, m)) {
						t.Errorf("Pack(%d, %d): %v of %v", kind, n, l, m)
					}
				}
			}
		}
	}
}

// fits tells whether a matrix of n is one that P7.3 says Pack to take.
func fits(kind, n int, m []int) bool {
	for i := range n {
		for j := range n {
			if kind != layout.Full && m[i*n+j] != m[j*n+i] {
				return false
			}
		}
		if !diagonal(kind) && m[i*n+i] != 0 {
			return false
		}
	}
	return true
}

// All matrices of a few small numbers: those that fit are packed, the others not.
func TestAllSmallMatrices(t *testing.T) {
	for _, x := range []struct{ n, base, many int }{{1, 3, 3}, {2, 3, 81}, {3, 2, 512}} {
		for k := range x.many {
			m := make([]int, x.n*x.n)
			for at, rest := 0, k; at < len(m); at, rest = at+1, rest/x.base {
				m[at] = rest % x.base
			}
			for _, kind := range all {
				if !fits(kind, x.n, m) {
					unlike(t, api.ErrLayout, kind, x.n, m)
				} else if l := pack(t, kind, x.n, m); !slices.Equal(l, packed(kind, x.n, m)) {
					t.Errorf("Pack(%d, %d): %v of %v", kind, x.n, l, m)
				}
			}
		}
	}
}

// P7.4

func TestThereAndBack(t *testing.T) {
	for _, n := range sizes {
		for _, kind := range all {
			l := chance(n^kind, len(told(kind, n)))
			m := unpack(t, kind, n, l)
			if !slices.Equal(pack(t, kind, n, m), l) {
				t.Errorf("layout %d, n %d: what is unpacked is packed as other numbers", kind, n)
			}
			if !slices.Equal(unpack(t, kind, n, pack(t, kind, n, m)), m) {
				t.Errorf("layout %d, n %d: what is packed is unpacked as other numbers", kind, n)
			}
		}
	}
}

func TestUnpackedGoesByIndex(t *testing.T) {
	for _, n := range sizes[:14] {
		for _, kind := range all {
			l := chance(n+kind, layout.Count(kind, n))
			m := unpack(t, kind, n, l)
			for i := range n {
				for j := range n {
					want := 0
					if at := layout.Index(kind, n, i, j); at >= 0 {
						want = l[at]
					}
					if got := m[i*n+j]; got != want {
						t.Fatalf("layout %d, n %d: %d stands at %d, %d, want %d", kind, n, got, i, j, want)
					}
				}
			}
		}
	}
}

// R4: what is handed in is not changed, and what is answered shares nothing with it, nor with
// other answers.
func TestNothingIsShared(t *testing.T) {
	for _, n := range []int{1, 2, 3, 7} {
		for _, kind := range all {
			l := chance(n, len(told(kind, n)))
			m := unpacked(kind, n, l)
			holdsAlone(t, kind, n, l, layout.Unpack)
			holdsAlone(t, kind, n, m, layout.Pack)
		}
	}
}

func holdsAlone(t *testing.T, kind, n int, in []int, call func(layout, n int, l []int) ([]int, api.Errno)) {
	t.Helper()
	in = append(slices.Clone(in), 77)[:len(in)] // with room behind, which is not to be written either
	kept := slices.Clone(in)
	first, _ := call(kind, n, in)
	want := slices.Clone(first)
	second, _ := call(kind, n, in)
	for k := range first {
		first[k] = -99
	}
	_ = append(first, -99)
	if !slices.Equal(in, kept) || in[:len(in)+1][len(in)] != 77 {
		t.Errorf("layout %d, n %d: what was handed in is %v, and was %v", kind, n, in, kept)
	}
	for k := range in {
		in[k] = -98
	}
	if third, _ := call(kind, n, kept); !slices.Equal(second, want) || !slices.Equal(third, want) {
		t.Errorf("layout %d, n %d: %v, %v, want %v", kind, n, second, third, want)
	}
}

// R5: what a call answers hangs on its arguments alone, not on what was asked ahead of it.
func TestCallsAreAlike(t *testing.T) {
	ask := func() []int {
		var l []int
		for _, n := range sizes[:12] {
			for _, kind := range all {
				m := unpack(t, kind, n, chance(n, layout.Count(kind, n)))
				l = append(l, pack(t, kind, n, m)...)
				l = append(l, layout.Index(kind, n, n-1, 0), layout.Of(layout.Keyword(kind)))
			}
		}
		return l
	}
	first := ask()
	layout.Unpack(layout.Full, 2, []int{1})
	layout.Pack(layout.UpperRow, 2, []int{1, 2, 3, 4})
	layout.Index(0, math.MaxInt, math.MinInt, 1)
	layout.Of("")
	if !slices.Equal(first, ask()) {
		t.Error("answers change")
	}
}
