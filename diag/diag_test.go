package diag_test

import (
	"fmt"
	"math"
	"math/rand"
	"slices"
	"strings"
	"testing"

	"entrepot/api"
	"entrepot/diag"
)

const (
	least = math.MinInt
	most  = math.MaxInt
)

func d(at int, code api.Errno) api.Diag { return api.Diag{At: at, Code: code} }

// few are the Diags of which all lists are tried: three places, two of them with two Codes.
var few = []api.Diag{d(-1, 0), d(0, -1), d(0, 20), d(4, 10), d(4, 11)}

// wide are Diags, in order, whose numbers are as far apart as can be: a difference would go round.
var wide = []api.Diag{
	d(least, least), d(least, 0), d(least, most), d(-1, least), d(-1, -1), d(-1, most), d(0, least), d(0, -1),
	d(0, 0), d(0, 1), d(0, most), d(1, least), d(1, most), d(most, least), d(most, 0), d(most, most),
}

// lists goes through all lists of as many of few as longest, or fewer, in any order, twice or not.
func lists(longest int, use func(l []api.Diag)) {
	var grow func(l []api.Diag)
	grow = func(l []api.Diag) {
		use(slices.Clone(l))
		if len(l) == longest {
			return
		}
		for _, x := range few {
			grow(append(slices.Clone(l), x))
		}
	}
	grow(nil)
}

// chosen goes through all lists of some of l, in the order of l.
func chosen(l []api.Diag, use func(some []api.Diag)) {
	for set := range 1 << len(l) {
		var some []api.Diag
		for i, x := range l {
			if set>>i&1 == 1 {
				some = append(some, x)
			}
		}
		use(some)
	}
}

// orders goes through all orders of l.
func orders(l []api.Diag, use func(l []api.Diag)) {
	var pick func(ahead, left []api.Diag)
	pick = func(ahead, left []api.Diag) {
		if len(left) == 0 {
			use(ahead)
		}
		for i, x := range left {
			pick(append(slices.Clone(ahead), x), slices.Delete(slices.Clone(left), i, i+1))
		}
	}
	pick(nil, l)
}

// row makes a list of n elements, at 0, 10, 20 and so on, of Code 5.
func row(n int) []api.Diag {
	var l []api.Diag
	for i := range n {
		l = append(l, d(10*i, 5))
	}
	return l
}

// above tells whether x is above y, as P4.1 words it.
func above(x, y api.Diag) bool {
	return x.At > y.At || x.At == y.At && x.Code > y.Code
}

// plainSorted tells what P4.1 says of Sorted, of all pairs of elements.
func plainSorted(l []api.Diag) bool {
	for i := range l {
		for k := range i {
			if !above(l[i], l[k]) {
				return false
			}
		}
	}
	return len(l) <= 16
}

// plainAll tells the 16 lowest of l, each once: it looks through all of l for each of them.
func plainAll(l []api.Diag) []api.Diag {
	var all []api.Diag
	for len(all) < 16 {
		var next api.Diag
		found := false
		for _, x := range l {
			isLeft := len(all) == 0 || above(x, all[len(all)-1])
			if isLeft && (!found || above(next, x)) {
				next, found = x, true
			}
		}
		if !found {
			break
		}
		all = append(all, next)
	}
	return all
}

// put calls Put with a list that has room behind it, and holds what was handed in against what it was.
func put(t *testing.T, l []api.Diag, x api.Diag) []api.Diag {
	t.Helper()
	mark := d(-77, -77)
	room := append(slices.Clone(l), mark, mark)
	got := diag.Put(room[:len(l)], x)
	if !slices.Equal(room[:len(l)], l) || room[len(l)] != mark || room[len(l)+1] != mark {
		t.Fatalf("Put(%v, %v) changed what was handed in: %v", l, x, room)
	}
	return got
}

// P4.1: Sorted

func TestSorted(t *testing.T) {
	for _, x := range []struct {
		name string
		l    []api.Diag
		want bool
	}{
		{"nil", nil, true},
		{"the empty list", []api.Diag{}, true},
		{"one element", []api.Diag{d(3, 20)}, true},
		{"one element that is zero", []api.Diag{{}}, true},
		{"one element below 0", []api.Diag{d(-5, -5)}, true},
		{"another At", []api.Diag{d(1, 20), d(2, 20)}, true},
		{"another At, and a lower Code", []api.Diag{d(1, 20), d(2, 10)}, true},
		{"a lower At", []api.Diag{d(2, 20), d(1, 20)}, false},
		{"a lower At, and a greater Code", []api.Diag{d(2, 10), d(1, 20)}, false},
		{"the same At, and a greater Code", []api.Diag{d(1, 10), d(1, 20)}, true},
		{"the same At, and a lower Code", []api.Diag{d(1, 20), d(1, 10)}, false},
		{"the same At and Code", []api.Diag{d(1, 20), d(1, 20)}, false},
		{"the zero Diag twice", []api.Diag{{}, {}}, false},
		{"an element that comes again, not at once", []api.Diag{d(1, 1), d(2, 1), d(1, 1)}, false},
		{"out of order in the middle alone", []api.Diag{d(1, 1), d(3, 1), d(2, 1), d(4, 1)}, false},
		{"out of order at the end alone", []api.Diag{d(1, 1), d(2, 1), d(3, 1), d(0, 1)}, false},
		{"out of order at the beginning alone", []api.Diag{d(2, 1), d(1, 1), d(3, 1), d(4, 1)}, false},
		{"At below 0 ahead of 0", []api.Diag{d(-2, 1), d(-1, 1), d(0, 1)}, true},
		{"At below 0, from 0 down", []api.Diag{d(-1, 1), d(-2, 1)}, false},
		{"Codes below 0", []api.Diag{d(0, -2), d(0, -1), d(0, 0)}, true},
		{"Codes below 0, from 0 down", []api.Diag{d(0, -1), d(0, -2)}, false},
		{"the widest numbers", wide, true},
		{"At from one end to the other", []api.Diag{d(least, 0), d(most, 0)}, true},
		{"At from one end to the other, down", []api.Diag{d(most, 0), d(least, 0)}, false},
		{"Code from one end to the other, down", []api.Diag{d(0, most), d(0, least)}, false},
		{"15 elements", row(15), true},
		{"16 elements", row(16), true},
		{"16 elements, the last one twice", append(row(15), row(15)[14]), false},
		{"16 elements, the last one too low", append(row(15), d(-1, 5)), false},
		{"17 elements", row(17), false},
		{"18 elements", row(18), false},
		{"200 elements", row(200), false},
	} {
		was := slices.Clone(x.l)
		if got := diag.Sorted(x.l); got != x.want {
			t.Errorf("%s: Sorted(%v) = %v, want %v", x.name, x.l, got, x.want)
		}
		if !slices.Equal(x.l, was) {
			t.Errorf("%s: Sorted changed what was handed in", x.name)
		}
	}
}

func TestSortedOfAllShortLists(t *testing.T) {
	lists(5, func(l []api.Diag) {
		if got, want := diag.Sorted(l), plainSorted(l); got != want {
			t.Fatalf("Sorted(%v) = %v, want %v", l, got, want)
		}
	})
}

func TestSortedOfAllPairs(t *testing.T) {
	for i, x := range wide {
		for k, y := range wide {
			if got := diag.Sorted([]api.Diag{x, y}); got != (i < k) {
				t.Errorf("Sorted(%v, %v) = %v", x, y, got)
			}
		}
	}
}

// P4.1: Put

func TestPut(t *testing.T) {
	three := []api.Diag{d(1, 30), d(3, 10), d(3, 20)}
	full := row(16)
	for _, x := range []struct {
		name string
		l    []api.Diag
		x    api.Diag
		want []api.Diag
	}{
		{"into nil", nil, d(3, 20), []api.Diag{d(3, 20)}},
		{"into the empty list", []api.Diag{}, d(3, 20), []api.Diag{d(3, 20)}},
		{"the zero Diag, into nil", nil, d(0, 0), []api.Diag{{}}},
		{"first", three, d(0, 99), []api.Diag{d(0, 99), d(1, 30), d(3, 10), d(3, 20)}},
		{"first, of the same At", three, d(1, 29), []api.Diag{d(1, 29), d(1, 30), d(3, 10), d(3, 20)}},
		{"between", three, d(2, 99), []api.Diag{d(1, 30), d(2, 99), d(3, 10), d(3, 20)}},
		{"between, of the same At as those beside it", three, d(3, 15), []api.Diag{d(1, 30), d(3, 10), d(3, 15), d(3, 20)}},
		{"between, of the same At as the one ahead", three, d(1, 31), []api.Diag{d(1, 30), d(1, 31), d(3, 10), d(3, 20)}},
		{"between, of the same At as the one behind", three, d(3, 9), []api.Diag{d(1, 30), d(3, 9), d(3, 10), d(3, 20)}},
		{"last", three, d(4, 1), []api.Diag{d(1, 30), d(3, 10), d(3, 20), d(4, 1)}},
		{"last, of the same At", three, d(3, 21), []api.Diag{d(1, 30), d(3, 10), d(3, 20), d(3, 21)}},
		{"the first one again", three, d(1, 30), three},
		{"the one between again", three, d(3, 10), three},
		{"the last one again", three, d(3, 20), three},
		{"the zero Diag, into others", three, d(0, 0), []api.Diag{{}, d(1, 30), d(3, 10), d(3, 20)}},
		{"below 0", three, d(-1, -1), []api.Diag{d(-1, -1), d(1, 30), d(3, 10), d(3, 20)}},
		{"Code below 0", three, d(3, -1), []api.Diag{d(1, 30), d(3, -1), d(3, 10), d(3, 20)}},
		{"a sixteenth, last", row(15), d(150, 5), full},
		{"a sixteenth, first", row(16)[1:], d(0, 5), full},
		{"into a full list, first", full, d(-1, 5), append([]api.Diag{d(-1, 5)}, row(15)...)},
		{"into a full list, between", full, d(5, 5), slices.Insert(row(15), 1, d(5, 5))},
		{"into a full list, right below the last one", full, d(150, 4), append(row(15), d(150, 4))},
		{"into a full list, right above the last one", full, d(150, 6), full},
		{"into a full list, far above the last one", full, d(most, most), full},
		{"into a full list, the first one again", full, d(0, 5), full},
		{"into a full list, the last one again", full, d(150, 5), full},
	} {
		if got := put(t, x.l, x.x); !slices.Equal(got, x.want) {
			t.Errorf("%s: Put(%v, %v) = %v, want %v", x.name, x.l, x.x, got, x.want)
		}
	}
}

func TestPutIntoAllLists(t *testing.T) {
	// Of a list of some of few, and of a list of many that may be full with them.
	chosen(few, func(some []api.Diag) {
		for _, behind := range [][]api.Diag{nil, row(17)[1:12], row(17)[1:13], row(17)[1:14], row(17)[1:]} {
			l := plainAll(slices.Concat(some, behind))
			for _, x := range append(slices.Concat(few, wide, row(18)), d(-2, 0), d(0, 0), d(3, 9), d(4, 12)) {
				want := plainAll(append(slices.Clone(l), x))
				got := put(t, l, x)
				if !slices.Equal(got, want) {
					t.Fatalf("Put(%v, %v) = %v, want %v", l, x, got, want)
				}
				if !diag.Sorted(got) {
					t.Fatalf("Put(%v, %v) = %v, which is not Sorted", l, x, got)
				}
			}
		}
	})
}

func TestPutAmongWideNumbers(t *testing.T) {
	for i, x := range wide {
		others := slices.Delete(slices.Clone(wide), i, i+1)
		if got := put(t, others, x); !slices.Equal(got, wide) {
			t.Errorf("Put(.., %v) = %v", x, got)
		}
		if got := put(t, wide, x); !slices.Equal(got, wide) {
			t.Errorf("Put(.., %v), which is there = %v", x, got)
		}
	}
}

// P4.1: All

func TestAll(t *testing.T) {
	for _, x := range []struct {
		name string
		l    [][]api.Diag
		want []api.Diag
	}{
		{"no lists at all", nil, nil},
		{"one nil list", [][]api.Diag{nil}, nil},
		{"empty lists", [][]api.Diag{{}, nil, {}}, nil},
		{"one list of one", [][]api.Diag{{d(3, 20)}}, []api.Diag{d(3, 20)}},
		{"one list that is sorted", [][]api.Diag{few}, few},
		{"one list that is not", [][]api.Diag{{d(3, 1), d(1, 1), d(2, 1)}}, []api.Diag{d(1, 1), d(2, 1), d(3, 1)}},
		{"two lists, one behind the other", [][]api.Diag{{d(1, 1)}, {d(2, 1)}}, []api.Diag{d(1, 1), d(2, 1)}},
		{"two lists, the second ahead", [][]api.Diag{{d(2, 1)}, {d(1, 1)}}, []api.Diag{d(1, 1), d(2, 1)}},
		{"two lists, one in the other", [][]api.Diag{{d(1, 1), d(3, 1)}, {d(2, 1), d(4, 1)}}, []api.Diag{d(1, 1), d(2, 1), d(3, 1), d(4, 1)}},
		{"empty lists among others", [][]api.Diag{nil, {d(2, 1)}, {}, {d(1, 1)}, nil}, []api.Diag{d(1, 1), d(2, 1)}},
		{"the same At with another Code", [][]api.Diag{{d(1, 2)}, {d(1, 1)}, {d(1, 3)}}, []api.Diag{d(1, 1), d(1, 2), d(1, 3)}},
		{"the same one in two lists", [][]api.Diag{{d(1, 2)}, {d(1, 2)}}, []api.Diag{d(1, 2)}},
		{"the same one twice in one list", [][]api.Diag{{d(1, 2), d(0, 1), d(1, 2), d(1, 2)}}, []api.Diag{d(0, 1), d(1, 2)}},
		{"zero Diags", [][]api.Diag{{{}, {}}, {{}}}, []api.Diag{{}}},
		{"16 in one list", [][]api.Diag{row(16)}, row(16)},
		{"17 in one list", [][]api.Diag{row(17)}, row(16)},
		{"17 in one list, but 16 others", [][]api.Diag{append(row(16), row(1)...)}, row(16)},
		{"17 in two lists", [][]api.Diag{row(17)[8:], row(8)}, row(16)},
		{"200 in one list", [][]api.Diag{row(200)}, row(16)},
		{"lower ones behind a full list", [][]api.Diag{row(200), {d(-1, 7), d(5, 1)}}, slices.Concat([]api.Diag{d(-1, 7), d(0, 5), d(5, 1)}, row(14)[1:])},
		{"one that was dropped comes again", [][]api.Diag{row(17), {d(160, 5)}}, row(16)},
		{"the widest numbers", [][]api.Diag{wide[8:], wide[:8]}, wide},
	} {
		was := make([][]api.Diag, len(x.l))
		for i, part := range x.l {
			was[i] = slices.Clone(part)
		}
		if got := diag.All(x.l...); !slices.Equal(got, x.want) {
			t.Errorf("%s: All(%v) = %v, want %v", x.name, x.l, got, x.want)
		}
		for i, part := range x.l {
			if !slices.Equal(part, was[i]) {
				t.Errorf("%s: All changed what was handed in", x.name)
			}
		}
	}
	if got := diag.All(); len(got) != 0 {
		t.Errorf("All() = %v", got)
	}
	back := row(200)
	slices.Reverse(back)
	if got := diag.All(back); !slices.Equal(got, row(16)) {
		t.Errorf("All of 200 from the last one on = %v", got)
	}
}

func TestAllOfAllShortLists(t *testing.T) {
	lists(5, func(l []api.Diag) {
		want := plainAll(l)
		for cut := range len(l) + 1 {
			if got := diag.All(l[:cut], l[cut:]); !slices.Equal(got, want) {
				t.Fatalf("All(%v, %v) = %v, want %v", l[:cut], l[cut:], got, want)
			}
		}
	})
}

// P4.2: Tell

func TestTell(t *testing.T) {
	for _, x := range []struct {
		name, s string
		d       api.Diag
		want    string
	}{
		{"the document's example", "a\nbc", d(3, 20), "line 2, column 2: error 20"},
		{"At 0", "a\nbc", d(0, 1), "line 1, column 1: error 1"},
		{"in a line's end", "a\nbc", d(1, 20), "line 1, column 2: error 20"},
		{"right behind a line's end", "a\nbc", d(2, 20), "line 2, column 1: error 20"},
		{"at the text's end", "a\nbc", d(4, 20), "line 2, column 3: error 20"},
		{"at the text's end, behind a line feed", "a\nbc\n", d(5, 20), "line 3, column 1: error 20"},
		{"one beyond the text", "a\nbc", d(5, 20), "error 20"},
		{"far beyond the text", "a\nbc", d(most, 20), "error 20"},
		{"At below 0", "a\nbc", d(-1, 20), "error 20"},
		{"At far below 0", "a\nbc", d(least, 20), "error 20"},
		{"the empty text", "", d(0, 4), "line 1, column 1: error 4"},
		{"beyond the empty text", "", d(1, 4), "error 4"},
		{"ahead of the empty text", "", d(-1, 4), "error 4"},
		{"in both signs of a line's end", "ab\r\nc", d(2, 3), "line 1, column 3: error 3"},
		{"in the second of them", "ab\r\nc", d(3, 3), "line 1, column 4: error 3"},
		{"line feeds alone", "\n\n\n", d(2, 3), "line 3, column 1: error 3"},
		{"within a sign of more bytes", "\n\u20ac", d(2, 3), "line 2, column 2: error 3"},
		{"behind bytes that are no signs", "\xff\n\xc3\x80\xff", d(5, 3), "line 2, column 4: error 3"},
		{"numbers of more digits", strings.Repeat("\n", 1233) + strings.Repeat("x", 600), d(1233+566, 141), "line 1234, column 567: error 141"},
		{"Code 0", "a\nbc", d(3, 0), "line 2, column 2: error 0"},
		{"the zero Diag", "a\nbc", d(0, 0), "line 1, column 1: error 0"},
		{"Code 0 at no place", "a\nbc", d(-1, 0), "error 0"},
		{"Code below 0", "a\nbc", d(4, -1), "line 2, column 3: error -1"},
		{"Code below 0 at no place", "a\nbc", d(-1, -7), "error -7"},
		{"Code of many digits", "a", d(1, 1234567890123456789), "line 1, column 2: error 1234567890123456789"},
		{"Code of many digits, below 0", "a", d(0, -1234567890123456789), "line 1, column 1: error -1234567890123456789"},
		{"the greatest Code", "a", d(0, most), "line 1, column 1: error 9223372036854775807"},
		{"the least Code", "a", d(0, least), "line 1, column 1: error -9223372036854775808"},
		{"the greatest of all", "a", d(most, most), "error 9223372036854775807"},
		{"the least of all", "a", d(least, least), "error -9223372036854775808"},
		{"an error and a field", "a", d(0, api.ErrWell+2), "line 1, column 1: error 302"},
	} {
		if got := diag.Tell(x.s, x.d); got != x.want {
			t.Errorf("%s: Tell(%q, %v) = %q, want %q", x.name, x.s, x.d, got, x.want)
		}
	}
}

// plainTell tells what P4.2 says, with a line and a column from the text ahead of At.
func plainTell(s string, x api.Diag) string {
	if x.At < 0 || x.At > len(s) {
		return fmt.Sprintf("error %d", x.Code)
	}
	parts := strings.Split(s[:x.At], "\n")
	return fmt.Sprintf("line %d, column %d: error %d", len(parts), len(parts[len(parts)-1])+1, x.Code)
}

func TestTellOfAllShortTexts(t *testing.T) {
	codes := []api.Errno{least, -300, -1, 0, 1, 9, 10, 300, most}
	var grow func(s string, left int)
	grow = func(s string, left int) {
		for _, at := range append([]int{least, -1, len(s) + 1, most}, 0, len(s)/2, len(s)) {
			for _, code := range codes {
				if got, want := diag.Tell(s, d(at, code)), plainTell(s, d(at, code)); got != want {
					t.Fatalf("Tell(%q, %d, %d) = %q, want %q", s, at, code, got, want)
				}
			}
		}
		if left == 0 {
			return
		}
		for _, p := range []string{"a", "\n", "\r", " ", "\u00e9", "\xff"} {
			grow(s+p, left-1)
		}
	}
	grow("", 5)
}

// P4.2: First

func TestFirst(t *testing.T) {
	for _, x := range []struct {
		name string
		l    []api.Diag
		want api.Diag
		is   bool
	}{
		{"nil", nil, d(0, 0), false},
		{"the empty list", []api.Diag{}, d(0, 0), false},
		{"an empty list with something behind it", row(2)[1:1], d(0, 0), false},
		{"one element", []api.Diag{d(3, 20)}, d(3, 20), true},
		{"the zero Diag alone", []api.Diag{{}}, d(0, 0), true},
		{"more elements", few, d(-1, 0), true},
		{"a list that is not sorted", []api.Diag{d(3, 20), d(1, 10), d(2, 5)}, d(3, 20), true},
		{"16 elements", row(17)[1:], d(10, 5), true},
		{"200 elements", row(201)[1:], d(10, 5), true},
	} {
		was := slices.Clone(x.l)
		if got, is := diag.First(x.l); got != x.want || is != x.is {
			t.Errorf("%s: First(%v) = %v, %v, want %v, %v", x.name, x.l, got, is, x.want, x.is)
		}
		if !slices.Equal(x.l, was) {
			t.Errorf("%s: First changed what was handed in", x.name)
		}
	}
}

// P4.3

// oneByOne puts all elements of l into a list, from none on.
func oneByOne(l []api.Diag) []api.Diag {
	var all []api.Diag
	for _, x := range l {
		all = diag.Put(all, x)
	}
	return all
}

func TestEachOrderTellsTheSameList(t *testing.T) {
	chosen(few, func(some []api.Diag) {
		orders(some, func(l []api.Diag) {
			if got := oneByOne(l); !slices.Equal(got, some) {
				t.Fatalf("%v, put one by one: %v, want %v", l, got, some)
			}
			if got := diag.All(l); !slices.Equal(got, some) {
				t.Fatalf("All(%v) = %v, want %v", l, got, some)
			}
		})
	})
}

func TestManyOrdersOfMoreThanFit(t *testing.T) {
	chance := rand.New(rand.NewSource(4))
	for _, count := range []int{15, 16, 17, 18, 40, 200} {
		for round := range 60 {
			// Few places and Codes, so that many come twice; and numbers as wide as can be, at times.
			var l []api.Diag
			for range count {
				l = append(l, d(chance.Intn(count)-2, api.Errno(chance.Intn(3)-1)))
			}
			if round%3 == 0 {
				l = append(l, wide...)
			}
			want := plainAll(l)
			for range 10 {
				chance.Shuffle(len(l), func(i, k int) { l[i], l[k] = l[k], l[i] })
				a, b := chance.Intn(len(l)+1), chance.Intn(len(l)+1)
				a, b = min(a, b), max(a, b)
				if got := oneByOne(l); !slices.Equal(got, want) {
					t.Fatalf("%v, put one by one: %v, want %v", l, got, want)
				}
				if got := diag.All(l[b:], l[:a], nil, l[a:b]); !slices.Equal(got, want) {
					t.Fatalf("All of %v, cut at %d and %d = %v, want %v", l, a, b, got, want)
				}
			}
		}
	}
}

func TestWhatIsPutAgainChangesNothing(t *testing.T) {
	lists(4, func(l []api.Diag) {
		all := diag.All(l)
		if got := diag.All(all, l, all); !slices.Equal(got, all) {
			t.Fatalf("%v again: %v, want %v", l, got, all)
		}
		if !diag.Sorted(all) {
			t.Fatalf("All(%v) = %v, which is not Sorted", l, all)
		}
	})
}

// R1: every call ends, and none panics, also of lists of which nothing else is said.
func TestStrangeLists(t *testing.T) {
	try := func(l []api.Diag) {
		was := slices.Clone(l)
		for _, x := range slices.Concat(few, wide) {
			diag.Put(l, x)
		}
		if !slices.Equal(l, was) {
			t.Fatalf("Put changed what was handed in: %v", was)
		}
	}
	lists(4, try)
	for _, n := range []int{15, 16, 17, 18, 200} {
		back := row(n)
		slices.Reverse(back)
		try(row(n))
		try(back)
		try(slices.Repeat(few, n))
		try(make([]api.Diag, n))
	}
}

// R4: writing over an answer changes nothing that was handed in, nor what is answered later; and
// lists that are answered of one list share nothing, whether or not what is put is there.
func TestAnswersAreNewMemory(t *testing.T) {
	for _, n := range []int{0, 1, 2, 15, 16} {
		for _, x := range []api.Diag{d(-1, 0), d(0, 5), d(5, 0), d(150, 5), d(999, 0)} {
			l := row(n)
			first, second, all := diag.Put(l, x), diag.Put(l, x), diag.All(l)
			want := slices.Clone(second)
			clear(first[:cap(first)])
			clear(all[:cap(all)])
			if !slices.Equal(l, row(n)) || !slices.Equal(second, want) || !slices.Equal(diag.Put(l, x), want) || !slices.Equal(diag.All(l), row(n)) {
				t.Errorf("%d elements and %v: writing over an answer changed others", n, x)
			}
			// What is put behind one answer, in room that it may have, is in no other one.
			one, other := diag.Put(second, d(1000, 1)), diag.Put(second, d(1000, 2))
			if n < 15 && (one[len(one)-1] != d(1000, 1) || other[len(other)-1] != d(1000, 2)) {
				t.Errorf("%d elements and %v: two answers share memory: %v, %v", n, x, one, other)
			}
		}
	}
}

// Texts and lists far longer than those above.
func TestLongTextsAndLists(t *testing.T) {
	const count = 100000
	s := strings.Repeat("ab\r\n", count)
	if got, want := diag.Tell(s, d(len(s)-1, 3)), "line 100000, column 4: error 3"; got != want {
		t.Error(got, want)
	}
	if got := diag.Tell(s, d(len(s)+1, 3)); got != "error 3" {
		t.Error(got)
	}
	back := row(count)
	slices.Reverse(back)
	if got := diag.All(back, row(count)); !slices.Equal(got, row(16)) {
		t.Error(got)
	}
	if diag.Sorted(row(count)) {
		t.Error("a long list is Sorted")
	}
}
