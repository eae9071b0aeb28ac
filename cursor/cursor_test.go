package cursor_test

import (
	"math"
	"slices"
	"strings"
	"testing"

	"entrepot/api"
	"entrepot/cursor"
)

// pieces make up the texts on which all promises are tried: letters, blanks, both ends of lines,
// a sign of two bytes and its first byte alone, a byte that begins no sign, a form feed, which is no
// blank, and the longer signs that other programs take as ends of lines or as blanks.
var pieces = []string{"a", " ", "\t", "\r", "\n", "\u00e9", "\xc3", "\xff", "\x00", "\f", "\u0085", "\u00a0", "\u2028"}

// texts goes through all texts of as many pieces as most, or fewer.
func texts(most int, use func(s string)) {
	var grow func(s string, left int)
	grow = func(s string, left int) {
		use(s)
		if left == 0 {
			return
		}
		for _, p := range pieces {
			grow(s+p, left-1)
		}
	}
	grow("", most)
}

// plainLines tells lines as P1.1 words them, from the text's pieces between line feeds.
func plainLines(s string) []cursor.Line {
	var l []cursor.Line
	at := 0
	for _, part := range strings.SplitAfter(s, "\n") {
		if part == "" {
			continue
		}
		next := at + len(part)
		to := next
		if strings.HasSuffix(part, "\n") {
			to = at + len(strings.TrimSuffix(part[:len(part)-1], "\r"))
		}
		l = append(l, cursor.Line{From: at, To: to, Next: next})
		at = next
	}
	return l
}

// plainWhere tells a line and a column as P1.2 words them.
func plainWhere(s string, at int) (int, int) {
	ahead := s[:at]
	return 1 + strings.Count(ahead, "\n"), at - strings.LastIndexByte(ahead, '\n')
}

// P1.1

func TestLines(t *testing.T) {
	for _, x := range []struct {
		name, s string
		want    []cursor.Line
	}{
		{"the empty text", "", nil},
		{"one line without a line feed", "ab", []cursor.Line{{0, 2, 2}}},
		{"a line feed as the last byte", "ab\n", []cursor.Line{{0, 2, 3}}},
		{"a line feed alone", "\n", []cursor.Line{{0, 0, 1}}},
		{"line feeds alone", "\n\n", []cursor.Line{{0, 0, 1}, {1, 1, 2}}},
		{"the document's example", "ab\r\nc", []cursor.Line{{0, 2, 4}, {4, 5, 5}}},
		{"a carriage return ahead of a line feed", "\r\n", []cursor.Line{{0, 0, 2}}},
		{"two carriage returns ahead of a line feed", "a\r\r\n", []cursor.Line{{0, 2, 4}}},
		{"a carriage return that is not ahead of a line feed", "a\rb\n", []cursor.Line{{0, 3, 4}}},
		{"a carriage return at the end of the text", "a\r", []cursor.Line{{0, 2, 2}}},
		{"a carriage return behind a line feed", "a\n\rb", []cursor.Line{{0, 1, 2}, {2, 4, 4}}},
		{"a blank between carriage return and line feed", "a\r \n", []cursor.Line{{0, 3, 4}}},
		{"lines of blanks alone", " \n\t \r\n ", []cursor.Line{{0, 1, 2}, {2, 4, 6}, {6, 7, 7}}},
		{"bytes that are no signs", "\xff\r\n\xc3\n\x80", []cursor.Line{{0, 1, 3}, {3, 4, 5}, {5, 6, 6}}},
		{"the beginning of a longer sign ahead of a line feed", "\xe2\x82\nb", []cursor.Line{{0, 2, 3}, {3, 4, 4}}},
		{"signs of more bytes", "\u00e9\n\u20ac\r\n", []cursor.Line{{0, 2, 3}, {3, 6, 8}}},
		{"other signs that end lines elsewhere", "a\v\f\u0085\u2028b", []cursor.Line{{0, 9, 9}}},
	} {
		if got := cursor.Lines(x.s); !slices.Equal(got, x.want) {
			t.Errorf("%s: Lines(%q) = %v, want %v", x.name, x.s, got, x.want)
		}
	}
}

func TestLinesOfAllShortTexts(t *testing.T) {
	texts(4, func(s string) {
		if got, want := cursor.Lines(s), plainLines(s); !slices.Equal(got, want) {
			t.Fatalf("Lines(%q) = %v, want %v", s, got, want)
		}
	})
}

// P1.2

func TestWhere(t *testing.T) {
	for _, x := range []struct {
		s             string
		at, line, col int
	}{
		{"", 0, 1, 1},
		{"ab", 0, 1, 1},
		{"ab", 2, 1, 3},
		{"ab\r\nc", 2, 1, 3}, // the carriage return
		{"ab\r\nc", 3, 1, 4}, // the line feed is of the line that it ends
		{"ab\r\nc", 4, 2, 1},
		{"ab\r\nc", 5, 2, 2},
		{"\n", 0, 1, 1},
		{"\n", 1, 2, 1}, // the end, behind a line feed, where Lines has no line
		{"a\n\nb\n", 2, 2, 1},
		{"a\n\nb\n", 5, 4, 1},
		{"a\rb", 2, 1, 3},
		{"\u00e9\u20acx", 1, 1, 2}, // within a sign
		{"\u00e9\u20acx", 5, 1, 6}, // bytes are counted, not signs
		{"\xff\xc3\n\x80x", 3, 2, 1},
		{"\xff\xc3\n\x80x", 4, 2, 2},
	} {
		if line, col, e := cursor.Where(x.s, x.at); line != x.line || col != x.col || e != api.OK {
			t.Errorf("Where(%q, %d) = %d, %d, %d, want %d, %d, 0", x.s, x.at, line, col, e, x.line, x.col)
		}
	}
}

func TestWhereOfNoPlace(t *testing.T) {
	for _, s := range []string{"", "a", "\n", "ab\r\nc", "a\n\n", "\xff\n"} {
		for _, at := range []int{-1, -2, math.MinInt, math.MinInt + 1, len(s) + 1, len(s) + 2, 1 << 40, math.MaxInt} {
			if line, col, e := cursor.Where(s, at); line != 0 || col != 0 || e != api.ErrPlace {
				t.Errorf("Where(%q, %d) = %d, %d, %d, want 0, 0, %d", s, at, line, col, e, api.ErrPlace)
			}
		}
	}
}

func TestPlace(t *testing.T) {
	for _, x := range []struct {
		s             string
		line, col, at int
	}{
		{"", 1, 1, 0},
		{"a", 1, 2, 1},
		{"ab\r\nc", 1, 1, 0},
		{"ab\r\nc", 1, 3, 2},
		{"ab\r\nc", 1, 4, 3},
		{"ab\r\nc", 2, 1, 4},
		{"ab\r\nc", 2, 2, 5},
		{"\n", 2, 1, 1},
		{"a\n\nb\n", 2, 1, 2},
		{"a\n\nb\n", 4, 1, 5},
		{"\u00e9\n\xff", 2, 2, 4},
	} {
		if at, e := cursor.Place(x.s, x.line, x.col); at != x.at || e != api.OK {
			t.Errorf("Place(%q, %d, %d) = %d, %d, want %d, 0", x.s, x.line, x.col, at, e, x.at)
		}
	}
}

func TestPlaceThatThereIsNot(t *testing.T) {
	const least, most = math.MinInt, math.MaxInt
	for _, x := range []struct {
		s         string
		line, col int
	}{
		{"", 1, 2}, {"", 2, 1}, {"", 0, 1}, {"", 1, 0}, {"", 0, 0},
		{"a", 1, 3}, {"a", 2, 1}, {"a", 1, -1}, {"a", -1, 1},
		{"\n", 1, 2}, {"\n", 2, 2}, {"\n", 3, 1},
		{"ab\r\nc", 1, 5}, {"ab\r\nc", 2, 3}, {"ab\r\nc", 3, 1}, {"ab\r\nc", 2, 0}, {"ab\r\nc", 2, -3},
		{"a\nb", 1, most}, {"a\nb", 2, most}, {"a\nb", 2, most - 1}, {"a\nb", 2, least}, {"a\nb", 1, least + 1},
		{"a\nb", most, 1}, {"a\nb", least, 1}, {"a\nb", least, least}, {"a\nb", most, most},
	} {
		if at, e := cursor.Place(x.s, x.line, x.col); at != 0 || e != api.ErrPlace {
			t.Errorf("Place(%q, %d, %d) = %d, %d, want 0, %d", x.s, x.line, x.col, at, e, api.ErrPlace)
		}
	}
}

func TestPlacesOfAllShortTexts(t *testing.T) {
	texts(3, func(s string) {
		for at := range len(s) + 1 {
			line, col, e := cursor.Where(s, at)
			if l, c := plainWhere(s, at); line != l || col != c || e != api.OK {
				t.Fatalf("Where(%q, %d) = %d, %d, %d, want %d, %d, 0", s, at, line, col, e, l, c)
			}
		}
	})
}

// P1.3

func TestBlank(t *testing.T) {
	for _, x := range []struct {
		name, s string
		want    []bool
	}{
		{"an empty line", "\n", []bool{true}},
		{"blanks alone", " \t \n\t\n ", []bool{true, true, true}},
		{"blanks ahead of the end of a line", " \r\n\t\n", []bool{true, true}},
		{"a carriage return that ends no line is no blank", " \r\r\n \r", []bool{false, false}},
		{"one byte among blanks", " \tx\n x \nx\t", []bool{false, false, false}},
		{"other white signs are no blanks", "\v\n\f\n\u0085\n\u00a0\n\u2003", []bool{false, false, false, false, false}},
		{"bytes that are no signs", " \xff\n\x80 \n\x00\n\xa0", []bool{false, false, false, false}},
		{"a line is blank, whatever its neighbours are", "x\n\ny", []bool{false, true, false}},
	} {
		var got []bool
		for _, l := range cursor.Lines(x.s) {
			got = append(got, cursor.Blank(x.s, l))
		}
		if !slices.Equal(got, x.want) {
			t.Errorf("%s: %q: %v, want %v", x.name, x.s, got, x.want)
		}
	}
}

func TestBlankOfNoLineEnds(t *testing.T) {
	edges := []int{math.MinInt, -1, 0, 1, 2, 3, 4, math.MaxInt}
	for _, s := range []string{"", " ", " \t\n"} {
		for _, from := range edges {
			for _, to := range edges {
				for _, next := range edges {
					cursor.Blank(s, cursor.Line{From: from, To: to, Next: next})
				}
			}
		}
	}
}

func TestRows(t *testing.T) {
	for _, x := range []struct {
		name, s string
		want    []cursor.Line
	}{
		{"the empty text", "", nil},
		{"lines of blanks alone", " \n\t\r\n\n  ", nil},
		{"no blank line", "a\nb", []cursor.Line{{0, 1, 2}, {2, 3, 3}}},
		{"blank lines ahead, between and behind", "\n \na\n\t\r\n\nb \n ", []cursor.Line{{3, 4, 5}, {9, 11, 12}}},
		{"a last line without a line feed", " \n x", []cursor.Line{{2, 4, 4}}},
		{"a carriage return that ends no line", "\r\n\r", []cursor.Line{{2, 3, 3}}},
		{"bytes that are no signs", "\xff\n \n\x80\r\n", []cursor.Line{{0, 1, 2}, {4, 5, 7}}},
	} {
		if got := cursor.Rows(x.s); !slices.Equal(got, x.want) {
			t.Errorf("%s: Rows(%q) = %v, want %v", x.name, x.s, got, x.want)
		}
	}
}

func TestBlanksAndRowsOfAllShortTexts(t *testing.T) {
	texts(4, func(s string) {
		var want []cursor.Line
		for _, l := range plainLines(s) {
			blank := strings.Trim(s[l.From:l.To], " \t") == ""
			if cursor.Blank(s, l) != blank {
				t.Fatalf("Blank(%q, %v) is not %v", s, l, blank)
			}
			if !blank {
				want = append(want, l)
			}
		}
		if got := cursor.Rows(s); !slices.Equal(got, want) {
			t.Fatalf("Rows(%q) = %v, want %v", s, got, want)
		}
	})
}

// P1.4

func TestEachLineBeginsWhereTheOneAheadEnds(t *testing.T) {
	texts(4, func(s string) {
		next := 0
		for _, l := range cursor.Lines(s) {
			if l.From != next || l.To < l.From || l.Next <= l.From || l.Next < l.To {
				t.Fatalf("Lines(%q): %v does not begin at %d", s, l, next)
			}
			next = l.Next
		}
		if next != len(s) {
			t.Fatalf("Lines(%q) end at %d", s, next)
		}
	})
}

func TestAPlaceHasOneLineAndColumn(t *testing.T) {
	type spot struct{ line, col int }
	texts(3, func(s string) {
		places := map[spot]int{}
		for at := range len(s) + 1 {
			line, col, _ := cursor.Where(s, at)
			places[spot{line, col}] = at
		}
		if len(places) != len(s)+1 {
			t.Fatalf("%q: %d lines and columns for %d places", s, len(places), len(s)+1)
		}
		for line := -1; line <= len(s)+3; line++ {
			for col := -1; col <= len(s)+3; col++ {
				want, there := places[spot{line, col}]
				at, e := cursor.Place(s, line, col)
				if at != want || there != (e == api.OK) || !there && e != api.ErrPlace {
					t.Fatalf("Place(%q, %d, %d) = %d, %d, want %d, %v", s, line, col, at, e, want, there)
				}
			}
		}
	})
}

// R4: writing over an answer changes nothing that is answered later.
func TestAnswersAreNewMemory(t *testing.T) {
	const s = "a\n\nb\n"
	for _, call := range []func(string) []cursor.Line{cursor.Lines, cursor.Rows} {
		first := call(s)
		want := slices.Clone(first)
		clear(first)
		if got := call(s); !slices.Equal(got, want) {
			t.Errorf("after writing over an answer: %v, want %v", got, want)
		}
	}
}

// A text far longer than those above.
func TestLongTexts(t *testing.T) {
	const count = 100000
	s := strings.Repeat("ab\r\n", count)
	if l := cursor.Lines(s); len(l) != count || l[count-1] != (cursor.Line{From: 4*count - 4, To: 4*count - 2, Next: 4 * count}) {
		t.Error("lines of a long text")
	}
	if line, col, e := cursor.Where(s, len(s)); line != count+1 || col != 1 || e != api.OK {
		t.Error(line, col, e)
	}
	if at, e := cursor.Place(s, count, 4); at != len(s)-1 || e != api.OK {
		t.Error(at, e)
	}
}
