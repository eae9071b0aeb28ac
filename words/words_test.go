package words_test

import (
	"math"
	"regexp"
	"slices"
	"strings"
	"testing"
	"unicode/utf8"

	"entrepot/api"
	"entrepot/words"
)

// pieces make up the texts on which all promises are tried: letters, a digit, a mark of keys, blanks,
// colons, ends of lines, other white signs, which are no blanks, a sign of two bytes and its first
// byte alone, a byte that begins no sign, and signs whose last byte is that of a colon, or of a
// blank, with a bit more.
var pieces = []string{"a", "B", "7", "_", " ", "\t", ":", "\n", "\r", "\v", "\u0085", "\u00a0", "\u00e9", "\xc3", "\xff", "\u2003", "\xba"}

// texts goes through all texts of as many of l's pieces as longest, or fewer.
func texts(l []string, longest int, use func(s string)) {
	var grow func(s string, left int)
	grow = func(s string, left int) {
		use(s)
		if left == 0 {
			return
		}
		for _, p := range l {
			grow(s+p, left-1)
		}
	}
	grow("", longest)
}

// parts goes through texts, and all parts of each, and pairs of numbers beside its places.
func parts(use func(s string, from, to int)) {
	each := func(s string) {
		for from := -2; from <= len(s)+2; from++ {
			for to := -2; to <= len(s)+2; to++ {
				use(s, from, to)
			}
		}
	}
	texts(pieces, 3, each)
	texts([]string{"A", " ", "\t", ":"}, 6, each)
}

// strange goes through numbers that are places of no text, or of few.
var strange = []int{math.MinInt, math.MinInt + 1, -1 << 32, -2, -1, 0, 1, 2, 3, 4, 5, 1 << 32, math.MaxInt - 1, math.MaxInt}

func isPart(s string, from, to int) bool {
	return 0 <= from && from <= len(s) && 0 <= to && to <= len(s) && from <= to
}

func isBlank(b byte) bool {
	return b == 32 || b == 9
}

// plainFields tells words as P3.1 has them: places at which a run begins, and those at which it ends.
func plainFields(s string, from, to int) []words.Word {
	if !isPart(s, from, to) {
		return nil
	}
	var l []words.Word
	for at := from; at < to; at++ {
		if !isBlank(s[at]) && (at == from || isBlank(s[at-1])) {
			l = append(l, words.Word{From: at})
		}
		if !isBlank(s[at]) && (at+1 == to || isBlank(s[at+1])) {
			l[len(l)-1].To = at + 1
		}
	}
	return l
}

var keyForm = regexp.MustCompile(`\A[A-Z0-9_]{1,40}\z`)

// plainKey tells a key and its value as P3.2 has them.
func plainKey(s string, from, to int) (string, words.Word, bool) {
	if !isPart(s, from, to) {
		return "", words.Word{}, false
	}
	ahead, behind, _ := strings.Cut(s[from:to], ":")
	key := strings.Trim(ahead, " \t")
	if !keyForm.MatchString(key) {
		return "", words.Word{}, false
	}
	value := strings.TrimLeft(behind, " \t")
	w := words.Word{From: to - len(value), To: to}
	for value != "" && isBlank(s[w.To-1]) {
		w.To--
	}
	return key, w, true
}

// P3.1

func TestFields(t *testing.T) {
	for _, x := range []struct {
		name, s  string
		from, to int
		want     []words.Word
	}{
		{"words of one line", "ab  c", 0, 5, []words.Word{{0, 2}, {4, 5}}},
		{"one word", "abc", 0, 3, []words.Word{{0, 3}}},
		{"the empty text", "", 0, 0, nil},
		{"blanks alone", " \t  ", 0, 4, nil},
		{"blanks ahead and behind", "  a\t", 0, 4, []words.Word{{2, 3}}},
		{"tabs among spaces", "a \t b\tc", 0, 7, []words.Word{{0, 1}, {4, 5}, {6, 7}}},
		{"from and to alike, at the beginning", "ab", 0, 0, nil},
		{"from and to alike, within a word", "ab", 1, 1, nil},
		{"from and to alike, at the end", "ab", 2, 2, nil},
		{"a part that cuts a word at both its ends", "abcd", 1, 3, []words.Word{{1, 3}}},
		{"a part that cuts its first word and its last one", "abc d efg", 2, 7, []words.Word{{2, 3}, {4, 5}, {6, 7}}},
		{"a part that begins and ends at blanks", "a b c", 1, 4, []words.Word{{2, 3}}},
		{"a part that ends right behind a word", "a b c", 0, 3, []words.Word{{0, 1}, {2, 3}}},
		{"a part of blanks alone", "a  b", 1, 3, nil},
		{"ends of lines are no blanks", "a\nb\r \n", 0, 6, []words.Word{{0, 4}, {5, 6}}},
		{"other white signs are no blanks", "a\v\f\u0085\u00a0\u2003b", 0, 11, []words.Word{{0, 11}}},
		{"the bytes beside the blanks", "\x08\x0a\x1f\x21 \x00", 0, 6, []words.Word{{0, 4}, {5, 6}}},
		{"signs of more bytes", "\u00e9 \u20ac\t\U0001f600", 0, 11, []words.Word{{0, 2}, {3, 6}, {7, 11}}},
		{"a part that cuts signs", "\u20ac \u20ac", 1, 5, []words.Word{{1, 3}, {4, 5}}},
		{"bytes that are no signs", "\xff \xc3\t\x80", 0, 5, []words.Word{{0, 1}, {2, 3}, {4, 5}}},
		{"the beginning of a longer sign ahead of a blank", "\xe2\x82 \xf0\x9f\t", 0, 6, []words.Word{{0, 2}, {3, 5}}},
		{"from below 0", "ab", -1, 2, nil},
		{"to beyond the text", "ab", 0, 3, nil},
		{"from and to beyond the text", "ab", 3, 3, nil},
		{"from above to", "ab", 2, 1, nil},
		{"from and to below 0", "ab", -1, -1, nil},
	} {
		if got := words.Fields(x.s, x.from, x.to); !slices.Equal(got, x.want) {
			t.Errorf("%s: Fields(%q, %d, %d) = %v, want %v", x.name, x.s, x.from, x.to, got, x.want)
		}
	}
}

func TestFieldsOfAllParts(t *testing.T) {
	parts(func(s string, from, to int) {
		if got, want := words.Fields(s, from, to), plainFields(s, from, to); !slices.Equal(got, want) {
			t.Fatalf("Fields(%q, %d, %d) = %v, want %v", s, from, to, got, want)
		}
	})
}

func TestFieldsAmongAllBytes(t *testing.T) {
	for b := range 256 {
		for _, ahead := range []string{"", " ", "x"} {
			for _, behind := range []string{"", "\t", "x"} {
				s := ahead + string([]byte{byte(b)}) + behind
				if got, want := words.Fields(s, 0, len(s)), plainFields(s, 0, len(s)); !slices.Equal(got, want) {
					t.Errorf("Fields(%q) = %v, want %v", s, got, want)
				}
			}
		}
	}
}

func TestText(t *testing.T) {
	for _, x := range []struct {
		name, s string
		w       words.Word
		want    string
	}{
		{"a word", "x ab c", words.Word{2, 4}, "ab"},
		{"all of the text", "x ab c", words.Word{0, 6}, "x ab c"},
		{"blanks are told too", "x ab c", words.Word{1, 5}, " ab "},
		{"nothing, within", "ab", words.Word{1, 1}, ""},
		{"nothing, at the end", "ab", words.Word{2, 2}, ""},
		{"the empty text", "", words.Word{0, 0}, ""},
		{"up to the end", "ab", words.Word{1, 2}, "b"},
		{"a part of a sign", "\u20ac", words.Word{1, 2}, "\x82"},
		{"bytes that are no signs", "a\xff\x00b", words.Word{1, 3}, "\xff\x00"},
		{"From below 0", "ab", words.Word{-1, 1}, ""},
		{"To beyond the text", "ab", words.Word{1, 3}, ""},
		{"From and To beyond the text", "ab", words.Word{3, 3}, ""},
		{"To below 0", "ab", words.Word{0, -1}, ""},
		{"From above To", "ab", words.Word{2, 1}, ""},
		{"a place of the empty text that is none", "", words.Word{0, 1}, ""},
	} {
		if got := words.Text(x.s, x.w); got != x.want {
			t.Errorf("%s: Text(%q, %v) = %q, want %q", x.name, x.s, x.w, got, x.want)
		}
	}
	parts(func(s string, from, to int) {
		want := ""
		if isPart(s, from, to) {
			want = s[from:to]
		}
		if got := words.Text(s, words.Word{From: from, To: to}); got != want {
			t.Fatalf("Text(%q, %d, %d) = %q, want %q", s, from, to, got, want)
		}
	})
}

// P3.2

func TestKey(t *testing.T) {
	forty := strings.Repeat("K", 38) + "_9"
	for _, x := range []struct {
		name, s  string
		from, to int
		key      string
		value    words.Word
	}{
		{"the document's example", "NAME : a b ", 0, 11, "NAME", words.Word{7, 10}},
		{"no blanks", "NAME:x", 0, 6, "NAME", words.Word{5, 6}},
		{"tabs and spaces on all sides", "\t A \t:\t b \t", 0, 11, "A", words.Word{8, 9}},
		{"blanks within a value", "A : b \t c", 0, 9, "A", words.Word{4, 9}},
		{"no colon", "EOF", 0, 3, "EOF", words.Word{3, 3}},
		{"no colon, and blanks", " EOF\t ", 0, 6, "EOF", words.Word{6, 6}},
		{"nothing behind the colon", "A:", 0, 2, "A", words.Word{2, 2}},
		{"blanks behind the colon", "A : \t", 0, 5, "A", words.Word{5, 5}},
		{"two colons", "A:b:c", 0, 5, "A", words.Word{2, 5}},
		{"two colons in a row", "A::", 0, 3, "A", words.Word{2, 3}},
		{"a blank between two colons", "A: : ", 0, 5, "A", words.Word{3, 4}},
		{"one letter", "Z", 0, 1, "Z", words.Word{1, 1}},
		{"one digit", "0:1", 0, 3, "0", words.Word{2, 3}},
		{"a mark alone", "_ :", 0, 3, "_", words.Word{3, 3}},
		{"the ends of all classes", "AZ09_:", 0, 6, "AZ09_", words.Word{6, 6}},
		{"forty bytes", forty + ":v", 0, 42, forty, words.Word{41, 42}},
		{"forty bytes, and blanks", "  " + forty + "  : v", 0, 47, forty, words.Word{46, 47}},
		{"a key is alike, whatever its value is", "A:\xff\u00e9\n", 0, 6, "A", words.Word{2, 6}},
		{"other white signs in a value are no blanks", "A:\v\u00a0 ", 0, 6, "A", words.Word{2, 5}},
		{"a part", "xNAME:5y", 1, 7, "NAME", words.Word{6, 7}},
		{"a part that ends at the colon", "xNAME:5y", 1, 5, "NAME", words.Word{5, 5}},
		{"a part that ends behind the colon", "xNAME:5y", 1, 6, "NAME", words.Word{6, 6}},
		{"a part that cuts the key", "NAME:5", 2, 6, "ME", words.Word{5, 6}},
		{"a part ahead of the colon", "NAME:5", 0, 2, "NA", words.Word{2, 2}},
		{"a part behind a colon", "a:B:5", 2, 5, "B", words.Word{4, 5}},
		{"a part that cuts a value's blanks", "A: b  c", 0, 5, "A", words.Word{3, 4}},
	} {
		if key, value, is := words.Key(x.s, x.from, x.to); key != x.key || value != x.value || !is {
			t.Errorf("%s: Key(%q, %d, %d) = %q, %v, %v, want %q, %v", x.name, x.s, x.from, x.to, key, value, is, x.key, x.value)
		}
	}
}

func TestKeyThatIsNone(t *testing.T) {
	for _, x := range []struct {
		name, s  string
		from, to int
	}{
		{"the empty text", "", 0, 0},
		{"from and to alike", "AB", 1, 1},
		{"from and to alike, at the end", "AB", 2, 2},
		{"blanks alone", " \t ", 0, 3},
		{"the empty key", ":x", 0, 2},
		{"a key of blanks alone", " \t: x", 0, 5},
		{"a colon alone", ":", 0, 1},
		{"small letters", "name : x", 0, 8},
		{"one small letter", "NaME : x", 0, 8},
		{"a blank within", "A B : c", 0, 7},
		{"a tab within", "A\tB : c", 0, 7},
		{"forty-one bytes", strings.Repeat("K", 41) + ":", 0, 42},
		{"forty-one bytes without a colon", strings.Repeat("K", 41), 0, 41},
		{"a minus", "A-B:c", 0, 5},
		{"a point", "A.B:c", 0, 5},
		{"a byte ahead", "@A:c", 0, 4},
		{"a byte behind", "A[:c", 0, 4},
		{"an end of a line", "A\n:c", 0, 4},
		{"a carriage return", "A\r", 0, 2},
		{"a byte of 0", "A\x00:c", 0, 4},
		{"a letter of two bytes", "\u00c9:c", 0, 4},
		{"a wide letter", "\uff21:c", 0, 5},
		{"an Arabic digit", "\u0663:c", 0, 4},
		{"a white sign that is no blank", "\u00a0A:c", 0, 5},
		{"a byte that is no sign", "A\xff:c", 0, 4},
		{"a byte that ends a sign", "\x80A:c", 0, 4},
		{"a wide colon parts nothing", "A\uff1ac", 0, 5},
		{"from below 0", "A:c", -1, 3},
		{"to beyond the text", "A:c", 0, 4},
		{"from and to beyond the text", "A:c", 4, 4},
		{"from above to", "A:c", 1, 0},
		{"from and to below 0", "A:c", -2, -1},
	} {
		if key, value, is := words.Key(x.s, x.from, x.to); key != "" || value != (words.Word{}) || is {
			t.Errorf("%s: Key(%q, %d, %d) = %q, %v, %v, want none", x.name, x.s, x.from, x.to, key, value, is)
		}
	}
}

// key holds what Key tells of a part of s against the plain way.
func key(t *testing.T, s string, from, to int) {
	key, value, is := words.Key(s, from, to)
	if k, v, there := plainKey(s, from, to); key != k || value != v || is != there {
		t.Fatalf("Key(%q, %d, %d) = %q, %v, %v, want %q, %v, %v", s, from, to, key, value, is, k, v, there)
	}
}

func TestKeysOfAllParts(t *testing.T) {
	parts(func(s string, from, to int) { key(t, s, from, to) })
}

func TestKeysAmongAllBytes(t *testing.T) {
	for b := range 256 {
		for _, ahead := range []string{"", " ", "K"} {
			for _, behind := range []string{"", "\t", "K", ":", " :v"} {
				s := ahead + string([]byte{byte(b)}) + behind
				key(t, s, 0, len(s))
			}
		}
	}
}

func TestKeysOfAllLengths(t *testing.T) {
	for n := range 90 {
		for _, ahead := range []string{"", "\t \t", strings.Repeat(" ", 50)} {
			for _, behind := range []string{"", " ", " : v", ":" + strings.Repeat("V", 50)} {
				s := ahead + strings.Repeat("K", n) + behind
				key(t, s, 0, len(s))
			}
		}
		// Bytes are counted, but no sign of more bytes may be in a key.
		s := strings.Repeat("\u00c9", n)
		key(t, s, 0, len(s))
	}
}

// P3.3

func TestUpper(t *testing.T) {
	for _, x := range []struct{ name, s, want string }{
		{"the empty text", "", ""},
		{"small letters", "abcxyz", "ABCXYZ"},
		{"capitals", "AZ", "AZ"},
		{"the bytes beside the letters", "`az{@AZ[", "`AZ{@AZ["},
		{"digits and marks", "0-9 a_b.c\t", "0-9 A_B.C\t"},
		{"signs of more bytes", "\u00e9a\u0131\u017fz\u03c3", "\u00e9A\u0131\u017fZ\u03c3"},
		{"bytes that are no signs", "a\xffb\xc3c\xe2\x82d\x80\x00", "A\xffB\xc3C\xe2\x82D\x80\x00"},
		{"the sign that stands for what is none", "a\ufffdb", "A\ufffdB"},
	} {
		if got := words.Upper(x.s); got != x.want {
			t.Errorf("%s: Upper(%q) = %q, want %q", x.name, x.s, got, x.want)
		}
	}
}

func TestName(t *testing.T) {
	for _, x := range []struct {
		name, s string
		want    bool
	}{
		{"letters, digits and marks", "a.B_9-", true},
		{"the ends of all classes", "azAZ09._-", true},
		{"one letter", "x", true},
		{"one mark", ".", true},
		{"marks alone", "-_-..", true},
		{"a digit ahead", "9a", true},
		{"forty bytes", strings.Repeat("n", 39) + "-", true},
		{"forty-one bytes", strings.Repeat("n", 41), false},
		{"the empty name", "", false},
		{"a blank", " ", false},
		{"a blank within", "a b", false},
		{"a blank ahead", " a", false},
		{"a blank behind", "a ", false},
		{"a tab", "a\tb", false},
		{"an end of a line", "a\n", false},
		{"a colon", "a:b", false},
		{"a slash", "a/b", false},
		{"a byte of 0", "a\x00", false},
		{"a letter of two bytes", "\u00e9", false},
		{"a letter of two bytes among others", "a\u00e9b", false},
		{"a wide letter", "\uff41", false},
		{"an Arabic digit", "\u0663", false},
		{"a byte that is no sign", "a\xff", false},
		{"a byte that begins a sign", "a\xc3", false},
		{"twenty letters of two bytes", strings.Repeat("\u00e9", 20), false},
	} {
		if got := words.Name(x.s); got != x.want {
			t.Errorf("%s: Name(%q) = %v, want %v", x.name, x.s, got, x.want)
		}
	}
}

func TestPlain(t *testing.T) {
	for _, x := range []struct {
		name, s string
		want    bool
	}{
		{"the empty text", "", true},
		{"signs that print", "a Z:9", true},
		{"byte 32", " ", true},
		{"byte 126", "~", true},
		{"both within", "a ~b", true},
		{"byte 31", "\x1f", false},
		{"byte 31 within", "a\x1fb", false},
		{"byte 127", "\x7f", false},
		{"byte 127 behind", "a\x7f", false},
		{"a tab", "a\tb", false},
		{"an end of a line", "a\n", false},
		{"a byte of 0", "\x00", false},
		{"byte 128", "\x80", false},
		{"byte 160", "\xa0", false},
		{"byte 255 ahead", "\xffa", false},
		{"a sign of two bytes", "\u00e9", false},
		{"far more than a name's bytes", strings.Repeat("a ~", 700), true},
		{"far more, and the last one is none", strings.Repeat("a ~", 700) + "\x7f", false},
	} {
		if got := words.Plain(x.s); got != x.want {
			t.Errorf("%s: Plain(%q) = %v, want %v", x.name, x.s, got, x.want)
		}
	}
}

var (
	nameForm  = regexp.MustCompile(`\A[A-Za-z0-9._-]{1,40}\z`)
	smallForm = regexp.MustCompile(`[a-z]`)
)

// plainPlain and plainUpper go byte by byte, as P3.3 words them.
func plainPlain(s string) bool {
	for _, b := range []byte(s) {
		if b < 32 || b > 126 {
			return false
		}
	}
	return true
}

func plainUpper(s string) string {
	const small, capitals = "abcdefghijklmnopqrstuvwxyz", "ABCDEFGHIJKLMNOPQRSTUVWXYZ"
	b := []byte(s)
	for i, sign := range b {
		if k := strings.IndexByte(small, sign); k >= 0 {
			b[i] = capitals[k]
		}
	}
	return string(b)
}

// classes holds what Name, Plain and Upper tell of s against the plain ways.
func classes(t *testing.T, s string) {
	if got, want := words.Name(s), nameForm.MatchString(s); got != want {
		t.Fatalf("Name(%q) = %v, want %v", s, got, want)
	}
	if got, want := words.Plain(s), plainPlain(s); got != want {
		t.Fatalf("Plain(%q) = %v, want %v", s, got, want)
	}
	if got, want := words.Upper(s), plainUpper(s); got != want {
		t.Fatalf("Upper(%q) = %q, want %q", s, got, want)
	}
}

func TestClassesOfAllShortTexts(t *testing.T) {
	texts(pieces, 4, func(s string) { classes(t, s) })
}

func TestClassesOfAllBytes(t *testing.T) {
	for a := range 256 {
		classes(t, string([]byte{byte(a)}))
		for b := range 256 {
			classes(t, string([]byte{byte(a), byte(b)}))
			classes(t, string([]byte{'x', byte(a), 'y', byte(b), 'z'}))
		}
	}
}

// No sign of more bytes is of any class, whatever its letters are elsewhere.
func TestClassesOfAllSigns(t *testing.T) {
	for sign := rune(128); sign <= utf8.MaxRune; sign++ {
		s := string(sign)
		if words.Name(s) || words.Plain(s) || words.Upper(s) != s || len(words.Fields(s, 0, len(s))) != 1 {
			t.Fatalf("%q is of a class", s)
		}
		if _, _, is := words.Key(s, 0, len(s)); is {
			t.Fatalf("%q is a key", s)
		}
	}
}

func TestNamesOfAllLengths(t *testing.T) {
	for n := range 90 {
		classes(t, strings.Repeat("n", n))
		classes(t, strings.Repeat("-", n)+"\x1f")
		classes(t, strings.Repeat("\u00e9", n))
	}
}

func TestUpperOfUpper(t *testing.T) {
	texts(pieces, 3, func(s string) {
		up := words.Upper(s)
		if words.Upper(up) != up || len(up) != len(s) || smallForm.MatchString(up) {
			t.Fatalf("Upper(%q) = %q", s, up)
		}
	})
}

// P3.4

// again holds whether the words of l, put together with gap between each two, are told again.
func again(t *testing.T, l []string, ahead, gap, behind string) {
	s := ahead + strings.Join(l, gap) + behind
	var got []string
	for _, w := range words.Fields(s, 0, len(s)) {
		got = append(got, words.Text(s, w))
	}
	if !slices.Equal(got, l) {
		t.Fatalf("the words of %q are %q, want %q", s, got, l)
	}
}

var gaps = []string{" ", "\t", "  ", " \t ", "\t\t"}

func TestWordsPutTogetherAreTheSameAgain(t *testing.T) {
	texts(pieces, 4, func(s string) {
		var l []string
		for _, w := range words.Fields(s, 0, len(s)) {
			l = append(l, words.Text(s, w))
		}
		for _, gap := range gaps {
			again(t, l, "", gap, "")
		}
		again(t, l, " ", "\t", " ")
	})
}

func TestManyWordsPutTogetherAreTheSameAgain(t *testing.T) {
	some := []string{"a", "NAME", ":", "-12.50", "#1:", "\xff", "\u20ac", "\xe2\x82", "\n", "\r", "\u00a0", strings.Repeat("w", 100)}
	for _, a := range some {
		for _, b := range some {
			for _, c := range some {
				for _, gap := range gaps {
					again(t, []string{a, b, c}, "", gap, "")
					again(t, []string{a, b, c}, gap, gap, gap)
				}
			}
		}
	}
}

// A key and its value, put together with a colon between, are the same again.
func TestKeysPutTogetherAreTheSameAgain(t *testing.T) {
	parts(func(s string, from, to int) {
		key, w, is := words.Key(s, from, to)
		if !is {
			return
		}
		value := words.Text(s, w)
		line := key + " : " + value
		k, v, there := words.Key(line, 0, len(line))
		if k != key || words.Text(line, v) != value || !there {
			t.Fatalf("Key(%q) = %q, %q, %v, want %q, %q", line, k, words.Text(line, v), there, key, value)
		}
	})
}

// R1: every call ends, and none panics; P3.1 and P3.2 say of what there is nothing.
func TestStrangePlaces(t *testing.T) {
	for _, s := range []string{"", "A", "A : ", "AB\xff", "\u20ac"} {
		for _, from := range strange {
			for _, to := range strange {
				if got, want := words.Fields(s, from, to), plainFields(s, from, to); !slices.Equal(got, want) {
					t.Errorf("Fields(%q, %d, %d) = %v, want %v", s, from, to, got, want)
				}
				if text := words.Text(s, words.Word{From: from, To: to}); !isPart(s, from, to) && text != "" {
					t.Errorf("Text(%q, %d, %d) = %q, want none", s, from, to, text)
				}
				key(t, s, from, to)
			}
		}
	}
}

// R4: writing over an answer changes nothing that is answered later.
func TestAnswersAreNewMemory(t *testing.T) {
	const s = "a bc\td"
	first := words.Fields(s, 0, len(s))
	want := slices.Clone(first)
	clear(first)
	if got := words.Fields(s, 0, len(s)); !slices.Equal(got, want) {
		t.Errorf("after writing over an answer: %v, want %v", got, want)
	}
}

// Texts far longer than those above.
func TestLongTexts(t *testing.T) {
	const count = 100000
	s := strings.Repeat("ab \t", count)
	if l := words.Fields(s, 0, len(s)); len(l) != count || l[count-1] != (words.Word{From: 4*count - 4, To: 4*count - 2}) {
		t.Error("words of a long text")
	}
	if l := words.Fields(s, 4*count-3, 4*count-1); len(l) != 1 || l[0] != (words.Word{From: 4*count - 3, To: 4*count - 2}) {
		t.Error("words of a part of a long text", l)
	}
	line := "A" + strings.Repeat(" ", count) + ":" + s
	if key, w, is := words.Key(line, 0, len(line)); key != "A" || w != (words.Word{From: count + 2, To: len(line) - 2}) || !is {
		t.Error(len(key), w, is)
	}
	if _, _, is := words.Key(s, 0, len(s)); is {
		t.Error("a long text is a key")
	}
	if up := words.Upper(s); up != strings.ReplaceAll(s, "ab", "AB") {
		t.Error("capitals of a long text")
	}
	if name := strings.Repeat("n", api.MaxName); !words.Name(name) || words.Name(strings.Repeat(name, count)) {
		t.Error("long names")
	}
}
