package head_test

import (
	"fmt"
	"maps"
	"math"
	"math/rand"
	"regexp"
	"slices"
	"strconv"
	"strings"
	"testing"

	"entrepot/api"
	"entrepot/head"
)

const most = 100000000 // the greatest number

// The six keys that are looked at, in the order in which they are printed, and the three that are not.
var (
	keys    = []string{"NAME", "TYPE", "DIMENSION", "CAPACITY", "EDGE_WEIGHT_TYPE", "EDGE_WEIGHT_FORMAT"}
	skipped = []string{"COMMENT", "DISPLAY_DATA_TYPE", "NODE_COORD_TYPE"}
)

var (
	metricWords = []string{"EXPLICIT", "EUC_2D", "CEIL_2D", "MAN_2D", "MAX_2D", "ATT"}
	layoutWords = []string{"FULL_MATRIX", "UPPER_ROW", "LOWER_ROW", "UPPER_DIAG_ROW", "LOWER_DIAG_ROW", "UPPER_COL", "LOWER_COL"}
)

// ends are how lines end, and blanks what stands around keys and values.
var (
	ends   = []string{"\n", "\r\n", "\n\n", " \r\n", "\n \t\n", "\t\n\r\n"}
	blanks = []string{"", "", " ", "\t", "  ", " \t "}
)

// goodNames are names, badNames are none.
var (
	goodNames = []string{
		"t", "a.B_9-", "-", ".", "_", "0", "TSP", "EOF", "NAME", "NODE_COORD_SECTION", "n5", strings.Repeat("x", 39), strings.Repeat("9", 40),
	}
	badNames = []string{
		"", " ", "a b", "a:b", "a/b", "é", "\xff", "a\x00", "a\r", "a\n", " a", "a ", "a\t", "a,b", "a+", "@", "[", "`", "{", "/",
		strings.Repeat("x", 41), strings.Repeat("x", 100), "a" + strings.Repeat(" ", 3) + "b",
	}
)

// kinds, dims, caps, metrics and layouts are numbers at and beside the ends of what the fields may be,
// and far off, some of which come to a near one where bits are lost.
var (
	kinds   = []int{1, 2, 0, 3, 4, 5, -1, -2, 256, 257, 258, 1<<32 + 1, 1<<32 + 2, math.MinInt, math.MinInt + 1, math.MaxInt}
	dims    = []int{1, 2, 399, 400, 0, 401, -1, -400, 402, 256, 65537, 1 << 32, 1<<32 + 1, math.MinInt, math.MinInt + 1, math.MaxInt}
	caps    = []int{0, 1, 2, most - 1, most, -1, -2, most + 1, -most, 1 << 32, 1<<32 + 1, math.MinInt, math.MinInt + 1, math.MaxInt}
	metrics = []int{0, 1, 2, 3, 4, 5, 6, 7, -1, -2, 256, 1 << 32, 1<<32 + 5, math.MinInt, math.MinInt + 1, math.MaxInt}
	layouts = []int{0, 1, 2, 3, 4, 5, 6, 7, 8, -1, -7, 9, 256, 1 << 32, 1<<32 + 7, math.MinInt, math.MinInt + 1, math.MaxInt}
)

var (
	keyForm   = regexp.MustCompile(`\A[A-Z0-9_]{1,40}\z`)
	endForm   = regexp.MustCompile(`\A(EOF|.*_SECTION)\z`)
	nameForm  = regexp.MustCompile(`\A[A-Za-z0-9._-]{1,40}\z`)
	wholeForm = regexp.MustCompile(`\A-?[0-9]{1,12}\z`)
)

// plainRow is a row: its place, its key ("", if it has none), its value, and where that stands.
type plainRow struct {
	from       int
	key, value string
	at         int
}

// plainRows tells the rows of s, by the words of chapters 1 and 3.
func plainRows(s string) []plainRow {
	var rows []plainRow
	at := 0
	for _, part := range strings.SplitAfter(s, "\n") {
		body, ended := strings.CutSuffix(part, "\n")
		if ended {
			body = strings.TrimSuffix(body, "\r")
		}
		key, value, _ := strings.Cut(body, ":")
		r := plainRow{from: at, key: strings.Trim(key, " \t"), value: strings.Trim(value, " \t"), at: at + len(body)}
		if r.value != "" {
			r.at -= len(strings.TrimLeft(value, " \t"))
		}
		if !keyForm.MatchString(r.key) {
			r.key = ""
		}
		if strings.Trim(body, " \t") != "" {
			rows = append(rows, r)
		}
		at += len(part)
	}
	return rows
}

// plainValue puts the value of a key into h, and tells whether it may be, by the words of P14.2.
func plainValue(h *head.Head, key, value string) bool {
	number := -1
	if wholeForm.MatchString(value) {
		number, _ = strconv.Atoi(value)
	}
	switch key {
	case "NAME":
		h.Name = value
		return nameForm.MatchString(value)
	case "TYPE":
		h.Kind = 1 + slices.Index([]string{"TSP", "CVRP"}, value)
		return h.Kind > 0
	case "DIMENSION":
		h.Dim = number
		return 1 <= number && number <= 400
	case "CAPACITY":
		h.Cap = number
		return 1 <= number && number <= most
	case "EDGE_WEIGHT_TYPE":
		h.Metric = slices.Index(metricWords, value)
		return h.Metric >= 0
	}
	h.Layout = 1 + slices.Index(layoutWords, value)
	return h.Layout > 0
}

// plainParse tells what P14.2 says, by its words.
func plainParse(s string) (head.Head, int, api.Diag) {
	var h head.Head
	end, came := len(s), map[string]bool{}
	for _, r := range plainRows(s) {
		if endForm.MatchString(r.key) {
			end = r.from
			break
		}
		switch {
		case r.key == "":
			return head.Head{}, 0, api.Diag{At: r.from, Code: 3}
		case slices.Contains(skipped, r.key):
			continue
		case !slices.Contains(keys, r.key) || came[r.key]:
			return head.Head{}, 0, api.Diag{At: r.from, Code: 140}
		case !plainValue(&h, r.key, r.value):
			return head.Head{}, 0, api.Diag{At: r.at, Code: 141}
		}
		came[r.key] = true
	}
	needed := []string{"NAME", "TYPE", "DIMENSION", "EDGE_WEIGHT_TYPE"}
	if h.Kind == 2 {
		needed = append(needed, "CAPACITY")
	}
	if h.Metric == 0 {
		needed = append(needed, "EDGE_WEIGHT_FORMAT")
	}
	for _, key := range needed {
		if !came[key] {
			return head.Head{}, 0, api.Diag{At: end, Code: 142}
		}
	}
	return h, end, api.Diag{}
}

// plainMay tells what P14.1 says, by its words.
func plainMay(h head.Head) bool {
	capFits := h.Kind == 1 && h.Cap == 0 || h.Kind == 2 && 1 <= h.Cap && h.Cap <= most
	layoutFits := h.Metric == 0 && 1 <= h.Layout && h.Layout <= 7 || 1 <= h.Metric && h.Metric <= 5 && h.Layout == 0
	return nameForm.MatchString(h.Name) && 1 <= h.Dim && h.Dim <= 400 && capFits && layoutFits
}

// plainPrint tells what P14.3 says, by its words.
func plainPrint(h head.Head) string {
	switch {
	case !plainMay(h):
		return ""
	case h.Kind == 1 && h.Metric != 0:
		return fmt.Sprintf("NAME : %s\nTYPE : TSP\nDIMENSION : %d\nEDGE_WEIGHT_TYPE : %s\n", h.Name, h.Dim, metricWords[h.Metric])
	case h.Kind == 1:
		return fmt.Sprintf("NAME : %s\nTYPE : TSP\nDIMENSION : %d\nEDGE_WEIGHT_TYPE : EXPLICIT\nEDGE_WEIGHT_FORMAT : %s\n",
			h.Name, h.Dim, layoutWords[h.Layout-1])
	case h.Metric != 0:
		return fmt.Sprintf("NAME : %s\nTYPE : CVRP\nDIMENSION : %d\nCAPACITY : %d\nEDGE_WEIGHT_TYPE : %s\n",
			h.Name, h.Dim, h.Cap, metricWords[h.Metric])
	}
	return fmt.Sprintf("NAME : %s\nTYPE : CVRP\nDIMENSION : %d\nCAPACITY : %d\nEDGE_WEIGHT_TYPE : EXPLICIT\nEDGE_WEIGHT_FORMAT : %s\n",
		h.Name, h.Dim, h.Cap, layoutWords[h.Layout-1])
}

// short tells a text that may be long.
func short(s string) string {
	if len(s) > 300 {
		return s[:300] + ".."
	}
	return s
}

// parses holds that s has that head, and that end.
func parses(t *testing.T, s string, want head.Head, end int) {
	t.Helper()
	if h, at, d := head.Parse(s); h != want || at != end || d != (api.Diag{}) {
		t.Errorf("Parse(%q) = %+v, %d, %v, want %+v, %d", short(s), h, at, d, want, end)
	}
}

// fails holds that s has that error there; all else is to be zero.
func fails(t *testing.T, s string, at int, code api.Errno) {
	t.Helper()
	if h, end, d := head.Parse(s); h != (head.Head{}) || end != 0 || d != (api.Diag{At: at, Code: code}) {
		t.Errorf("Parse(%q) = %+v, %d, %v, want error %d at %d", short(s), h, end, d, code, at)
	}
}

// holdsParse holds that Parse answers what P14.2 says of s.
func holdsParse(t *testing.T, s string) {
	t.Helper()
	h, at, d := head.Parse(s)
	want, end, diag := plainParse(s)
	if h != want || at != end || d != diag {
		t.Fatalf("Parse(%q) = %+v, %d, %v, want %+v, %d, %v", s, h, at, d, want, end, diag)
	}
}

// holdsMay holds that May and Print answer what P14.1 and P14.3 say of h.
func holdsMay(t *testing.T, h head.Head) {
	t.Helper()
	if may, want := head.May(h), plainMay(h); may != want {
		t.Errorf("May(%+v) = %t, want %t", h, may, want)
	}
	if s, want := head.Print(h), plainPrint(h); s != want {
		t.Errorf("Print(%+v) = %q, want %q", h, s, want)
	}
}

// texts goes through all texts of as many of l's pieces as longest, or fewer.
func texts(l []string, longest int, use func(s string)) {
	use("")
	if longest == 0 {
		return
	}
	for _, p := range l {
		texts(l, longest-1, func(s string) {
			use(p + s)
		})
	}
}

// orders goes through all orders of l.
func orders(l []string, use func(l []string)) {
	if len(l) == 0 {
		use(nil)
	}
	for i := range l {
		rest := slices.Delete(slices.Clone(l), i, i+1)
		orders(rest, func(behind []string) { use(append([]string{l[i]}, behind...)) })
	}
}

// rowsOf are the rows of a head, one for each of the six keys, that are right together.
func rowsOf(kind, metric string) map[string]string {
	return map[string]string{
		"NAME": "NAME : t", "TYPE": "TYPE : " + kind, "DIMENSION": "DIMENSION : 3", "CAPACITY": "CAPACITY : 4",
		"EDGE_WEIGHT_TYPE": "EDGE_WEIGHT_TYPE : " + metric, "EDGE_WEIGHT_FORMAT": "EDGE_WEIGHT_FORMAT : UPPER_ROW",
	}
}

// whole is a head of a tour, without an end; wholeHead is what it says.
const whole = "NAME : t\nTYPE : TSP\nDIMENSION : 3\nEDGE_WEIGHT_TYPE : EUC_2D\n"

var wholeHead = head.Head{Name: "t", Kind: 1, Dim: 3, Metric: 1}

// P14.1

func TestMay(t *testing.T) {
	tour := head.Head{Name: "t", Kind: 1, Dim: 3, Metric: 1}
	cvrp := head.Head{Name: "t", Kind: 2, Dim: 3, Cap: 4, Metric: 1}
	for _, base := range []head.Head{tour, cvrp} {
		for _, x := range []struct {
			name   string
			change func(h *head.Head)
			want   bool
		}{
			{"as it is", func(h *head.Head) {}, true},
			{"no name", func(h *head.Head) { h.Name = "" }, false},
			{"a name of 40 bytes", func(h *head.Head) { h.Name = strings.Repeat("n", 40) }, true},
			{"a name of 41 bytes", func(h *head.Head) { h.Name = strings.Repeat("n", 41) }, false},
			{"two words as name", func(h *head.Head) { h.Name = "a b" }, false},
			{"kind 0", func(h *head.Head) { h.Kind = 0 }, false},
			{"kind 3", func(h *head.Head) { h.Kind = 3 }, false},
			{"kind 4", func(h *head.Head) { h.Kind = 4 }, false},
			{"kind -1", func(h *head.Head) { h.Kind = -1 }, false},
			{"the other kind", func(h *head.Head) { h.Kind = 3 - h.Kind }, false}, // its capacity does not fit
			{"no node", func(h *head.Head) { h.Dim = 0 }, false},
			{"one node", func(h *head.Head) { h.Dim = 1 }, true},
			{"400 nodes", func(h *head.Head) { h.Dim = 400 }, true},
			{"401 nodes", func(h *head.Head) { h.Dim = 401 }, false},
			{"-1 nodes", func(h *head.Head) { h.Dim = -1 }, false},
			{"capacity 0", func(h *head.Head) { h.Cap = 0 }, base.Kind == 1},
			{"capacity 1", func(h *head.Head) { h.Cap = 1 }, base.Kind == 2},
			{"capacity -1", func(h *head.Head) { h.Cap = -1 }, false},
			{"capacity 10^8", func(h *head.Head) { h.Cap = most }, base.Kind == 2},
			{"capacity 10^8 + 1", func(h *head.Head) { h.Cap = most + 1 }, false},
			{"metric 5", func(h *head.Head) { h.Metric = 5 }, true},
			{"metric 6", func(h *head.Head) { h.Metric = 6 }, false},
			{"metric 7", func(h *head.Head) { h.Metric = 7 }, false},
			{"metric -1", func(h *head.Head) { h.Metric = -1 }, false},
			{"a matrix without a layout", func(h *head.Head) { h.Metric = 0 }, false},
			{"a matrix, layout 1", func(h *head.Head) { h.Metric, h.Layout = 0, 1 }, true},
			{"a matrix, layout 7", func(h *head.Head) { h.Metric, h.Layout = 0, 7 }, true},
			{"a matrix, layout 8", func(h *head.Head) { h.Metric, h.Layout = 0, 8 }, false},
			{"a matrix, layout -1", func(h *head.Head) { h.Metric, h.Layout = 0, -1 }, false},
			{"a layout without a matrix", func(h *head.Head) { h.Layout = 1 }, false},
			{"layout -1 without a matrix", func(h *head.Head) { h.Layout = -1 }, false},
			{"a layout, and metric 6", func(h *head.Head) { h.Metric, h.Layout = 6, 1 }, false},
		} {
			h := base
			x.change(&h)
			if got := head.May(h); got != x.want {
				t.Errorf("kind %d, %s: %t, want %t", base.Kind, x.name, got, x.want)
			}
			if s := head.Print(h); (s != "") != x.want {
				t.Errorf("kind %d, %s: printed as %q", base.Kind, x.name, s)
			}
		}
	}
	if head.May(head.Head{}) || head.Print(head.Head{}) != "" {
		t.Error("a head of which nothing is set may be")
	}
}

// All fields at once: each at, beside and far off its ends, with a name that may be, and with none.
func TestMayOfAllFields(t *testing.T) {
	for _, kind := range kinds {
		for _, dim := range dims {
			for _, most := range caps {
				for _, metric := range metrics {
					for _, layout := range layouts {
						holdsMay(t, head.Head{Name: "t", Kind: kind, Dim: dim, Cap: most, Metric: metric, Layout: layout})
						holdsMay(t, head.Head{Name: "a b", Kind: kind, Dim: dim, Cap: most, Metric: metric, Layout: layout})
					}
				}
			}
		}
	}
}

func TestMayOfAllDims(t *testing.T) {
	for dim := -3; dim <= 410; dim++ {
		holdsMay(t, head.Head{Name: "t", Kind: 1, Dim: dim, Metric: 2})
		holdsMay(t, head.Head{Name: "t", Kind: 2, Dim: dim, Cap: 7, Layout: 3})
	}
}

func TestMayOfAllNames(t *testing.T) {
	bases := []head.Head{{Kind: 1, Dim: 3, Metric: 1}, {Kind: 2, Dim: 3, Cap: 4, Layout: 7}}
	for _, h := range bases {
		for _, h.Name = range slices.Concat(goodNames, badNames) {
			holdsMay(t, h)
			if may := head.May(h); may != slices.Contains(goodNames, h.Name) {
				t.Errorf("the name %q: %t", h.Name, may)
			}
		}
		for b := range 256 {
			for _, h.Name = range []string{string([]byte{byte(b)}), "a" + string([]byte{byte(b)}), string([]byte{byte(b)}) + "a"} {
				holdsMay(t, h)
			}
		}
		for n := range 101 {
			h.Name = strings.Repeat("n", n)
			holdsMay(t, h)
		}
	}
}

// P14.2: what is taken

func TestParse(t *testing.T) {
	for _, x := range []struct {
		name, s string
		want    head.Head
	}{
		{"a tour", whole, wholeHead},
		{"without the last end", strings.TrimSuffix(whole, "\n"), wholeHead},
		{"ends of two bytes", strings.ReplaceAll(whole, "\n", "\r\n"), wholeHead},
		{"blank lines", "\n \t\n" + strings.ReplaceAll(whole, "\n", "\n\r\n\t\n"), wholeHead},
		{"no blanks at all", "NAME:t\nTYPE:TSP\nDIMENSION:3\nEDGE_WEIGHT_TYPE:EUC_2D", wholeHead},
		{"many blanks", " \tNAME\t : \tt \t\n  TYPE  :  TSP  \r\n\tDIMENSION\t:\t3\t\n EDGE_WEIGHT_TYPE : EUC_2D ", wholeHead},
		{"another order", "EDGE_WEIGHT_TYPE : ATT\nDIMENSION : 400\nTYPE : TSP\nNAME : a.B_9-\n", head.Head{Name: "a.B_9-", Kind: 1, Dim: 400, Metric: 5}},
		{"capacities", "NAME : c\nTYPE : CVRP\nDIMENSION : 1\nCAPACITY : 100000000\nEDGE_WEIGHT_TYPE : MAX_2D\n", head.Head{Name: "c", Kind: 2, Dim: 1, Cap: most, Metric: 4}},
		{"a matrix", "NAME : m\nTYPE : TSP\nDIMENSION : 2\nEDGE_WEIGHT_TYPE : EXPLICIT\nEDGE_WEIGHT_FORMAT : LOWER_COL\n", head.Head{Name: "m", Kind: 1, Dim: 2, Layout: 7}},
		{"a matrix and capacities", "EDGE_WEIGHT_FORMAT : FULL_MATRIX\nCAPACITY : 1\nNAME : b\nTYPE : CVRP\nDIMENSION : 3\nEDGE_WEIGHT_TYPE : EXPLICIT\n", head.Head{Name: "b", Kind: 2, Dim: 3, Cap: 1, Layout: 1}},
		// These two are no heads that May takes, but they are told all the same.
		{"a capacity of a tour", whole + "CAPACITY : 4\n", head.Head{Name: "t", Kind: 1, Dim: 3, Cap: 4, Metric: 1}},
		{"a layout without a matrix", whole + "EDGE_WEIGHT_FORMAT : UPPER_ROW\n", head.Head{Name: "t", Kind: 1, Dim: 3, Metric: 1, Layout: 2}},
	} {
		parses(t, x.s, x.want, len(x.s))
		if h, at, d := plainParse(x.s); h != x.want || at != len(x.s) || d != (api.Diag{}) {
			t.Errorf("%s: the plain reading is %+v, %d, %v", x.name, h, at, d)
		}
	}
	parses(t, whole, wholeHead, 60)
	parses(t, whole+"\n\r\n EOF", wholeHead, 63)
}

// Each row that ends a head, and what stands behind it, which is not looked at.
func TestEnds(t *testing.T) {
	behinds := []string{
		"", "\n", "\n1 0 0\n2 x y\n", "\nx\n", "\nNAME : t\nNAME : u\n", "\nDIMENSION : 0\nFOO : 1", "\r\n\n \nEOF\n", "\n: x\nCAPACITY :\n", "\nname : t",
	}
	for _, end := range []string{
		"EOF", "EOF:", "EOF :", "EOF : 4", "EOF : x : y", " EOF", "\tEOF \t", "  EOF  :  \xff  ",
		"NODE_COORD_SECTION", "NODE_COORD_SECTION:", "NODE_COORD_SECTION : 4", " \tEDGE_WEIGHT_SECTION \t", "DEMAND_SECTION : EOF", "X_SECTION",
		"_SECTION", "_SECTION : a", "__SECTION", "_SECTION_SECTION", "0_SECTION", "EOF_SECTION", "NAME_SECTION : t", "TOUR_SECTION",
		strings.Repeat("A", 32) + "_SECTION",
	} {
		for _, behind := range behinds {
			parses(t, whole+end+behind, wholeHead, len(whole))
			parses(t, strings.ReplaceAll(whole, "\n", "\r\n")+end+behind, wholeHead, len(whole)+4)
			parses(t, whole+"\n \t\n"+end+behind, wholeHead, len(whole)+4) // From is the row's, behind the blank lines
			fails(t, end+behind, 0, api.ErrLack)
			fails(t, "\n\r\n"+end+behind, 3, api.ErrLack)
			fails(t, "NAME : t\n"+end+behind, 9, api.ErrLack)
			fails(t, "NAME : t\nx\n"+end+behind, 9, api.ErrLine)
			// The first one that ends it does, and no other one.
			parses(t, whole+end+"\nEOF\nX_SECTION\n"+behind, wholeHead, len(whole))
			parses(t, whole+"EOF\n"+end+behind, wholeHead, len(whole))
			parses(t, whole+"Y_SECTION\n"+end+behind, wholeHead, len(whole))
		}
	}
}

// Rows that look like an end, but are none: what they are as rows of the head.
func TestNoEnds(t *testing.T) {
	for row, code := range map[string]api.Errno{
		"EO":                                    api.ErrKey,
		"EOFF":                                  api.ErrKey,
		"XEOF":                                  api.ErrKey,
		"EOF_":                                  api.ErrKey,
		"EOF_EOF":                               api.ErrKey,
		"SECTION":                               api.ErrKey,
		"SECTION_":                              api.ErrKey,
		"NODECOORDSECTION":                      api.ErrKey,
		"NODE_COORD_SECTIO":                     api.ErrKey,
		"NODE_COORD_SECTIONS":                   api.ErrKey,
		"NODE_COORD_SECTION_":                   api.ErrKey,
		"_SECTION_X":                            api.ErrKey,
		"_SECTION1":                             api.ErrKey,
		"NODE_COORD_SECTION_TYPE : X":           api.ErrKey,
		"FOO : EOF":                             api.ErrKey,
		"FOO : X_SECTION":                       api.ErrKey,
		"eof":                                   api.ErrLine,
		"EOF x":                                 api.ErrLine,
		"EOF EOF":                               api.ErrLine,
		"E OF":                                  api.ErrLine,
		"-EOF":                                  api.ErrLine,
		"EOF\r":                                 api.ErrLine,
		": EOF":                                 api.ErrLine,
		":X_SECTION":                            api.ErrLine,
		"node_coord_section":                    api.ErrLine,
		"NODE_COORD_section":                    api.ErrLine,
		"NODE-COORD_SECTION":                    api.ErrLine,
		"NODE COORD_SECTION":                    api.ErrLine,
		"NODE_COORD_SECTION 4":                  api.ErrLine,
		"NODE_COORD_SECTION 4 : 5":              api.ErrLine,
		"NODE_COORD_SECTION\r":                  api.ErrLine,
		"É_SECTION":                             api.ErrLine,
		strings.Repeat("A", 33) + "_SECTION":    api.ErrLine, // 41 bytes are no key
		strings.Repeat("A", 92) + "_SECTION":    api.ErrLine,
		"1 0 0":                                 api.ErrLine,
		"-1":                                    api.ErrLine,
		strings.Repeat("A", 40):                 api.ErrKey,
		strings.Repeat("A", 41):                 api.ErrLine,
		strings.Repeat("_", 40) + " : _SECTION": api.ErrKey,
	} {
		for _, behind := range []string{" ", " \nEOF\n"} { // the blank keeps a byte 13 from being of the line's end
			fails(t, row+behind, 0, code)
			fails(t, whole+row+behind, len(whole), code)
			fails(t, whole+" \t"+row+behind, len(whole), code)
			parses(t, whole+"EOF\n"+row+behind, wholeHead, len(whole))
			parses(t, whole+"A_SECTION\n"+row+behind, wholeHead, len(whole))
		}
	}
	// As a value they end nothing either.
	for _, value := range []string{"EOF", "X_SECTION", "NODE_COORD_SECTION"} {
		for _, key := range skipped {
			s := key + " : " + value + "\n" + whole
			parses(t, s, wholeHead, len(s))
		}
		s := strings.Replace(whole, " t\n", " "+value+"\n", 1)
		parses(t, s, head.Head{Name: value, Kind: 1, Dim: 3, Metric: 1}, len(s))
	}
}

// The head goes up to the first end, wherever it is: of all rows of a whole head, and of a wrong row.
func TestEndAtEachRow(t *testing.T) {
	rows := strings.SplitAfter(whole, "\n")
	for at := range rows {
		ahead, behind := strings.Join(rows[:at], ""), strings.Join(rows[at:], "")
		for _, end := range []string{"EOF\n", "A_SECTION : 5\r\n", "  _SECTION\n"} {
			s := ahead + end + behind
			if at == len(rows)-1 {
				parses(t, s, wholeHead, len(ahead))
			} else {
				fails(t, s, len(ahead), api.ErrLack)
			}
			fails(t, ahead+"x\n"+end+behind, len(ahead), api.ErrLine)
			holdsParse(t, ahead+end+"x\n"+behind)
		}
	}
}

func TestSkippedKeys(t *testing.T) {
	rows := strings.SplitAfter(whole, "\n")
	values := []string{
		"", ":", " :", " : ", " : x", " : a b : c", ":a:b", " : 0", "\t:\té \xff\x00", " : NAME : t", " : EOF", " : TSP", " : X_SECTION",
		" : " + strings.Repeat("x ", 200),
	}
	for _, key := range skipped {
		for _, value := range values {
			for at := range rows {
				ahead, behind := strings.Join(rows[:at], ""), strings.Join(rows[at:], "")
				s := ahead + key + value + "\n" + behind
				parses(t, s, wholeHead, len(s))
				parses(t, s+"EOF", wholeHead, len(s))
				s = key + value + "\n" + s + " " + key + "\r\n\t" + key + value + "\n"
				parses(t, s, wholeHead, len(s))
				parses(t, s+"\nEOF", wholeHead, len(s)+1)
			}
			fails(t, key+value, len(key+value), api.ErrLack)
		}
		// They are not looked at, but only as keys: what has none is wrong, and so is what is none of them.
		for _, wrong := range []string{key + " x", strings.ToLower(key), key + " x : y", "x" + key} {
			fails(t, whole+wrong, len(whole), api.ErrLine)
		}
		for _, wrong := range []string{key + "S", key + "_", key[:len(key)-1], "X" + key, key[1:]} {
			fails(t, whole+wrong+" : x", len(whole), api.ErrKey)
		}
	}
	s := "COMMENT : a\nDISPLAY_DATA_TYPE : COORD_DISPLAY\nNODE_COORD_TYPE : TWOD_COORDS\nCOMMENT\n"
	parses(t, s+whole+s, wholeHead, 2*len(s)+len(whole))
	fails(t, s, len(s), api.ErrLack)
}

// P14.2: what is wrong

// The first, a middle and the last row, and the only one, has no key.
func TestRowsWithoutKeys(t *testing.T) {
	rows := strings.SplitAfter(whole, "\n")
	for _, wrong := range []string{
		"x", ":", ": x", " : NAME", "name : u", "Name : u", "nAME : u", "NAME u", "NAME u : v", "N AME : u", "NA-ME : u", "NAME. : u", "NÄME : u", "NAME\x00 : u",
		"type : TSP", "Type : TSP", "dimension : 3", "capacity : 4", "edge_weight_type : ATT", "edge_weight_format : UPPER_ROW", "EDGE WEIGHT TYPE : ATT",
		"EDGE-WEIGHT-TYPE : ATT", "comment : x", "1 2 3", "-1", "\xff", "\r", "\v", strings.Repeat("K", 41) + " : x", "=", "NAME = t", "\u00a0NAME : u",
	} {
		for at := range rows {
			ahead, behind := strings.Join(rows[:at], ""), strings.Join(rows[at:], "")
			for _, around := range [][2]string{{"", " \n"}, {" \t", "\t\r\n"}, {"  ", " \r\n"}} {
				s := ahead + around[0] + wrong + around[1]
				fails(t, s+behind, len(ahead), api.ErrLine)
				fails(t, s, len(ahead), api.ErrLine)
				fails(t, ahead+"\n\t\n"+around[0]+wrong+around[1]+behind, len(ahead)+3, api.ErrLine)
			}
		}
	}
}

func TestKeysThatThereAreNot(t *testing.T) {
	rows := strings.SplitAfter(whole, "\n")
	for _, wrong := range []string{
		"NAMES", "NAM", "AME", "NAME_", "_NAME", "NAME1", "TYPES", "TYP", "KIND", "DIM", "DIMENSIONS", "DIMENSIO", "CAP", "CAPACITYS", "CAPACIT", "METRIC", "LAYOUT",
		"EDGE_WEIGHT", "EDGE_WEIGHT_", "EDGE_WEIGHT_TYPES", "EDGE_WEIGHT_TYP", "EDGEWEIGHTTYPE", "EDGE_WEIGHT_FORMATS", "EDGE_WEIGHT_FORMA", "EDGE_DATA_FORMAT",
		"DISTANCE", "VEHICLES", "SCALE", "FLEET", "TSP", "CVRP", "EUC_2D", "FULL_MATRIX", "EXPLICIT", "0", "_", "7", "X", "OF", "TWOD_COORDS", "SERVICE_TIME", strings.Repeat("K", 40),
	} {
		for at := range rows {
			ahead, behind := strings.Join(rows[:at], ""), strings.Join(rows[at:], "")
			for _, row := range []string{wrong, wrong + ":", wrong + " : t", "\t" + wrong + " : 3 ", " " + wrong + ":TSP\r", wrong + " : \xff", wrong + "\t:\tEUC_2D : x"} {
				fails(t, ahead+row+"\n"+behind, len(ahead), api.ErrKey)
				fails(t, ahead+row, len(ahead), api.ErrKey)
			}
		}
	}
}

// A key that came already is wrong with the same value, with another one, with one that may not be,
// and with none; its From is the row's, not the key's, nor the value's.
func TestKeysThatCameAlready(t *testing.T) {
	all := rowsOf("CVRP", "EXPLICIT")
	for _, key := range keys {
		for _, other := range []string{all[key], rowsOf("TSP", "ATT")[key], key + " : 1", key + " : u", key + " : LOWER_ROW", key + " : a b", key + " : -1", key + ":", key} {
			for first := range keys {
				for second := first; second < len(keys); second++ {
					rest := slices.DeleteFunc(slices.Clone(keys), func(k string) bool { return k == key })
					var ahead, behind string
					for i, k := range rest {
						if i == first {
							ahead += all[key] + "\n"
						}
						if i < second {
							ahead += all[k] + "\n"
						} else {
							behind += "\n" + all[k]
						}
					}
					if first == len(rest) {
						ahead += all[key] + "\n"
					}
					fails(t, ahead+other+behind, len(ahead), api.ErrKey)
					fails(t, ahead+" \t"+other, len(ahead), api.ErrKey)
					fails(t, ahead+"\r\n"+other+"\nEOF", len(ahead)+2, api.ErrKey)
				}
			}
		}
	}
}

// A key's value, and what it says.
type said struct {
	value string
	want  head.Head
}

// goodValues are the values that are taken, of each key; Heads say but what that key does.
func goodValues() map[string][]said {
	good := map[string][]said{
		"TYPE": {{"TSP", head.Head{Kind: 1}}, {"CVRP", head.Head{Kind: 2}}},
		"DIMENSION": {
			{"1", head.Head{Dim: 1}}, {"2", head.Head{Dim: 2}}, {"399", head.Head{Dim: 399}}, {"400", head.Head{Dim: 400}},
			{"07", head.Head{Dim: 7}}, {"000000000400", head.Head{Dim: 400}}, {"000000000001", head.Head{Dim: 1}},
		},
		"CAPACITY": {
			{"1", head.Head{Cap: 1}}, {"2", head.Head{Cap: 2}}, {"401", head.Head{Cap: 401}}, {"99999999", head.Head{Cap: most - 1}},
			{"100000000", head.Head{Cap: most}}, {"000100000000", head.Head{Cap: most}}, {"000000000001", head.Head{Cap: 1}},
		},
	}
	for _, name := range goodNames {
		good["NAME"] = append(good["NAME"], said{name, head.Head{Name: name}})
	}
	for i, word := range metricWords {
		good["EDGE_WEIGHT_TYPE"] = append(good["EDGE_WEIGHT_TYPE"], said{word, head.Head{Metric: i}})
	}
	for i, word := range layoutWords {
		good["EDGE_WEIGHT_FORMAT"] = append(good["EDGE_WEIGHT_FORMAT"], said{word, head.Head{Layout: i + 1}})
	}
	return good
}

// badValues are values that are not taken, of each key.
func badValues() map[string][]string {
	numbers := []string{
		"0", "-0", "000", "-1", "-3", "-400", "+3", "3.0", "3.", ".3", "3 4", "3:", ":3", "x", "-", "--3", "3x", "0x3", "1e2", "٣", "3\r", "\xff", "3,0",
		"0000000000001", "100000001", "999999999999", "-100000000", "1000000000000", "18446744073709551617", "4294967297", strings.Repeat("9", 100),
	}
	bad := map[string][]string{
		"NAME":      {"a b", "a\tb", "a:b", ": a", "a :", "a/b", "é", "\xff", "a\x00", "a\r", "a,b", "(a)", strings.Repeat("x", 41), strings.Repeat("x", 100), "t \r"},
		"DIMENSION": slices.Concat(numbers, []string{"401", "402", "1000", "99999999", "100000000", "000000000401", "65537"}),
		"CAPACITY":  slices.Concat(numbers, []string{"000100000001", "100000002"}),
	}
	words := slices.Concat(metricWords, layoutWords, []string{
		"TSP", "CVRP", "ATSP", "TOUR", "HCP", "VRPTW", "PDPTW", "GEO", "EUC_3D", "EUC_2", "EUC", "EUC2D", "TENTH", "XRAY1", "SPECIAL", "FUNCTION", "UPPER", "MATRIX",
		"UPPER_DIAG_COL", "LOWER_DIAG_COL", "1", "2", "0", "NAME", "TYPE",
	})
	for _, word := range slices.Clone(words) {
		words = append(words, strings.ToLower(word), word+"S", word+"X", "X"+word, word[:len(word)-1]+"-", word[1:]+word[:1], word+" x", "x "+word, word+" "+word, word+":", ":"+word,
			word+"\r", word+"\x00", word+"_", "_"+word, word[:1]+strings.ToLower(word[1:]), word+"\xff")
	}
	for key, good := range map[string][]string{"TYPE": {"TSP", "CVRP"}, "EDGE_WEIGHT_TYPE": metricWords, "EDGE_WEIGHT_FORMAT": layoutWords} {
		bad[key] = slices.DeleteFunc(slices.Clone(words), func(w string) bool { return slices.Contains(good, w) })
	}
	return bad
}

// merge puts what one key says into h.
func merge(h, one head.Head, key string) head.Head {
	switch key {
	case "NAME":
		h.Name = one.Name
	case "TYPE":
		h.Kind = one.Kind
	case "DIMENSION":
		h.Dim = one.Dim
	case "CAPACITY":
		h.Cap = one.Cap
	case "EDGE_WEIGHT_TYPE":
		h.Metric = one.Metric
	default:
		h.Layout = one.Layout
	}
	return h
}

// Each value that is taken, in a head that has all keys, with all sorts of blanks.
func TestValuesThatAreTaken(t *testing.T) {
	for _, kind := range []string{"TSP", "CVRP"} {
		for i, metric := range metricWords {
			base := head.Head{Name: "t", Kind: len(kind) / 2, Dim: 3, Cap: 4, Metric: i, Layout: 2}
			all := rowsOf(kind, metric)
			for key, list := range goodValues() {
				for _, x := range list {
					for _, row := range []string{key + " : " + x.value, key + ":" + x.value, " " + key + "\t:\t " + x.value + " \t"} {
						rows := maps.Clone(all)
						rows[key] = row
						s := ""
						for _, k := range keys {
							s += rows[k] + "\r\n"
						}
						parses(t, s, merge(base, x.want, key), len(s))
					}
				}
			}
		}
	}
}

// Each value that is not taken, of each key, alone and within a head: its own place is told.
func TestValuesThatAreNotTaken(t *testing.T) {
	rows := strings.SplitAfter("COMMENT : c\n"+whole, "\n")
	for key, list := range badValues() {
		for _, value := range list {
			for _, before := range []string{key + " : ", key + ":", " \t" + key + " \t:\t  "} {
				for _, behind := range []string{" ", " \n", " \t\r\n", "\n" + whole} {
					if value[len(value)-1] == '\r' && behind[0] == '\n' {
						continue // the byte 13 would be of the line's end
					}
					fails(t, before+value+behind, len(before), api.ErrValue)
					fails(t, "COMMENT\r\n \n"+before+value+behind, len(before)+11, api.ErrValue)
				}
			}
			var ahead string
			for _, row := range rows {
				s := ahead + key + " : " + value + " \n"
				if !strings.Contains(ahead, key+" :") {
					fails(t, s, len(ahead+key)+3, api.ErrValue)
				} else {
					fails(t, s, len(ahead), api.ErrKey)
				}
				ahead += row
			}
		}
	}
}

// Of a row without a value the place is that of its end, ahead of the bytes that end the line.
func TestNoValues(t *testing.T) {
	for _, key := range keys {
		for _, row := range []string{key, key + " ", key + ":", key + " :", key + " : ", key + "\t:\t \t", " " + key + " ", "\t" + key + "\t:"} {
			for _, behind := range []string{"", "\n", "\r\n", "\n\n", "\nEOF", "\r\n" + whole} {
				fails(t, row+behind, len(row), api.ErrValue)
				fails(t, "\n"+row+behind, len(row)+1, api.ErrValue)
				fails(t, "COMMENT : x\r\n"+row+behind, len(row)+13, api.ErrValue)
			}
		}
	}
}

// All orders of all sets of keys, of both kinds, with and without a matrix: what lacks is told at the
// end, whichever keys lack.
func TestKeysThatLack(t *testing.T) {
	for _, kind := range []string{"TSP", "CVRP"} {
		for _, metric := range []string{"EXPLICIT", "MAN_2D"} {
			all := rowsOf(kind, metric)
			full := head.Head{Name: "t", Kind: len(kind) / 2, Dim: 3, Cap: 4, Metric: slices.Index(metricWords, metric), Layout: 2}
			for set := range 64 {
				var some []string
				var want head.Head
				for i, key := range keys {
					if set>>i&1 == 1 {
						some = append(some, key)
						want = merge(want, full, key)
					}
				}
				has := func(key string) bool { return slices.Contains(some, key) }
				lacks := !has("NAME") || !has("TYPE") || !has("DIMENSION") || !has("EDGE_WEIGHT_TYPE") ||
					kind == "CVRP" && !has("CAPACITY") || metric == "EXPLICIT" && !has("EDGE_WEIGHT_FORMAT")
				orders(some, func(l []string) {
					s := ""
					for _, key := range l {
						s += all[key] + "\n"
					}
					for _, behind := range []string{"", " \t", "EOF", "NODE_COORD_SECTION\n1 0 0\n"} {
						end := len(s)
						if behind == " \t" {
							end += 2
						}
						if lacks {
							fails(t, s+behind, end, api.ErrLack)
						} else {
							parses(t, s+behind, want, end)
						}
					}
				})
			}
		}
	}
}

func TestNoHead(t *testing.T) {
	for s, at := range map[string]int{
		"": 0, " ": 1, "\n": 1, "\r\n": 2, " \t\n\n": 4, "EOF": 0, "\nEOF": 1, "\n\r\n \nEOF\n": 5, "_SECTION": 0, " _SECTION": 0, "COMMENT": 7, "COMMENT : x\nEOF": 12,
	} {
		fails(t, s, at, api.ErrLack)
	}
	fails(t, "\r", 0, api.ErrLine) // without a line feed it is no end of a line
}

// Each two errors of all sorts, in the same row, ahead and behind of each other, and of what lacks:
// the first row that is wrong is told, with what is wrong with it first.
func TestTheFirstErrorEndsIt(t *testing.T) {
	type wrong struct {
		row  string
		at   int
		code api.Errno
	}
	wrongs := []wrong{
		{"x : y\n", 0, api.ErrLine}, {"  :\n", 0, api.ErrLine}, {"FOO : 1\r\n", 0, api.ErrKey}, {" FOO\n", 0, api.ErrKey}, {"CAPACITY : 0\n", 11, api.ErrValue},
		{"\tCAPACITY\n", 9, api.ErrValue}, {"EDGE_WEIGHT_FORMAT: FUNCTION \n", 20, api.ErrValue}, {"TYPE : ATSP\n", 7, api.ErrValue}, {"DIMENSION : 401\n", 12, api.ErrValue},
	}
	for _, first := range wrongs {
		for _, second := range wrongs {
			for _, between := range []string{"", "\n", "COMMENT\n", "NAME : t\n", "EOF\n", "A_SECTION\n"} {
				s := first.row + between + second.row
				fails(t, s, first.at, first.code)
				fails(t, "NODE_COORD_TYPE\n"+s+whole, 16+first.at, first.code)
				fails(t, "\n \n"+s+"EOF", 3+first.at, first.code)
			}
		}
		// Ahead of what lacks, too, whatever it is.
		fails(t, "EDGE_WEIGHT_TYPE : ATT\n"+first.row+"EOF\n"+whole, 23+first.at, first.code)
	}
	fails(t, "NAME : t\nNAME : a b\n", 9, api.ErrKey) // of one row: the key ahead of its value
	fails(t, "NAME : a b\nNAME : t\n", 7, api.ErrValue)
	fails(t, "NAME : t\nname\nNAME : t\n", 9, api.ErrLine)
}

// P14.2: all short texts, sets of rows, and texts by chance

func TestParseOfAllShortTexts(t *testing.T) {
	texts([]string{"NAME", "TYPE", ":", " ", "\n", "TSP", "\r\n", "EOF", "_SECTION", "a", "\t"}, 5, func(s string) { holdsParse(t, s) })
}

func TestParseOfAllShortEndings(t *testing.T) {
	texts([]string{"DIMENSION", "CAPACITY", ":", " ", "\n", "4", "0", "EOF", "_SECTION", "\r"}, 5, func(s string) {
		holdsParse(t, "NAME:t\nTYPE:TSP\nEDGE_WEIGHT_TYPE:ATT\n"+s)
	})
}

// rowPieces are rows of all sorts, right and wrong.
var rowPieces = []string{
	"NAME : t", "NAME:u ", "NAME : a b", "NAME", "TYPE : TSP", " TYPE : CVRP", "TYPE : tsp", "DIMENSION : 3", "DIMENSION:400", "DIMENSION : 401", "DIMENSION :",
	"CAPACITY : 4", "CAPACITY : 0", "EDGE_WEIGHT_TYPE : EXPLICIT", "EDGE_WEIGHT_TYPE : ATT", "EDGE_WEIGHT_TYPE : UPPER_ROW", "EDGE_WEIGHT_FORMAT : UPPER_ROW",
	"EDGE_WEIGHT_FORMAT : LOWER_DIAG_ROW", "EDGE_WEIGHT_FORMAT : ATT", "COMMENT : x", "NODE_COORD_TYPE", "DISPLAY_DATA_TYPE:", "", " \t", "x", ": y", "FOO : 1", "EOF", " EOF : 2",
	"X_SECTION", "_SECTION : 3",
}

func TestParseOfAllShortRows(t *testing.T) {
	for _, a := range rowPieces {
		for _, b := range rowPieces {
			for _, c := range rowPieces {
				holdsParse(t, a+"\n"+b+"\r\n"+c)
				holdsParse(t, "NAME : n\n"+a+"\nTYPE : CVRP\n"+b+"\nEDGE_WEIGHT_TYPE : EXPLICIT\n"+c+"\n")
				holdsParse(t, a+"\r\nEDGE_WEIGHT_FORMAT : FULL_MATRIX\n"+b+"\nDIMENSION : 1\nCAPACITY : 2\n"+c+" \n")
			}
		}
	}
}

// pick tells one of l, by chance.
func pick[T any](r *rand.Rand, l []T) T { return l[r.Intn(len(l))] }

func TestParseOfRowsByChance(t *testing.T) {
	r := rand.New(rand.NewSource(14))
	told := 0
	for range 30000 {
		rows := rowsOf(pick(r, []string{"TSP", "CVRP"}), pick(r, metricWords))
		var b strings.Builder
		for _, i := range r.Perm(len(keys)) {
			if r.Intn(12) > 0 {
				b.WriteString(pick(r, blanks) + rows[keys[i]] + pick(r, blanks) + pick(r, ends))
			}
			if r.Intn(12) == 0 {
				b.WriteString(pick(r, rowPieces) + pick(r, ends))
			}
			if r.Intn(6) == 0 {
				b.WriteString(pick(r, skipped) + pick(r, []string{"", ":", " : x y", ":\t"}) + pick(r, ends))
			}
		}
		s := b.String()
		if r.Intn(3) == 0 {
			s = strings.TrimRight(s, "\r\n")
		}
		holdsParse(t, s)
		if _, _, d := head.Parse(s); d == (api.Diag{}) {
			told++
		}
	}
	if told < 5000 {
		t.Errorf("only %d of the texts were heads", told)
	}
}

// Heads with some bytes written over, put in, or taken out.
func TestParseOfBytesByChance(t *testing.T) {
	r := rand.New(rand.NewSource(15))
	base := "COMMENT : c\nNAME : t\r\nTYPE : CVRP\n\nDIMENSION : 13\nCAPACITY : 40\nEDGE_WEIGHT_TYPE : EXPLICIT\nEDGE_WEIGHT_FORMAT : UPPER_ROW\nX_SECTION\n"
	signs := []byte(" \t\n\r:_AEFNOTX019-.xé\xff\x00")
	for range 60000 {
		b := []byte(base)
		for range 1 + r.Intn(3) {
			at := r.Intn(len(b))
			switch r.Intn(3) {
			case 0:
				b[at] = pick(r, signs)
			case 1:
				b = slices.Insert(b, at, pick(r, signs))
			default:
				b = slices.Delete(b, at, at+1)
			}
		}
		holdsParse(t, string(b))
	}
	for range 20000 {
		b := make([]byte, r.Intn(60))
		for i := range b {
			b[i] = pick(r, signs)
		}
		holdsParse(t, string(b))
	}
	for range 5000 {
		b := make([]byte, r.Intn(200))
		for i := range b {
			b[i] = byte(r.Intn(256))
		}
		holdsParse(t, string(b))
	}
}

// Each start of a head, and each of its bytes gone, or another one.
func TestParseOfEachByte(t *testing.T) {
	for _, kind := range []string{"TSP", "CVRP"} {
		for _, metric := range []string{"EXPLICIT", "CEIL_2D"} {
			rows := rowsOf(kind, metric)
			s := ""
			for _, key := range keys {
				s += rows[key] + "\n"
			}
			s += "NODE_COORD_SECTION\n1 0 0\nEOF\n"
			for at := range len(s) {
				holdsParse(t, s[:at])
				holdsParse(t, s[at:])
				holdsParse(t, s[:at]+s[at+1:])
				for b := range 256 {
					holdsParse(t, s[:at]+string([]byte{byte(b)})+s[at+1:])
				}
			}
		}
	}
}

func TestParseOfLongTexts(t *testing.T) {
	for _, piece := range []string{"\n", " ", "a", "A", ":", "\r", "\r\n", "COMMENT\n", "NODE_COORD_TYPE : x\r\n", "EOF\n", "_SECTION\n", "NAME : t\n", "K : v\n", "x\n", "\xff\n", "1 2\n"} {
		long := strings.Repeat(piece, 1800/len(piece))
		for _, s := range []string{long, whole + long, long + whole, whole + "EOF\n" + long, long + "\n" + whole, whole + "COMMENT : " + long} {
			holdsParse(t, s)
		}
	}
	name := "NAME : " + strings.Repeat(" ", 900) + "t" + strings.Repeat("\t", 900) + "\n"
	s := name + whole[len("NAME : t\n"):]
	parses(t, s, wholeHead, len(s))
}

// P14.3

func TestPrint(t *testing.T) {
	for want, h := range map[string]head.Head{
		"NAME : t\nTYPE : TSP\nDIMENSION : 3\nEDGE_WEIGHT_TYPE : EUC_2D\n":                                                                 wholeHead, // the document's example
		"NAME : a.B_9-\nTYPE : TSP\nDIMENSION : 1\nEDGE_WEIGHT_TYPE : CEIL_2D\n":                                                           {Name: "a.B_9-", Kind: 1, Dim: 1, Metric: 2},
		"NAME : EOF\nTYPE : CVRP\nDIMENSION : 400\nCAPACITY : 100000000\nEDGE_WEIGHT_TYPE : MAN_2D\n":                                      {Name: "EOF", Kind: 2, Dim: 400, Cap: most, Metric: 3},
		"NAME : c\nTYPE : CVRP\nDIMENSION : 10\nCAPACITY : 1\nEDGE_WEIGHT_TYPE : MAX_2D\n":                                                 {Name: "c", Kind: 2, Dim: 10, Cap: 1, Metric: 4},
		"NAME : -\nTYPE : TSP\nDIMENSION : 399\nEDGE_WEIGHT_TYPE : ATT\n":                                                                  {Name: "-", Kind: 1, Dim: 399, Metric: 5},
		"NAME : m\nTYPE : TSP\nDIMENSION : 2\nEDGE_WEIGHT_TYPE : EXPLICIT\nEDGE_WEIGHT_FORMAT : FULL_MATRIX\n":                             {Name: "m", Kind: 1, Dim: 2, Layout: 1},
		"NAME : m\nTYPE : CVRP\nDIMENSION : 2\nCAPACITY : 99\nEDGE_WEIGHT_TYPE : EXPLICIT\nEDGE_WEIGHT_FORMAT : UPPER_ROW\n":               {Name: "m", Kind: 2, Dim: 2, Cap: 99, Layout: 2},
		"NAME : m\nTYPE : TSP\nDIMENSION : 2\nEDGE_WEIGHT_TYPE : EXPLICIT\nEDGE_WEIGHT_FORMAT : LOWER_ROW\n":                               {Name: "m", Kind: 1, Dim: 2, Layout: 3},
		"NAME : m\nTYPE : TSP\nDIMENSION : 2\nEDGE_WEIGHT_TYPE : EXPLICIT\nEDGE_WEIGHT_FORMAT : UPPER_DIAG_ROW\n":                          {Name: "m", Kind: 1, Dim: 2, Layout: 4},
		"NAME : m\nTYPE : TSP\nDIMENSION : 2\nEDGE_WEIGHT_TYPE : EXPLICIT\nEDGE_WEIGHT_FORMAT : LOWER_DIAG_ROW\n":                          {Name: "m", Kind: 1, Dim: 2, Layout: 5},
		"NAME : m\nTYPE : TSP\nDIMENSION : 2\nEDGE_WEIGHT_TYPE : EXPLICIT\nEDGE_WEIGHT_FORMAT : UPPER_COL\n":                               {Name: "m", Kind: 1, Dim: 2, Layout: 6},
		"NAME : " + strings.Repeat("n", 40) + "\nTYPE : TSP\nDIMENSION : 2\nEDGE_WEIGHT_TYPE : EXPLICIT\nEDGE_WEIGHT_FORMAT : LOWER_COL\n": {Name: strings.Repeat("n", 40), Kind: 1, Dim: 2, Layout: 7},
		"NAME : TYPE\nTYPE : CVRP\nDIMENSION : 256\nCAPACITY : 65537\nEDGE_WEIGHT_TYPE : EXPLICIT\nEDGE_WEIGHT_FORMAT : LOWER_COL\n":       {Name: "TYPE", Kind: 2, Dim: 256, Cap: 65537, Layout: 7},
	} {
		if s := head.Print(h); s != want {
			t.Errorf("Print(%+v) = %q, want %q", h, s, want)
		}
		parses(t, want, h, len(want))
	}
}

// P14.4

// mayHeads goes through heads of all sorts that May takes.
func mayHeads(use func(h head.Head)) {
	for _, name := range goodNames {
		for _, dim := range []int{1, 2, 9, 10, 99, 100, 399, 400} {
			for _, most := range []int{0, 1, 10, 99, most - 1, most} {
				kind := 2
				if most == 0 {
					kind = 1
				}
				for metric := 1; metric <= 5; metric++ {
					use(head.Head{Name: name, Kind: kind, Dim: dim, Cap: most, Metric: metric})
				}
				for layout := 1; layout <= 7; layout++ {
					use(head.Head{Name: name, Kind: kind, Dim: dim, Cap: most, Layout: layout})
				}
			}
		}
	}
}

// What is printed is parsed back, alone, and ahead of whatever sections.
func TestWhatIsPrintedIsParsedBack(t *testing.T) {
	sections := []string{
		"EOF", "EOF\n", "NODE_COORD_SECTION\n1 0 0\n2 3 4\nEOF\n", "EDGE_WEIGHT_SECTION\r\n0 1 2\n", "DEMAND_SECTION\n1 0\nDEPOT_SECTION\n1\n-1\nEOF\n",
		"_SECTION : 5\nNAME : other\nx\n", " \tX_SECTION :", "EOF\nNAME : t\nNAME : u\n\xff\n", "A_SECTION\nB_SECTION\nTYPE : x", "TOUR_SECTION\n" + strings.Repeat("1\n", 400),
	}
	mayHeads(func(h head.Head) {
		s := head.Print(h)
		if s == "" || !head.May(h) {
			t.Fatalf("%+v may not be", h)
		}
		parses(t, s, h, len(s))
		parses(t, s+"\n \n", h, len(s)+3)
		for _, behind := range sections {
			parses(t, s+behind, h, len(s))
			parses(t, s+"\r\n\t\n"+behind, h, len(s)+4)
		}
	})
}

// And so it is in another order, with other blanks and ends of lines, with rows between that are not
// looked at; what is told of it is printed as it was.
func TestWhatIsPrintedOtherwiseIsParsedBack(t *testing.T) {
	r := rand.New(rand.NewSource(16))
	mayHeads(func(h head.Head) {
		printed := head.Print(h)
		rows := strings.Split(strings.TrimSuffix(printed, "\n"), "\n")
		r.Shuffle(len(rows), func(i, k int) { rows[i], rows[k] = rows[k], rows[i] })
		s := ""
		for _, row := range rows {
			key, value, _ := strings.Cut(row, " : ")
			s += pick(r, blanks) + key + pick(r, blanks) + ":" + pick(r, blanks) + value + pick(r, blanks) + pick(r, ends)
			if r.Intn(4) == 0 {
				s += pick(r, skipped) + " : " + row + pick(r, ends)
			}
		}
		parses(t, s, h, len(s))
		parses(t, s+"EOF\n"+s, h, len(s))
		if again, _, _ := head.Parse(s); head.Print(again) != printed {
			t.Errorf("%q is printed as %q, want %q", s, head.Print(again), printed)
		}
	})
}

// What is parsed, and may be, is printed as a text that says the same.
func TestWhatIsParsedIsPrintedBack(t *testing.T) {
	r := rand.New(rand.NewSource(17))
	for range 20000 {
		rows := []string{"NAME : " + pick(r, goodNames), "TYPE : " + pick(r, []string{"TSP", "CVRP"}), "DIMENSION : " + strconv.Itoa(1+r.Intn(400)), "EDGE_WEIGHT_TYPE : " + pick(r, metricWords)}
		if r.Intn(2) == 0 {
			rows = append(rows, "CAPACITY : "+strconv.Itoa(1+r.Intn(most)))
		}
		if r.Intn(2) == 0 {
			rows = append(rows, "EDGE_WEIGHT_FORMAT : "+pick(r, layoutWords))
		}
		s := strings.Join(rows, "\n")
		holdsParse(t, s)
		h, _, d := head.Parse(s)
		holdsMay(t, h)
		if d == (api.Diag{}) && head.May(h) {
			parses(t, head.Print(h), h, len(head.Print(h)))
		}
	}
}

// R4, R5: no call changes what is handed in, nor what is answered later or was answered before.

func TestAnswersAreTheSameAgain(t *testing.T) {
	texts := []string{
		whole, whole + "CAPACITY : 4\n", "", "x", whole + "NAME : u", "NAME : u\nTYPE : CVRP\nDIMENSION : 400\nCAPACITY : 9\nEDGE_WEIGHT_TYPE : EXPLICIT\nEDGE_WEIGHT_FORMAT : UPPER_COL\nEOF",
		"TYPE : ATSP", "NAME : u\nTYPE : TSP\n",
	}
	for _, a := range texts {
		for _, b := range texts {
			h, at, d := head.Parse(a)
			other, _, _ := head.Parse(b)
			printed := head.Print(h)
			other.Name, other.Kind, other.Dim, other.Cap, other.Metric, other.Layout = "z", -1, -1, -1, -1, -1
			again, end, diag := head.Parse(a)
			if again != h || end != at || diag != d || head.Print(again) != printed || head.May(again) != head.May(h) {
				t.Errorf("%q: %+v, %d, %v, and behind %q %+v, %d, %v", a, h, at, d, b, again, end, diag)
			}
			holdsParse(t, a)
			holdsMay(t, h)
		}
	}
}

// A text whose bytes are written over behind the call leaves what was told of it.
func TestNamesStay(t *testing.T) {
	b := []byte(whole)
	h, _, _ := head.Parse(string(b))
	printed := head.Print(h)
	for i := range b {
		b[i] = 'x'
	}
	other, _, _ := head.Parse(strings.Replace(whole, ": t", ": u", 1))
	if h != wholeHead || printed != whole || other.Name != "u" {
		t.Errorf("%+v, %q, %+v", h, printed, other)
	}
}
