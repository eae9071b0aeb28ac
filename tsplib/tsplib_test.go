package tsplib_test

import (
	"fmt"
	"math"
	"math/rand"
	"regexp"
	"slices"
	"strconv"
	"strings"
	"testing"

	"entrepot/api"
	"entrepot/canon"
	"entrepot/head"
	"entrepot/tsplib"
)

const most = 100000000 // the greatest number

var (
	metricWords = []string{"EXPLICIT", "EUC_2D", "CEIL_2D", "MAN_2D", "MAX_2D", "ATT"}
	layoutWords = []string{"", "FULL_MATRIX", "UPPER_ROW", "LOWER_ROW", "UPPER_DIAG_ROW", "LOWER_DIAG_ROW", "UPPER_COL", "LOWER_COL"}
)

var (
	wordForm  = regexp.MustCompile(`[^ \t]+`)
	wholeForm = regexp.MustCompile(`\A-?[0-9]{1,12}\z`)
	readForm  = regexp.MustCompile(`\A-?[0-9]{1,12}(\.[0-9]{1,6})?\z`)
)

// plainWord is a word, and where it begins; plainRow is a row, and where that does.
type plainWord struct {
	text string
	at   int
}

type plainRow struct {
	from  int
	words []plainWord
}

// is tells whether the row is title alone.
func (r plainRow) is(title string) bool {
	return len(r.words) == 1 && r.words[0].text == title
}

// plainRows tells the rows of s that begin at from or behind it, by the words of chapters 1, 3 and 13.
func plainRows(s string, from int) []plainRow {
	var rows []plainRow
	at := 0
	for _, part := range strings.SplitAfter(s, "\n") {
		body, ended := strings.CutSuffix(part, "\n")
		if ended {
			body = strings.TrimSuffix(body, "\r")
		}
		r := plainRow{from: at}
		for _, w := range wordForm.FindAllStringIndex(body, -1) {
			r.words = append(r.words, plainWord{body[w[0]:w[1]], at + w[0]})
		}
		if len(r.words) > 0 && at >= from {
			rows = append(rows, r)
		}
		at += len(part)
	}
	return rows
}

// plainInt tells what P2.1 says of Int, by its words.
func plainInt(text string) (int, api.Errno) {
	n, _ := strconv.Atoi(text)
	switch {
	case !wholeForm.MatchString(text):
		return 0, 20
	case n < -most || n > most:
		return 0, 2
	}
	return n, 0
}

// plainNum is m, divided by 10 to the s, and where it stands.
type plainNum struct{ m, s, at int }

// plainRead tells what P2.1 says of Read, by its words.
func plainRead(w plainWord) (plainNum, api.Errno) {
	if !readForm.MatchString(w.text) {
		return plainNum{}, 20
	}
	whole, behind, _ := strings.Cut(w.text, ".")
	behind = strings.TrimRight(behind, "0")
	m, _ := strconv.Atoi(whole + behind)
	if m < -most || m > most {
		return plainNum{}, 2
	}
	return plainNum{m, len(behind), w.at}, 0
}

// cells are the rows and columns of the numbers that a layout tells, in its order, by the words of P7.2.
func cells(layout, n int) [][2]int {
	var l [][2]int
	for a := range n {
		for b := range n {
			switch {
			case layout == 1, layout == 2 && b > a, layout == 3 && b < a, layout == 4 && b >= a, layout == 5 && b <= a:
				l = append(l, [2]int{a, b})
			case layout == 6 && b < a, layout == 7 && b > a: // a is the column
				l = append(l, [2]int{b, a})
			}
		}
	}
	return l
}

// reading is a file that is read by the words of P15.2; once d is set, nothing more is taken.
type reading struct {
	s    string
	rows []plainRow
	nums []plainNum
	x    canon.Inst
	d    api.Diag
}

func (p *reading) wrong(at int, code api.Errno) {
	if p.d == (api.Diag{}) {
		p.d = api.Diag{At: at, Code: code}
	}
}

// next tells the next row, and whether there is one, and nothing was wrong so far.
func (p *reading) next() (plainRow, bool) {
	if p.d != (api.Diag{}) {
		return plainRow{}, false
	}
	if len(p.rows) == 0 {
		p.wrong(len(p.s), 4)
		return plainRow{}, false
	}
	r := p.rows[0]
	p.rows = p.rows[1:]
	return r, true
}

func (p *reading) title(title string) {
	if r, is := p.next(); is && !r.is(title) {
		p.wrong(r.from, 3)
	}
}

func (p *reading) node(i int) {
	r, is := p.next()
	if !is {
		return
	}
	if len(r.words) != 3 {
		p.wrong(r.from, 3)
		return
	}
	if n, e := plainInt(r.words[0].text); e != 0 || n != i {
		p.wrong(r.from, 3)
	}
	for _, w := range r.words[1:] {
		n, e := plainRead(w)
		if e != 0 {
			p.wrong(w.at, e)
		}
		p.nums = append(p.nums, n)
	}
}

func (p *reading) matrix(layout, n int) {
	at := cells(layout, n)
	var l []int
	for len(l) < len(at) {
		r, is := p.next()
		if !is {
			return
		}
		for _, w := range r.words {
			m, e := plainInt(w.text)
			if len(l) == len(at) {
				e = 3
			}
			if e != 0 {
				p.wrong(w.at, e)
				return
			}
			l = append(l, m)
		}
	}
	p.x.Matrix = make([]int, n*n)
	for k, c := range at {
		p.x.Matrix[c[0]*n+c[1]] = l[k]
		if layout != 1 {
			p.x.Matrix[c[1]*n+c[0]] = l[k]
		}
	}
}

func (p *reading) demand(i int) {
	r, is := p.next()
	if !is {
		return
	}
	if len(r.words) != 2 {
		p.wrong(r.from, 3)
		return
	}
	var l [2]int
	for k, w := range r.words {
		m, e := plainInt(w.text)
		if e != 0 {
			p.wrong(w.at, e)
		}
		l[k] = m
	}
	if l[0] != i {
		p.wrong(r.from, 3)
	}
	p.x.Nodes[i-1].Demand = l[1]
}

// common puts all numbers into one scale.
func (p *reading) common() {
	for _, n := range p.nums {
		p.x.Scale = max(p.x.Scale, n.s)
	}
	for k, n := range p.nums {
		m := n.m
		for range p.x.Scale - n.s {
			m *= 10
		}
		if m < -most || m > most {
			p.wrong(n.at, 2)
			return
		}
		if k%2 == 0 {
			p.x.Nodes[k/2].X = m
		} else {
			p.x.Nodes[k/2].Y = m
		}
	}
}

// plainParse tells what P15.2 says, by its words.
func plainParse(s string) (canon.Inst, []api.Diag) {
	h, end, d := head.Parse(s)
	p := &reading{s: s, rows: plainRows(s, end), d: d}
	p.x = canon.Inst{Name: h.Name, Kind: h.Kind, Metric: h.Metric, Cap: h.Cap, Nodes: make([]canon.Node, h.Dim)}
	if h.Metric != 0 {
		p.title("NODE_COORD_SECTION")
		for i := range h.Dim {
			p.node(i + 1)
		}
	} else {
		p.title("EDGE_WEIGHT_SECTION")
		p.matrix(h.Layout, h.Dim)
	}
	if h.Kind == 2 {
		p.title("DEMAND_SECTION")
		for i := range h.Dim {
			p.demand(i + 1)
		}
		p.title("DEPOT_SECTION")
		p.title("1")
		p.title("-1")
	}
	if len(p.rows) > 0 {
		p.title("EOF")
	}
	if len(p.rows) > 0 {
		p.wrong(p.rows[0].from, 4)
	}
	if p.d == (api.Diag{}) {
		p.common()
	}
	if p.d != (api.Diag{}) {
		return canon.Inst{}, []api.Diag{p.d}
	}
	return plainTold(p.x)
}

// copied tells x with lists of its own.
func copied(x canon.Inst) canon.Inst {
	x.Nodes, x.Matrix = slices.Clone(x.Nodes), slices.Clone(x.Matrix)
	return x
}

// plainTold tells what P15.1 says, by its words.
func plainTold(x canon.Inst) (canon.Inst, []api.Diag) {
	var codes []int
	for _, f := range canon.Check(x) {
		codes = append(codes, 300+f.Field)
	}
	slices.Sort(codes)
	var l []api.Diag
	for _, code := range slices.Compact(codes) {
		l = append(l, api.Diag{Code: api.Errno(code)})
	}
	if len(l) > 0 {
		return canon.Inst{}, l
	}
	y := copied(x)
	finer := func(n canon.Node) bool { return n.X%10 != 0 || n.Y%10 != 0 }
	for y.Scale > 0 && !slices.ContainsFunc(y.Nodes, finer) {
		y.Scale--
		for i := range y.Nodes {
			y.Nodes[i].X /= 10
			y.Nodes[i].Y /= 10
		}
	}
	return y, nil
}

// lacking tells the first field of x that no file can express, by the words of P12.1; 0, if there is none.
func lacking(x canon.Inst) int {
	lacks := map[int]bool{canon.Kind: x.Kind != 1 && x.Kind != 2, canon.Metric: x.Metric < 0 || x.Metric > 5, canon.Fleet: x.Fleet != 0}
	for _, n := range x.Nodes {
		lacks[canon.Demand] = lacks[canon.Demand] || n.Demand < 0
		lacks[canon.Window] = lacks[canon.Window] || n.Ready != 0 || n.Due != 0
		lacks[canon.Service] = lacks[canon.Service] || n.Service != 0
		lacks[canon.Mate] = lacks[canon.Mate] || n.Mate != 0
	}
	for field := range 14 {
		if lacks[field] {
			return field
		}
	}
	return 0
}

// plainNumber tells m, divided by 10 to the scale.
func plainNumber(m, scale int) string {
	sign, text := "", strconv.Itoa(m)
	if m < 0 {
		sign, text = "-", text[1:]
	}
	for len(text) <= scale {
		text = "0" + text
	}
	if scale == 0 {
		return sign + text
	}
	return sign + text[:len(text)-scale] + "." + text[len(text)-scale:]
}

// plainHead tells the head of x, in that layout.
func plainHead(x canon.Inst, layout int) string {
	s := fmt.Sprintf("NAME : %s\nTYPE : %s\nDIMENSION : %d\n", x.Name, []string{"", "TSP", "CVRP"}[x.Kind], len(x.Nodes))
	if x.Kind == 2 {
		s += fmt.Sprintf("CAPACITY : %d\n", x.Cap)
	}
	s += "EDGE_WEIGHT_TYPE : " + metricWords[x.Metric] + "\n"
	if x.Metric == 0 {
		s += "EDGE_WEIGHT_FORMAT : " + layoutWords[layout] + "\n"
	}
	return s
}

// plainPrint tells what P15.3 says, by its words.
func plainPrint(x canon.Inst) (string, int) {
	if field := lacking(x); field != 0 {
		return "", field
	}
	n := len(x.Nodes)
	s := plainHead(x, 1)
	if x.Metric != 0 {
		s += "NODE_COORD_SECTION\n"
		for i, node := range x.Nodes {
			s += fmt.Sprintf("%d %s %s\n", i+1, plainNumber(node.X, x.Scale), plainNumber(node.Y, x.Scale))
		}
	} else {
		s += "EDGE_WEIGHT_SECTION\n"
		for k, d := range x.Matrix {
			s += strconv.Itoa(d)
			if k%n == n-1 {
				s += "\n"
			} else {
				s += " "
			}
		}
	}
	if x.Kind == 2 {
		s += "DEMAND_SECTION\n"
		for i, node := range x.Nodes {
			s += fmt.Sprintf("%d %d\n", i+1, node.Demand)
		}
		s += "DEPOT_SECTION\n1\n-1\n"
	}
	return s + "EOF\n", 0
}

// short tells what may be long.
func short(x any) string {
	s := fmt.Sprintf("%+v", x)
	if len(s) > 600 {
		return s[:600] + ".."
	}
	return s
}

// zero tells whether nothing of x is set.
func zero(x canon.Inst) bool {
	return canon.Same(x, canon.Inst{})
}

// parses holds that s is that instance.
func parses(t *testing.T, s string, want canon.Inst) {
	t.Helper()
	if x, l := tsplib.Parse(s); len(l) != 0 || !canon.Same(x, want) {
		t.Errorf("Parse(%q) = %s, %v, want %s", short(s), short(x), l, short(want))
	}
}

// fails holds that s has that error there alone.
func fails(t *testing.T, s string, at int, code api.Errno) {
	t.Helper()
	if x, l := tsplib.Parse(s); !zero(x) || !slices.Equal(l, []api.Diag{{At: at, Code: code}}) {
		t.Errorf("Parse(%q) = %s, %v, want error %d at %d", short(s), short(x), l, code, at)
	}
}

// unwell holds that s tells an instance of which these fields are not as they may be.
func unwell(t *testing.T, s string, fields ...int) {
	t.Helper()
	var want []api.Diag
	for _, f := range fields {
		want = append(want, api.Diag{Code: api.Errno(300 + f)})
	}
	if x, l := tsplib.Parse(s); !zero(x) || !slices.Equal(l, want) {
		t.Errorf("Parse(%q) = %s, %v, want %v", short(s), short(x), l, want)
	}
}

// holdsParse holds that Parse answers what P15.2 says of s.
func holdsParse(t *testing.T, s string) {
	t.Helper()
	x, l := tsplib.Parse(s)
	want, diags := plainParse(s)
	if !canon.Same(x, want) || !slices.Equal(l, diags) {
		t.Fatalf("Parse(%q) = %s, %v, want %s, %v", short(s), short(x), l, short(want), diags)
	}
}

// holdsPrint holds that Print answers what P15.3 says of x, and that what is printed is parsed back.
func holdsPrint(t *testing.T, x canon.Inst) {
	t.Helper()
	s, field := tsplib.Print(x)
	want, lacks := plainPrint(x)
	if s != want || field != lacks {
		t.Fatalf("Print(%s) = %q, %d, want %q, %d", short(x), short(s), field, short(want), lacks)
	}
	if lacks == 0 {
		parses(t, s, x)
	}
}

// holdsTold holds that Told answers what P15.1 says of x.
func holdsTold(t *testing.T, x canon.Inst) {
	t.Helper()
	y, l := tsplib.Told(x)
	want, diags := plainTold(x)
	if !canon.Same(y, want) || !slices.Equal(l, diags) {
		t.Fatalf("Told(%s) = %s, %v, want %s, %v", short(x), short(y), l, short(want), diags)
	}
}

func chance(seed int) *rand.Rand { return rand.New(rand.NewSource(int64(seed))) }

func pick[T any](r *rand.Rand, l []T) T { return l[r.Intn(len(l))] }

// number tells a number up to the greatest, near its ends as often as not.
func number(r *rand.Rand) int {
	switch r.Intn(4) {
	case 0:
		return r.Intn(3)
	case 1:
		return most - r.Intn(3)
	case 2:
		return r.Intn(1000)
	}
	return r.Intn(most + 1)
}

// instance tells an instance by chance that a file can express, in its normal form.
func instance(r *rand.Rand, kind, metric, scale, n int) canon.Inst {
	x := canon.Inst{Name: pick(r, []string{"t", "a.B_9-", "EOF", strings.Repeat("n", 40)}), Kind: kind, Metric: metric, Nodes: make([]canon.Node, n)}
	if kind == 2 {
		x.Cap = max(1, number(r))
		for i := range n - 1 {
			x.Nodes[i+1].Demand = number(r)
		}
	}
	if metric == 0 {
		x.Matrix = make([]int, n*n)
		for k := range x.Matrix {
			if k/n != k%n {
				x.Matrix[k] = number(r)
			}
		}
		return x
	}
	for i := range n {
		x.Nodes[i].X, x.Nodes[i].Y = number(r)*(1-2*r.Intn(2)), number(r)*(1-2*r.Intn(2))
	}
	if scale > 0 { // one number alone may need it
		x.Scale = scale
		x.Nodes[r.Intn(n)].Y = 10*r.Intn(most/10) + 1 + r.Intn(9)
	}
	return x
}

// mirrored makes the matrix of x the same both ways, for the layouts that tell one half alone.
func mirrored(x canon.Inst) canon.Inst {
	x, n := copied(x), len(x.Nodes)
	for k := range x.Matrix {
		x.Matrix[k] = x.Matrix[min(k/n, k%n)*n+max(k/n, k%n)]
	}
	return x
}

// The samples: a tour, capacities, matrices, and both.
const (
	tour = "NAME : t\nTYPE : TSP\nDIMENSION : 2\nEDGE_WEIGHT_TYPE : EUC_2D\nNODE_COORD_SECTION\n1 0.0 0.5\n2 3.0 4.0\nEOF\n"
	cvrp = "NAME : c\nTYPE : CVRP\nDIMENSION : 2\nCAPACITY : 9\nEDGE_WEIGHT_TYPE : ATT\nNODE_COORD_SECTION\n1 -1 2\n2 3 -4\n" +
		"DEMAND_SECTION\n1 0\n2 7\nDEPOT_SECTION\n1\n-1\nEOF\n"
	matrix = "NAME : m\nTYPE : TSP\nDIMENSION : 3\nEDGE_WEIGHT_TYPE : EXPLICIT\nEDGE_WEIGHT_FORMAT : UPPER_ROW\nEDGE_WEIGHT_SECTION\n4 5\n6\nEOF\n"
	both   = "NAME : b\nTYPE : CVRP\nDIMENSION : 2\nCAPACITY : 9\nEDGE_WEIGHT_TYPE : EXPLICIT\nEDGE_WEIGHT_FORMAT : FULL_MATRIX\n" +
		"EDGE_WEIGHT_SECTION\n0 3\n4 0\nDEMAND_SECTION\n1 0\n2 5\nDEPOT_SECTION\n1\n-1\nEOF\n"
)

var (
	tourInst   = canon.Inst{Name: "t", Kind: 1, Metric: 1, Scale: 1, Nodes: []canon.Node{{Y: 5}, {X: 30, Y: 40}}}
	cvrpInst   = canon.Inst{Name: "c", Kind: 2, Metric: 5, Cap: 9, Nodes: []canon.Node{{X: -1, Y: 2}, {X: 3, Y: -4, Demand: 7}}}
	matrixInst = canon.Inst{Name: "m", Kind: 1, Nodes: make([]canon.Node, 3), Matrix: []int{0, 4, 5, 4, 0, 6, 5, 6, 0}}
	bothInst   = canon.Inst{Name: "b", Kind: 2, Cap: 9, Nodes: []canon.Node{{}, {Demand: 5}}, Matrix: []int{0, 3, 4, 0}}
)

func samples() []string { return []string{tour, cvrp, matrix, both} }

// cut tells s with the first old of it replaced, and where that stands.
func cut(t *testing.T, s, old, by string) (string, int) {
	t.Helper()
	at := strings.Index(s, old)
	if at < 0 {
		t.Fatalf("%q is not in %q", old, s)
	}
	return s[:at] + by + s[at+len(old):], at
}

// P15.1

// windows is an instance with time windows, pairs one of pickups and deliveries; both are well-formed.
func windows() canon.Inst {
	return canon.Inst{Name: "w", Kind: 3, Metric: 6, Scale: 1, Cap: 9, Fleet: 2, Nodes: []canon.Node{
		{X: 5, Due: 100}, {X: 10, Y: -20, Demand: 4, Ready: 1, Due: 50, Service: 2}, {Y: 30, Demand: 9, Due: 100},
	}}
}

func pairs() canon.Inst {
	return canon.Inst{Name: "p", Kind: 4, Metric: 1, Cap: 9, Nodes: []canon.Node{
		{X: 5, Due: 100}, {X: 10, Demand: 4, Ready: 1, Due: 50, Service: 2, Mate: 2}, {Y: 30, Demand: -4, Due: 100, Mate: 1},
	}}
}

// by tells x with a change.
func by(x canon.Inst, change func(x *canon.Inst)) canon.Inst {
	x = copied(x)
	change(&x)
	return x
}

func TestTold(t *testing.T) {
	for i, x := range []canon.Inst{tourInst, cvrpInst, matrixInst, bothInst, windows(), pairs(), {Name: "n", Kind: 1, Metric: 5, Nodes: make([]canon.Node, 1)}} {
		if y, l := tsplib.Told(x); !canon.Same(y, x) || len(l) != 0 {
			t.Error(i, y, l)
		}
		holdsTold(t, x)
	}
	for _, x := range []struct {
		scale       int
		nodes       []canon.Node
		want        int
		wantedNodes []canon.Node
	}{
		{1, []canon.Node{{X: 10}}, 0, []canon.Node{{X: 1}}},
		{2, []canon.Node{{X: 50}}, 1, []canon.Node{{X: 5}}},
		{2, []canon.Node{{X: 100, Y: -300}, {Y: 20}}, 1, []canon.Node{{X: 10, Y: -30}, {Y: 2}}},
		{6, []canon.Node{{}, {}}, 0, []canon.Node{{}, {}}},
		{6, []canon.Node{{X: most, Y: -most}}, 0, []canon.Node{{X: 100, Y: -100}}},
		{3, []canon.Node{{X: 1000}, {Y: 1}}, 3, []canon.Node{{X: 1000}, {Y: 1}}},
		{0, []canon.Node{{X: 10}}, 0, []canon.Node{{X: 10}}},
	} {
		y, l := tsplib.Told(canon.Inst{Name: "t", Kind: 1, Metric: 1, Scale: x.scale, Nodes: x.nodes})
		if len(l) != 0 || !canon.Same(y, canon.Inst{Name: "t", Kind: 1, Metric: 1, Scale: x.want, Nodes: x.wantedNodes}) {
			t.Error(x, y, l)
		}
	}
	fine := by(windows(), func(x *canon.Inst) { x.Scale, x.Nodes[0].X = 3, 500 })
	if y, l := tsplib.Told(fine); len(l) != 0 || y.Scale != 2 || y.Nodes[1] != (canon.Node{X: 1, Y: -2, Demand: 4, Ready: 1, Due: 50, Service: 2}) || y.Fleet != 2 {
		t.Error(y, l)
	}
	if y, l := tsplib.Told(canon.Inst{}); !zero(y) || !slices.Equal(l, []api.Diag{{Code: 301}, {Code: 302}, {Code: 305}, {Code: 307}}) {
		t.Error(y, l)
	}
}

// fault makes a field of an instance one that may not be, and leaves all others as they may be.
type fault struct {
	field  int
	change func(x *canon.Inst)
}

func faults() []fault {
	return []fault{
		{canon.Name, func(x *canon.Inst) { x.Name = "a b" }},
		{canon.Kind, func(x *canon.Inst) { x.Kind = 5 }},
		{canon.Metric, func(x *canon.Inst) { x.Metric = 7 }},
		{canon.Scale, func(x *canon.Inst) { x.Scale = 7 }},
		{canon.Cap, func(x *canon.Inst) { x.Cap = 0 }},
		{canon.Fleet, func(x *canon.Inst) { x.Fleet = 401 }},
		{canon.Matrix, func(x *canon.Inst) { x.Matrix = []int{0} }},
		{canon.Coord, func(x *canon.Inst) { x.Nodes[2].Y = -most - 1 }},
		{canon.Demand, func(x *canon.Inst) { x.Nodes[0].Demand = 1 }},
		{canon.Window, func(x *canon.Inst) { x.Nodes[1].Ready = 51 }},
		{canon.Service, func(x *canon.Inst) { x.Nodes[2].Service = -1 }},
		{canon.Mate, func(x *canon.Inst) { x.Nodes[1].Mate = 2 }},
		{canon.Nodes, func(x *canon.Inst) { x.Nodes = nil }}, // of nodes nothing is looked at then, nor is the matrix
	}
}

// Each set of faults, each told once, rising.
func TestToldOfFaults(t *testing.T) {
	all := faults()
	for set := range 1 << len(all) {
		x := windows()
		var want []api.Diag
		none := set>>(len(all)-1) == 1
		for i, f := range all {
			if set>>i&1 == 0 {
				continue
			}
			f.change(&x)
			if !none || f.field <= canon.Nodes {
				want = append(want, api.Diag{Code: api.Errno(300 + f.field)})
			}
		}
		y, l := tsplib.Told(x)
		if set == 0 && (len(l) != 0 || !canon.Same(y, x)) || set != 0 && (!slices.Equal(l, want) || !zero(y)) {
			t.Errorf("Told(%s) = %s, %v, want %v", short(x), short(y), l, want)
		}
	}
}

// A fault of many nodes is told once, and those of earlier nodes do not come ahead of lesser fields.
func TestToldOfFaultsOfManyNodes(t *testing.T) {
	for _, n := range []int{1, 2, 3, 17, 400, 401, 420} {
		x := canon.Inst{Name: "t", Kind: 2, Metric: 1, Cap: 1, Nodes: make([]canon.Node, n)}
		for i := range x.Nodes {
			x.Nodes[i] = canon.Node{X: most + 1, Demand: -1, Ready: 1, Service: 1, Mate: 1}
		}
		want := []api.Diag{{Code: 309}, {Code: 310}, {Code: 311}, {Code: 312}, {Code: 313}}
		if n > 400 {
			want = []api.Diag{{Code: 307}}
		}
		if y, l := tsplib.Told(x); !zero(y) || !slices.Equal(l, want) {
			t.Error(n, short(y), l)
		}
	}
	mates := by(pairs(), func(x *canon.Inst) { x.Nodes[1].Mate, x.Nodes[2].X = 1, most+1 })
	if y, l := tsplib.Told(mates); !zero(y) || !slices.Equal(l, []api.Diag{{Code: 309}, {Code: 313}}) {
		t.Error(y, l)
	}
}

func TestToldByChance(t *testing.T) {
	r := chance(1)
	values := []int{0, 0, 0, 1, 2, 3, 10, -1, -10, most, -most, most + 1, -most - 1, math.MinInt, math.MaxInt}
	for range 20000 {
		x := pick(r, []canon.Inst{tourInst, cvrpInst, matrixInst, bothInst, windows(), pairs()})
		x = copied(x)
		for range r.Intn(4) {
			n := &x.Nodes[r.Intn(len(x.Nodes))]
			field := pick(r, []*int{&x.Kind, &x.Metric, &x.Scale, &x.Cap, &x.Fleet, &n.X, &n.Y, &n.Demand, &n.Ready, &n.Due, &n.Service, &n.Mate})
			*field = pick(r, values)
		}
		if r.Intn(20) == 0 {
			x.Matrix = make([]int, r.Intn(10))
		}
		for k := range x.Nodes {
			if r.Intn(2) == 0 {
				x.Nodes[k].X, x.Nodes[k].Y = x.Nodes[k].X/100*100, x.Nodes[k].Y/10*10
			}
		}
		holdsTold(t, x)
	}
}

// P15.2: what is taken

func TestParse(t *testing.T) {
	for _, x := range []struct {
		s    string
		want canon.Inst
	}{{tour, tourInst}, {cvrp, cvrpInst}, {matrix, matrixInst}, {both, bothInst}} {
		holdsParse(t, x.s)
		end := strings.TrimSuffix(x.s, "EOF\n")
		spaced := strings.ReplaceAll(strings.ReplaceAll(x.s, " ", " \t "), "\n", " \n\t")
		for _, s := range []string{
			x.s, end, strings.TrimSuffix(x.s, "\n"), strings.TrimSuffix(end, "\n"), end + " \n\r\n\t", end + " EOF\t",
			strings.ReplaceAll(x.s, "\n", "\r\n"), strings.ReplaceAll(x.s, "\n", "\n\n \r\n\t\n"), "\n\n" + x.s + "\n\t", spaced,
			"COMMENT : x\n" + x.s, strings.Replace(x.s, "DIMENSION : ", "DIMENSION:0", 1), strings.Replace(x.s, "\n1 ", "\n001\t", 1),
		} {
			parses(t, s, x.want)
		}
	}
	for _, x := range []struct {
		s    string
		want canon.Inst
	}{
		{"NAME : x\nTYPE : TSP\nDIMENSION : 1\nEDGE_WEIGHT_TYPE : MAN_2D\nNODE_COORD_SECTION\n1 -0.000001 100\n",
			canon.Inst{Name: "x", Kind: 1, Metric: 3, Scale: 6, Nodes: []canon.Node{{X: -1, Y: most}}}},
		{"EDGE_WEIGHT_TYPE : MAX_2D\nDIMENSION : 1\nNAME : x\nTYPE : TSP\nEDGE_WEIGHT_FORMAT : UPPER_ROW\nNODE_COORD_SECTION\n1 100000000 -100000000\n",
			canon.Inst{Name: "x", Kind: 1, Metric: 4, Nodes: []canon.Node{{X: most, Y: -most}}}}, // the layout is not asked for
		{"NAME : x\nTYPE : CVRP\nCAPACITY : 100000000\nDIMENSION : 1\nEDGE_WEIGHT_TYPE : CEIL_2D\nNODE_COORD_SECTION\n1 00 -00.0\nDEMAND_SECTION\n1 -0\nDEPOT_SECTION\n1\n-1",
			canon.Inst{Name: "x", Kind: 2, Metric: 2, Cap: most, Nodes: []canon.Node{{}}}},
		{"NAME : x\nTYPE : TSP\nDIMENSION : 1\nEDGE_WEIGHT_TYPE : EXPLICIT\nEDGE_WEIGHT_FORMAT : LOWER_COL\nEDGE_WEIGHT_SECTION\nEOF",
			canon.Inst{Name: "x", Kind: 1, Nodes: make([]canon.Node, 1), Matrix: []int{0}}},
		{"NAME : x\nTYPE : CVRP\nDIMENSION : 1\nCAPACITY : 1\nEDGE_WEIGHT_TYPE : EXPLICIT\nEDGE_WEIGHT_FORMAT : UPPER_DIAG_ROW\nEDGE_WEIGHT_SECTION\n\n0\nDEMAND_SECTION\n1 0\nDEPOT_SECTION\n1\n-1\n",
			canon.Inst{Name: "x", Kind: 2, Cap: 1, Nodes: make([]canon.Node, 1), Matrix: []int{0}}},
	} {
		parses(t, x.s, x.want)
		holdsParse(t, x.s)
	}
}

// wrong is a change of a text, and what is wrong then, so many bytes behind the change's beginning.
type wrong struct {
	old, by string
	at      int
	code    api.Errno
}

// failWith holds that s fails so with each of the changes.
func failWith(t *testing.T, s string, changes []wrong) {
	t.Helper()
	for _, x := range changes {
		changed, at := cut(t, s, x.old, x.by)
		fails(t, changed, at+x.at, x.code)
		holdsParse(t, changed)
		ahead := " \n\t\r\n\n" // what is ahead counts, as bytes
		fails(t, ahead+changed, len(ahead)+at+x.at, x.code)
	}
}

// far is a change of s, and what is wrong then, at the first mark.
type far struct {
	s, old, by, mark string
	code             api.Errno
}

func failFarWith(t *testing.T, changes []far) {
	t.Helper()
	for _, x := range changes {
		changed, _ := cut(t, x.s, x.old, x.by)
		fails(t, changed, strings.Index(changed, x.mark), x.code)
		holdsParse(t, changed)
	}
}

func TestHeadsThatAreWrong(t *testing.T) {
	for _, s := range samples() {
		failWith(t, s, []wrong{
			{"NAME", "name", 0, 3}, {"NAME", "NAMES", 0, 140}, {"NAME : ", "NAME : x ", 7, 141}, {"TYPE : ", "TYPE : T", 7, 141},
			{"DIMENSION : ", "DIMENSION : -", 12, 141}, {"DIMENSION : ", "DIMENSION : 40", 12, 141}, {"EDGE_WEIGHT_TYPE : ", "EDGE_WEIGHT_TYPE : x", 19, 141},
			{"TYPE", "NAME : u\nTYPE", 0, 140}, {"TYPE", "x\nTYPE", 0, 3}, {"TYPE", "EOF\nTYPE", 0, 142}, {"TYPE", " DEMAND_SECTION\nTYPE", 0, 142},
		})
		fails(t, s[:9], 9, 142)
	}
	failWith(t, cvrp, []wrong{{"CAPACITY : 9", "CAPACITY : 0", 11, 141}})
	failWith(t, matrix, []wrong{{"EDGE_WEIGHT_FORMAT : UPPER_ROW\n", "", 0, 142}, {"UPPER_ROW", "upper_row", 0, 141}})
	failFarWith(t, []far{
		{cvrp, "CAPACITY : 9\n", "", "NODE_COORD", 142}, {tour, "TYPE : TSP", "TYPE : CVRP", "NODE_COORD", 142},
		{tour, "EUC_2D", "EXPLICIT", "NODE_COORD", 142}, {both, "EXPLICIT", "ATT", "EDGE_WEIGHT_SECTION", 3},
	})
	fails(t, "", 0, 142)
	fails(t, "\n \n", 3, 142)
	fails(t, "x", 0, 3)
	fails(t, "EOF", 0, 142)
}

// titles are the titles of s, in order.
func titles(s string) []string {
	var l []string
	for _, title := range []string{"NODE_COORD_SECTION", "EDGE_WEIGHT_SECTION", "DEMAND_SECTION", "DEPOT_SECTION", "1", "-1", "EOF"} {
		if strings.Contains(s, "\n"+title+"\n") {
			l = append(l, title)
		}
	}
	return l
}

// ErrLine at the row's From of each title that is another one, and ErrEnd of each that lacks.
func TestTitles(t *testing.T) {
	for _, s := range samples() {
		for i, title := range titles(s) {
			for _, other := range []string{
				title + " x", "x " + title, title + " " + title, title + ":", title + " :", " " + title + " : 1", "\t " + title + "\tx", "X" + title, title + "X", title + "\r\r",
				"x", "NODE_COORD_SECTIONS", "2", "0", "01", "1 1", "-1 -1", "- 1", "--1", "+1", "-01", "1.0", "eof", "Eof", "EOF EOF", "END", "\xff", "é", "TOUR_SECTION", "X_SECTION",
			} {
				changed, at := cut(t, s, "\n"+title+"\n", "\n"+other+"\n")
				holdsParse(t, changed)
				// A row ahead of the first section is the head's, unless it ends it.
				if key, _, _ := strings.Cut(other, ":"); i > 0 || strings.HasSuffix(strings.Trim(key, " \t"), "_SECTION") {
					fails(t, changed, at+1, 3)
				}
			}
			for _, small := range []string{strings.ToLower(title), strings.ToLower(title[:1]) + title[1:]} {
				if small != title {
					changed, at := cut(t, s, "\n"+title+"\n", "\n  "+small+"\n")
					fails(t, changed, at+1, 3)
				}
			}
			changed, at := cut(t, s, "\n"+title+"\n", "\n \t"+title+"\t \n")
			if x, l := tsplib.Parse(changed); len(l) != 0 || x.Name == "" {
				t.Errorf("Parse(%q) = %s, %v", changed, short(x), l)
			}
			if title != "EOF" {
				fails(t, s[:at+1], at+1, 4)
				fails(t, s[:at+1]+" \n\t", at+4, 4)
			}
			for _, next := range titles(s)[i+1:] {
				changed, at := cut(t, s, "\n"+title+"\n", "\n"+next+"\n")
				holdsParse(t, changed)
				if strings.HasSuffix(next, "SECTION") || i > 0 {
					fails(t, changed, at+1, 3)
				}
			}
		}
	}
	// What ends the head is the first row that is asked for.
	headRows, _, _ := strings.Cut(tour, "NODE")
	for _, first := range []string{"EOF", "EOF :", "EDGE_WEIGHT_SECTION", "DEMAND_SECTION", "X_SECTION", "NODE_COORD_SECTION : 2"} {
		fails(t, headRows+first, len(headRows), 3)
		fails(t, headRows+"\n\t"+first+"\n1 0 0\n2 0 0\n", len(headRows)+1, 3)
	}
	fails(t, headRows, len(headRows), 4)
	fails(t, headRows+"\n \n", len(headRows)+3, 4)
}

func TestEnds(t *testing.T) {
	for _, s := range samples() {
		rest := strings.TrimSuffix(s, "EOF\n")
		n := len(rest)
		for _, behind := range []string{"x", "EOF", "1", "-1", "NAME : t", "NODE_COORD_SECTION", "\xff", " x y", "x\r"} {
			fails(t, rest+"EOF\n"+behind, n+4, 4)
			fails(t, rest+"EOF\r\n\n \t\n"+behind+"\nx\n", n+9, 4)
			if behind != "EOF" {
				fails(t, rest+behind, n, 3)
				fails(t, rest+"\n"+behind+"\nEOF\n", n+1, 3)
				fails(t, rest+behind+"\nEOF\nx\n", n, 3)
			}
		}
		// A carriage return is no end of a line by itself.
		fails(t, rest+"EOF\r", n, 3)
		fails(t, rest+"EOF\n\r", n+4, 4)
		fails(t, rest+"EOF x\nx", n, 3)
	}
}

func TestNodesThatAreWrong(t *testing.T) {
	failWith(t, tour, []wrong{
		{"1 0.0 0.5", "1 0.0", 0, 3}, {"1 0.0 0.5", "1", 0, 3}, {"1 0.0 0.5", "1 0.0 0.5 0", 0, 3}, {"1 0.0 0.5", "0.0 0.5", 0, 3},
		{"1 0.0 0.5", "2 0.0 0.5", 0, 3}, {"1 0.0 0.5", "0 0.0 0.5", 0, 3}, {"1 0.0 0.5", "-1 0.0 0.5", 0, 3}, {"1 0.0 0.5", "x 0.0 0.5", 0, 3},
		{"1 0.0 0.5", "1.0 0.0 0.5", 0, 3}, {"1 0.0 0.5", "+1 0 0", 0, 3}, {"1 0.0 0.5", "0000000000001 0 0", 0, 3}, {"1 0.0 0.5", "100000001 0 0", 0, 3},
		{"1 0.0 0.5", " \t 2 0 0", 0, 3}, {"1 0.0 0.5", "  1 0 0 0 ", 0, 3}, {"1 0.0 0.5", "\t1 0\t", 0, 3}, {"1 0.0 0.5", "2 x y", 0, 3}, {"1 0.0 0.5", "1 x", 0, 3}, {"1 0.0 0.5", "1 x y z", 0, 3},
		{"1 0.0 0.5", "1 x 0.5", 2, 20}, {"1 0.0 0.5", "1 0.0 y", 6, 20}, {"1 0.0 0.5", "1 x y", 2, 20}, {"1 0.0 0.5", "\t1  0  y \t", 7, 20},
		{"1 0.0 0.5", "1 .5 0", 2, 20}, {"1 0.0 0.5", "1 5. 0", 2, 20}, {"1 0.0 0.5", "1 1e3 0", 2, 20}, {"1 0.0 0.5", "1 0 0.0000000", 4, 20}, {"1 0.0 0.5", "1 0 0000000000000", 4, 20},
		{"1 0.0 0.5", "1 100000001 0", 2, 2}, {"1 0.0 0.5", "1 0 -100000001", 4, 2}, {"1 0.0 0.5", "1 0 99999999.11", 4, 2}, {"1 0.0 0.5", "1 100.0000001 0", 2, 20},
		{"1 0.0 0.5", "1 100000001 x", 2, 2}, {"1 0.0 0.5", "1 x 100000001", 2, 20}, {"1 0.0 0.5", "1 999999999999 0", 2, 2}, {"1 0.0 0.5", "1 0 999999999999.999999", 4, 2},
		{"2 3.0 4.0", "1 3.0 4.0", 0, 3}, {"2 3.0 4.0", "3 3.0 4.0", 0, 3}, {"2 3.0 4.0", "2 3.0", 0, 3}, {"2 3.0 4.0", "2 3.0 4.0 5", 0, 3}, {"2 3.0 4.0", "EOF", 0, 3},
		{"2 3.0 4.0", "2 3.0 z", 6, 20}, {"2 3.0 4.0", "2 200000000 1", 2, 2}, {"2 3.0 4.0\nEOF\n", "", 0, 4}, {"2 3.0 4.0\nEOF\n", "\n \t", 3, 4}, {"2 3.0 4.0\n", "", 0, 3},
		{"2 3.0 4.0", "2 3.0 4.0\n3 5 6", 10, 3}, {"1 0.0 0.5\n2 3.0 4.0", "0 0.0 0.5\n1 3.0 4.0", 0, 3}, {"1 0.0 0.5\n2 3.0 4.0", "2 3.0 4.0\n1 0.0 0.5", 0, 3},
		{"1 0.0 0.5\n2 3.0 4.0", "1 0.0 x\n1 3.0 4.0", 6, 20}, {"1 0.0 0.5\n2 3.0 4.0\nEOF\n", "1 0.0 x\n", 6, 20}, {"1 0.0 0.5\n2 3.0 4.0", "2 0.0 0.5\n2 3.0 x", 0, 3},
	})
	failFarWith(t, []far{{tour, "DIMENSION : 2", "DIMENSION : 1", "2 3.0 4.0", 3}, {tour, "DIMENSION : 2", "DIMENSION : 3", "EOF", 3}, {cvrp, "DIMENSION : 2", "DIMENSION : 3", "DEMAND", 3}})
	for _, node := range []string{"1 0 0.5", "01 0.0 0.5", "000000000001 -0 0.5", "1 000000000000 000000000000.500000", "\t 1\t-0.000000  0.50 "} {
		s, _ := cut(t, tour, "1 0.0 0.5", node)
		parses(t, s, tourInst)
	}
}

func TestDemandsThatAreWrong(t *testing.T) {
	for _, s := range []string{cvrp, strings.Replace(both, "2 5\n", "2 7\n", 1)} {
		failWith(t, s, []wrong{
			{"\n1 0\n", "\n1\n", 1, 3}, {"\n1 0\n", "\n1 0 0\n", 1, 3}, {"\n1 0\n", "\n \t1 0 0\n", 1, 3}, {"\n1 0\n", "\n0 0\n", 1, 3}, {"\n1 0\n", "\n2 0\n", 1, 3}, {"\n1 0\n", "\n -1 0\n", 1, 3},
			{"\n1 0\n", "\nx 0\n", 1, 20}, {"\n1 0\n", "\nx y\n", 1, 20}, {"\n1 0\n", "\n 1  y \n", 5, 20}, {"\n1 0\n", "\n2 y\n", 3, 20}, {"\n1 0\n", "\n1.0 0\n", 1, 20}, {"\n1 0\n", "\n1 0.0\n", 3, 20},
			{"\n1 0\n", "\n1 100000001\n", 3, 2}, {"\n1 0\n", "\n1 -100000001\n", 3, 2}, {"\n1 0\n", "\n100000001 x\n", 1, 2}, {"\n1 0\n", "\n2 100000001\n", 3, 2}, {"\n1 0\n", "\n1 0000000000000\n", 3, 20},
			{"\n2 7\n", "\n1 7\n", 1, 3}, {"\n2 7\n", "\n3 7\n", 1, 3}, {"\n2 7\n", "\n2\n", 1, 3}, {"\n2 7\n", "\n2 7 7\n", 1, 3}, {"\n2 7\n", "\n2 z\n", 3, 20}, {"\n2 7\n", "\n", 1, 3},
			{"\n2 7\n", "\n2 7\n3 7\n", 5, 3}, {"\n1 0\n2 7\n", "\n2 7\n1 0\n", 1, 3}, {"\n1 0\n2 7\n", "\n0 0\n1 7\n", 1, 3}, {"\n1 0\n2 7\n", "\n1 x\n", 3, 20},
			{"\n2 7\nDEPOT_SECTION\n1\n-1\nEOF\n", "\n", 1, 4}, {"\n1 0\n2 7\nDEPOT_SECTION\n1\n-1\nEOF\n", "\n \n\t", 4, 4}, {"\nDEPOT_SECTION\n1\n-1\nEOF\n", "", 0, 4},
			{"\n1\n-1\nEOF\n", "\n", 1, 4}, {"\n-1\nEOF\n", "\n", 1, 4}, {"\n1\n-1\n", "\n-1\n1\n", 1, 3}, {"\n1\n-1\n", "\n1 -1\n", 1, 3}, {"\n1\n-1\n", "\n1\n2\n-1\n", 3, 3}, {"\n1\n-1\n", "\n1\n", 3, 3}, {"\n1\n-1\n", "\n-1\n", 1, 3},
			{"DEMAND_SECTION\n1 0\n2 7\nDEPOT_SECTION\n1\n-1\n", "DEPOT_SECTION\n1\n-1\nDEMAND_SECTION\n1 0\n2 7\n", 0, 3}, {"DEMAND_SECTION\n1 0\n2 7\n", "", 0, 3}, {"DEPOT_SECTION\n1\n-1\n", "", 0, 3},
		})
	}
	// Sections that are of no tour.
	failWith(t, tour, []wrong{{"EOF", "DEMAND_SECTION\n1 0\n2 0\nDEPOT_SECTION\n1\n-1\nEOF", 0, 3}, {"EOF", "DEPOT_SECTION\n1\n-1\nEOF", 0, 3}, {"EOF", "EDGE_WEIGHT_SECTION\n0 0 0 0\nEOF", 0, 3}})
	failWith(t, matrix, []wrong{{"EOF", "NODE_COORD_SECTION\n1 0 0\n2 0 0\n3 0 0\nEOF", 0, 3}, {"EDGE_WEIGHT_SECTION", "NODE_COORD_SECTION", 0, 3}})
	for _, x := range []struct {
		by   string
		want int
	}{{"2 0", 0}, {"02 -0", 0}, {"2 000000000007", 7}, {"2 100000000", most}, {"\t2 \t1\t", 1}} {
		s, _ := cut(t, cvrp, "2 7", x.by)
		parses(t, s, by(cvrpInst, func(y *canon.Inst) { y.Nodes[1].Demand = x.want }))
	}
}

// matrixFile is a file of a matrix, up to its numbers.
func matrixFile(layout, n int) string {
	return fmt.Sprintf("NAME : m\nTYPE : TSP\nDIMENSION : %d\nEDGE_WEIGHT_TYPE : EXPLICIT\nEDGE_WEIGHT_FORMAT : %s\nEDGE_WEIGHT_SECTION\n", n, layoutWords[layout])
}

// broken tells numbers with a line feed, not a blank, behind each one whose bit is set.
func broken(numbers []string, set int) string {
	s := ""
	for i, n := range numbers {
		if s += n; set>>i&1 == 1 || i == len(numbers)-1 {
			s += "\n"
		} else {
			s += " "
		}
	}
	return s
}

// Each layout, with the rows broken anywhere.
func TestMatrices(t *testing.T) {
	for layout := 1; layout <= 7; layout++ {
		for n := 1; n <= 5; n++ {
			at := cells(layout, n)
			want := canon.Inst{Name: "m", Kind: 1, Nodes: make([]canon.Node, n), Matrix: make([]int, n*n)}
			var numbers []string
			for k, c := range at {
				d := 10*k + 1
				if c[0] == c[1] {
					d = 0
				}
				numbers = append(numbers, strconv.Itoa(d))
				want.Matrix[c[0]*n+c[1]] = d
				if layout > 1 {
					want.Matrix[c[1]*n+c[0]] = d
				}
			}
			top := matrixFile(layout, n)
			step := 1
			if len(at) > 11 { // not all of so many
				step = 1 << (len(at) - 1) / 401
			}
			for set := 0; set < 1<<max(0, len(at)-1); set += step {
				text := broken(numbers, set)
				s := top + text
				parses(t, s, want)
				parses(t, s+"EOF\n", want)
				fails(t, s+"0\n", len(s), 3)
				fails(t, s+"0\nEOF\n", len(s), 3)
				if len(at) == 0 {
					continue
				}
				last := len(s) - 1
				fails(t, s[:last]+"  7 8\n", last+2, 3)
				fails(t, s[:last]+"\tEOF\n", last+1, 3)
				ahead := last - len(numbers[len(numbers)-1])
				fails(t, s[:ahead], ahead, 4)
				fails(t, s[:ahead]+"\n \n", ahead+3, 4)
				fails(t, s[:ahead]+"\nEOF\n", ahead+1, 20)
				fails(t, s[:ahead]+"x\nEOF\n", ahead, 20)
			}
		}
	}
	for _, x := range []struct {
		s    string
		want []int
	}{
		{matrixFile(2, 3) + "4 5 6", []int{0, 4, 5, 4, 0, 6, 5, 6, 0}}, {matrixFile(3, 3) + "4\n5 6", []int{0, 4, 5, 4, 0, 6, 5, 6, 0}},
		{matrixFile(4, 3) + "0 4 5 0 6 0", []int{0, 4, 5, 4, 0, 6, 5, 6, 0}}, {matrixFile(5, 3) + "0\n4 0\n5 6 0", []int{0, 4, 5, 4, 0, 6, 5, 6, 0}},
		{matrixFile(6, 3) + "4\n5\n6", []int{0, 4, 5, 4, 0, 6, 5, 6, 0}}, {matrixFile(7, 3) + "\n4 5\n\n6\n", []int{0, 4, 5, 4, 0, 6, 5, 6, 0}},
		{matrixFile(1, 3) + "0 1 2\n3 0 4\n5 6 0", []int{0, 1, 2, 3, 0, 4, 5, 6, 0}},
		{matrixFile(1, 2) + "-0 100000000 000000000001 0", []int{0, most, 1, 0}}, {matrixFile(2, 2) + "100000000\nEOF", []int{0, most, most, 0}},
	} {
		n := 2
		if len(x.want) > 4 {
			n = 3
		}
		parses(t, x.s, canon.Inst{Name: "m", Kind: 1, Nodes: make([]canon.Node, n), Matrix: x.want})
	}
}

func TestMatricesThatAreWrong(t *testing.T) {
	failWith(t, matrix, []wrong{
		{"4 5\n6", "4 5", 4, 20}, {"4 5\n6\nEOF\n", "4 5\n", 4, 4}, {"4 5\n6\nEOF\n", "", 0, 4}, {"4 5\n6\n", "", 0, 20},
		{"4 5\n6", "x 5\n6", 0, 20}, {"4 5\n6", "4  x\n6", 3, 20}, {"4 5\n6", "4 5\n x", 5, 20}, {"4 5\n6", "4 5.0\n6", 2, 20}, {"4 5\n6", "4 y\nx", 2, 20},
		{"4 5\n6", "4 100000001\n6", 2, 2}, {"4 5\n6", "4 5\n-100000001", 4, 2}, {"4 5\n6", "4 5\n0000000000006", 4, 20}, {"4 5\n6", "4 100000001\nx", 2, 2},
		{"4 5\n6", "4 5\n6 7", 6, 3}, {"4 5\n6", "4 5 6 7", 6, 3}, {"4 5\n6", "4 5 6 x", 6, 3}, {"4 5\n6", "4 5\n6\n7", 6, 3}, {"4 5\n6", "4 5\n6\n7\nEOF", 6, 3}, {"4 5\n6", "4 x\n6 7", 2, 20}, {"4 5\n6", "4 5\n6\n x y", 6, 3},
	})
	failFarWith(t, []far{
		{matrix, "DIMENSION : 3", "DIMENSION : 2", "5\n6", 3}, {matrix, "DIMENSION : 3", "DIMENSION : 4", "EOF", 20}, {matrix, "DIMENSION : 3", "DIMENSION : 1", "4 5", 3},
		{both, "DIMENSION : 2", "DIMENSION : 1", "3\n4", 3}, {both, "DIMENSION : 2", "DIMENSION : 3", "DEMAND", 20},
	})
	failWith(t, both, []wrong{
		{"0 3\n4 0\n", "0 3\n4\n", 6, 20}, {"0 3\n4 0\n", "0 3\n4 0 0\n", 8, 3}, {"0 3\n4 0\n", "0 3\n4 0\n0\n", 8, 3}, {"4 0\n", "4 0 DEMAND_SECTION\n", 4, 3}, {"0 3\n4 0\n", "", 0, 20},
	})
}

func TestScales(t *testing.T) {
	top := "NAME : s\nTYPE : TSP\nDIMENSION : 3\nEDGE_WEIGHT_TYPE : EUC_2D\nNODE_COORD_SECTION\n"
	file := func(l []string) (string, []int) {
		s := top
		var at []int
		for i := range 3 {
			s += strconv.Itoa(i+1) + " "
			at = append(at, len(s), len(s)+len(l[2*i])+1)
			s += l[2*i] + " " + l[2*i+1] + "\n"
		}
		return s, at
	}
	for _, x := range []struct {
		numbers string
		scale   int
		want    [6]int
	}{
		{"0 0 0 0 0 0", 0, [6]int{}}, {"0.0 0 0.000000 0 -0.00 0", 0, [6]int{}}, {"10 20 30 40 50 60", 0, [6]int{10, 20, 30, 40, 50, 60}},
		{"1 2.0 3.00 4.000 5.0000 6.00000", 0, [6]int{1, 2, 3, 4, 5, 6}}, {"1 2 3 4 5 6.5", 1, [6]int{10, 20, 30, 40, 50, 65}}, {"1.5 2 3 4 5 6", 1, [6]int{15, 20, 30, 40, 50, 60}},
		{"1.5 2.25 3.125 -4.0625 5 60", 4, [6]int{15000, 22500, 31250, -40625, 50000, 600000}}, {"100 -100 0.000001 0 1 99.999999", 6, [6]int{most, -most, 1, 0, 1000000, 99999999}},
		{"100000000 -100000000 0 1 2 3", 0, [6]int{most, -most, 0, 1, 2, 3}}, {"10000000 0.1 0 0 0 0", 1, [6]int{most, 1, 0, 0, 0, 0}}, {"0.10 0.20 0 -10.0 0 0", 1, [6]int{1, 2, 0, -100, 0, 0}},
	} {
		s, _ := file(strings.Fields(x.numbers))
		w := x.want
		parses(t, s, canon.Inst{Name: "s", Kind: 1, Metric: 1, Scale: x.scale, Nodes: []canon.Node{{X: w[0], Y: w[1]}, {X: w[2], Y: w[3]}, {X: w[4], Y: w[5]}}})
		holdsParse(t, s)
	}
	// Each set of numbers that do not fit the scale of those that are left: the first one is told.
	for scale := 1; scale <= 6; scale++ {
		fine := "0." + strings.Repeat("0", scale-1) + "1"
		great := strconv.Itoa(most/[]int{1, 10, 100, 1000, 10000, 100000, 1000000}[scale] + 1)
		for set := 1; set < 63; set++ {
			l := make([]string, 6)
			first := -1
			for k := range l {
				l[k] = fine
				if set>>k&1 == 1 {
					l[k] = []string{great, "-" + great, "100000000", great + ".0"}[(set+k)%4]
					if first < 0 {
						first = k
					}
				}
			}
			s, at := file(l)
			fails(t, s, at[first], 2)
			fails(t, s+" EOF\n", at[first], 2)
			holdsParse(t, s)
			// What is wrong with rows comes ahead of that, even behind it.
			fails(t, s+"x", len(s), 3)
			fails(t, s+"EOF\nx", len(s)+4, 4)
		}
	}
	// So it is with those of the sections behind; but it comes ahead of what is not well-formed.
	s, at := cut(t, cvrp, "1 -1 2\n2 3 -4", "1 0.000001 2\n2 3 101")
	fails(t, s, at+17, 2)
	unfit, _ := cut(t, s, "2 7", "2 -7")
	fails(t, unfit, at+17, 2)
	late, _ := cut(t, s, "2 7", "2 x")
	fails(t, late, strings.Index(late, "x"), 20)
	unfit, _ = cut(t, tour, "DIMENSION", "CAPACITY : 3\nDIMENSION")
	unfit, at = cut(t, unfit, "3.0 4.0", "0.000001 101")
	fails(t, unfit, at+9, 2)
}

// What is told, but is not well-formed.
func TestUnwell(t *testing.T) {
	for _, x := range []struct {
		s, old, by string
		fields     []int
	}{
		{tour, "DIMENSION", "CAPACITY : 1\nDIMENSION", []int{canon.Cap}},
		{matrix, "EDGE_WEIGHT_SECTION", "CAPACITY : 100000000\nEDGE_WEIGHT_SECTION", []int{canon.Cap}},
		{matrix, "4 5", "4 -5", []int{canon.Matrix}}, {matrix, "4 5\n6", "-4 5\n-100000000", []int{canon.Matrix}},
		{both, "0 3", "1 3", []int{canon.Matrix}}, {both, "4 0", "4 -1", []int{canon.Matrix}}, {both, "0 3\n4 0", "1 -3\n4 1", []int{canon.Matrix}},
		{both, "\n1 0\n", "\n1 1\n", []int{canon.Demand}}, {both, "2 5", "2 -5", []int{canon.Demand}}, {both, "1 0\n2 5", "1 -1\n2 -100000000", []int{canon.Demand}},
		{both, "0 3\n4 0\nDEMAND_SECTION\n1 0", "1 3\n4 0\nDEMAND_SECTION\n1 1", []int{canon.Matrix, canon.Demand}},
		{cvrp, "\n1 0\n", "\n1 100000000\n", []int{canon.Demand}}, {cvrp, "2 7", "2 -1", []int{canon.Demand}},
		{matrix, "EDGE_WEIGHT_SECTION\n4 5", "CAPACITY : 9\nEDGE_WEIGHT_SECTION\n4 -5", []int{canon.Cap, canon.Matrix}},
	} {
		s, _ := cut(t, x.s, x.old, x.by)
		unwell(t, s, x.fields...)
		unwell(t, strings.TrimSuffix(s, "EOF\n"), x.fields...)
		holdsParse(t, s)
		fails(t, s+"x", len(s), 4) // what is wrong with the text comes ahead, and alone
	}
}

// P15.2: many texts

// wordsOf tells the rows of s as words, with their blanks gone.
func wordsOf(s string) [][]string {
	var rows [][]string
	for _, r := range plainRows(s, 0) {
		var l []string
		for _, w := range r.words {
			l = append(l, w.text)
		}
		rows = append(rows, l)
	}
	return rows
}

// textOf puts rows together, one blank between each two words, and a line feed behind each row.
func textOf(rows [][]string) string {
	s := ""
	for _, r := range rows {
		s += strings.Join(r, " ") + "\n"
	}
	return s
}

var strange = []string{
	"x", "0", "1", "-1", "2", "01", "-0", "1.5", "-2.25", "0.000001", "0.0000001", "200", "-", "+1", "1e3", ".5", "5.", "--1", "1:", ":", "1.5.2",
	"100000000", "100000001", "-100000000", "-100000001", "999999999999", "1000000000000", "000000000001", "0000000000001", "é", "\xff", "\r", "\x00",
	"EOF", "NODE_COORD_SECTION", "EDGE_WEIGHT_SECTION", "DEMAND_SECTION", "DEPOT_SECTION", "EXPLICIT", "EUC_2D", "CVRP", "TSP", "LOWER_COL",
}

// changed tells rows with one of them replaced by any many.
func changed(rows [][]string, i int, by ...[]string) [][]string {
	return slices.Concat(rows[:i], by, rows[i+1:])
}

// Each word another one, gone, or with another one ahead or behind; each row gone, or twice; each two in each other's place.
func TestParseOfEachWord(t *testing.T) {
	for _, s := range samples() {
		rows := wordsOf(s)
		for i, row := range rows {
			for k := range row {
				holdsParse(t, textOf(changed(rows, i, slices.Concat(row[:k], row[k+1:]))))
				for _, w := range strange {
					holdsParse(t, textOf(changed(rows, i, slices.Concat(row[:k], []string{w}, row[k+1:]))))
					holdsParse(t, textOf(changed(rows, i, slices.Concat(row[:k], []string{w}, row[k:]))))
				}
			}
			for _, w := range strange {
				holdsParse(t, textOf(changed(rows, i, append(slices.Clone(row), w))))
				holdsParse(t, textOf(changed(rows, i, []string{w}, row)))
			}
			holdsParse(t, textOf(changed(rows, i)))
			holdsParse(t, textOf(changed(rows, i, row, row)))
			for k := range i {
				swapped := slices.Clone(rows)
				swapped[i], swapped[k] = swapped[k], swapped[i]
				holdsParse(t, textOf(swapped))
			}
		}
	}
}

// Each byte another one, gone, or with another one ahead; each beginning, and each end.
func TestParseOfEachByte(t *testing.T) {
	for _, s := range samples() {
		for at := range len(s) + 1 {
			holdsParse(t, s[:at])
			holdsParse(t, s[at:])
			for b := range 256 {
				c := string([]byte{byte(b)})
				holdsParse(t, s[:at]+c+s[at:])
				if at < len(s) {
					holdsParse(t, s[:at]+c+s[at+1:])
				}
			}
			if at < len(s) {
				holdsParse(t, s[:at]+s[at+1:])
			}
		}
	}
}

// Each two rows wrong at once: what is wrong first is told.
func TestTheFirstErrorEndsIt(t *testing.T) {
	spoilers := []func(row []string) [][]string{
		func(row []string) [][]string { return nil },
		func(row []string) [][]string { return [][]string{append(slices.Clone(row), "x")} },
		func(row []string) [][]string { return [][]string{row[:len(row)-1]} },
		func(row []string) [][]string { return [][]string{append(slices.Clone(row[:len(row)-1]), "x")} },
		func(row []string) [][]string { return [][]string{append([]string{"7"}, row[1:]...)} },
		func(row []string) [][]string { return [][]string{append(slices.Clone(row[:len(row)-1]), "100000001")} },
		func(row []string) [][]string { return [][]string{append(slices.Clone(row[:len(row)-1]), "-1")} },
		func(row []string) [][]string {
			return [][]string{append(slices.Clone(row[:len(row)-1]), "0.000001")}
		},
		func(row []string) [][]string { return [][]string{{"EOF"}, row} },
	}
	for _, s := range samples() {
		rows := wordsOf(s)
		for i := range rows {
			for k := range i {
				for _, late := range spoilers {
					for _, early := range spoilers {
						both := changed(rows, i, late(rows[i])...)
						holdsParse(t, textOf(changed(both, k, early(rows[k])...)))
					}
				}
			}
		}
	}
}

// spell tells m, divided by 10 to the scale, in one of the ways that are read as that.
func spell(r *rand.Rand, m, scale int) string {
	s := plainNumber(m, scale)
	whole, behind, _ := strings.Cut(strings.TrimPrefix(s, "-"), ".")
	if r.Intn(3) == 0 {
		whole = strings.Repeat("0", r.Intn(13-len(whole))) + whole
	}
	if r.Intn(3) == 0 {
		behind = strings.TrimRight(behind, "0")
	} else if r.Intn(3) == 0 {
		behind += strings.Repeat("0", r.Intn(7-len(behind)))
	}
	if behind != "" {
		whole += "." + behind
	}
	if s[0] == '-' || m == 0 && r.Intn(3) == 0 {
		whole = "-" + whole
	}
	return whole
}

// rowsBy tells x as rows of words, its matrix in that layout, with numbers spelled and broken up by chance.
func rowsBy(r *rand.Rand, x canon.Inst, layout int) [][]string {
	rows := wordsOf(plainHead(x, layout))
	n := len(x.Nodes)
	if x.Metric != 0 {
		rows = append(rows, []string{"NODE_COORD_SECTION"})
		for i, node := range x.Nodes {
			number := strings.Repeat("0", r.Intn(3)) + strconv.Itoa(i+1)
			rows = append(rows, []string{number, spell(r, node.X, x.Scale), spell(r, node.Y, x.Scale)})
		}
	} else {
		rows = append(rows, []string{"EDGE_WEIGHT_SECTION"})
		var row []string
		for _, c := range cells(layout, n) {
			row = append(row, strconv.Itoa(x.Matrix[c[0]*n+c[1]]))
			if r.Intn(n+1) == 0 {
				rows, row = append(rows, row), nil
			}
		}
		if len(row) > 0 {
			rows = append(rows, row)
		}
	}
	if x.Kind == 2 {
		rows = append(rows, []string{"DEMAND_SECTION"})
		for i, node := range x.Nodes {
			rows = append(rows, []string{strconv.Itoa(i + 1), strconv.Itoa(node.Demand)})
		}
		rows = append(rows, []string{"DEPOT_SECTION"}, []string{"1"}, []string{"-1"})
	}
	if r.Intn(2) == 0 {
		rows = append(rows, []string{"EOF"})
	}
	return rows
}

// lay puts rows together, with blanks and ends of lines by chance.
func lay(r *rand.Rand, rows [][]string) string {
	var b strings.Builder
	for i, row := range rows {
		b.WriteString(pick(r, []string{"", "", "\n", " ", "\t", " \n", "\r\n\n"}))
		for k, w := range row {
			if k > 0 {
				b.WriteString(pick(r, []string{" ", " ", "\t", "  ", " \t "}))
			}
			b.WriteString(w)
		}
		end := pick(r, []string{"\n", "\n", "\r\n", " \n", "\t\r\n", "\n\n"})
		if i == len(rows)-1 {
			end = pick(r, []string{end, "", " ", "\t"})
		}
		b.WriteString(end)
	}
	return b.String()
}

// spoiled tells rows with one thing by chance that is another one.
func spoiled(r *rand.Rand, rows [][]string) [][]string {
	if len(rows) == 0 {
		return rows
	}
	i := r.Intn(len(rows))
	row := slices.Clone(rows[i])
	if len(row) == 0 {
		return rows
	}
	k := r.Intn(len(row) + 1)
	switch r.Intn(8) {
	case 0:
		return changed(rows, i)
	case 1:
		return changed(rows, i, row, row)
	case 2:
		return changed(rows, i, slices.Insert(row, k, pick(r, strange)))
	case 3:
		if k < len(row) {
			return changed(rows, i, slices.Delete(row, k, k+1))
		}
		return changed(rows, i, row, []string{pick(r, strange)})
	case 4:
		return changed(rows, i, row[:k], row[k:])
	case 5:
		return rows[:i]
	}
	row[min(k, len(row)-1)] = pick(r, strange)
	return changed(rows, i, row)
}

// sizes goes through files of all kinds, metrics, scales and layouts, with so many nodes at most.
func sizes(r *rand.Rand, rounds, nodes int, use func(x canon.Inst, layout int)) {
	for range rounds {
		for kind := 1; kind <= 2; kind++ {
			for metric := 1; metric <= 5; metric++ {
				for scale := range 7 {
					use(instance(r, kind, metric, scale, 1+r.Intn(nodes)), 0)
				}
			}
			for layout := 1; layout <= 7; layout++ {
				x := instance(r, kind, 0, 0, 1+r.Intn(nodes))
				if layout > 1 {
					x = mirrored(x)
				}
				use(x, layout)
			}
		}
	}
}

func TestParseByChance(t *testing.T) {
	r := chance(2)
	sizes(r, 20, 6, func(x canon.Inst, layout int) {
		rows := rowsBy(r, x, layout)
		s := lay(r, rows)
		parses(t, s, x)
		holdsParse(t, s)
		for range 10 {
			bad := rows
			for range 1 + r.Intn(3) {
				bad = spoiled(r, bad)
			}
			holdsParse(t, lay(r, bad))
		}
	})
}

func TestParseOfBytesByChance(t *testing.T) {
	r := chance(3)
	for range 20000 {
		b := []byte(pick(r, samples()))
		for range 1 + r.Intn(4) {
			at := r.Intn(len(b))
			b[at] = pick(r, []byte{'\n', '\r', ' ', '\t', '0', '1', '2', '-', '.', ':', 'x', 'E', b[r.Intn(len(b))], byte(r.Intn(256))})
		}
		holdsParse(t, string(b))
	}
}

// Instances of as many nodes as there may be.
func TestParseOfManyNodes(t *testing.T) {
	r := chance(4)
	for kind := 1; kind <= 2; kind++ {
		x := instance(r, kind, 2, 3, 400)
		parses(t, lay(r, rowsBy(r, x, 0)), x)
		for _, layout := range []int{1, 2, 5, 6} {
			x = instance(r, kind, 0, 0, 400)
			if layout > 1 {
				x = mirrored(x)
			}
			parses(t, lay(r, rowsBy(r, x, layout)), x)
		}
	}
	s, _ := tsplib.Print(instance(r, 1, 1, 0, 400))
	more, _ := cut(t, s, "DIMENSION : 400", "DIMENSION : 401")
	fails(t, more, strings.Index(more, "401"), 141)
	less, _ := cut(t, s, "DIMENSION : 400", "DIMENSION : 399")
	fails(t, less, strings.Index(less, "\n400 ")+1, 3)
}

// P15.3

func TestPrint(t *testing.T) {
	for _, x := range []struct {
		x canon.Inst
		s string
	}{
		{tourInst, tour}, {cvrpInst, cvrp}, {bothInst, both},
		{matrixInst, "NAME : m\nTYPE : TSP\nDIMENSION : 3\nEDGE_WEIGHT_TYPE : EXPLICIT\nEDGE_WEIGHT_FORMAT : FULL_MATRIX\nEDGE_WEIGHT_SECTION\n0 4 5\n4 0 6\n5 6 0\nEOF\n"},
		{canon.Inst{Name: "x", Kind: 1, Metric: 4, Scale: 6, Nodes: []canon.Node{{X: -most, Y: -1}}},
			"NAME : x\nTYPE : TSP\nDIMENSION : 1\nEDGE_WEIGHT_TYPE : MAX_2D\nNODE_COORD_SECTION\n1 -100.000000 -0.000001\nEOF\n"},
		{canon.Inst{Name: "x", Kind: 1, Nodes: []canon.Node{{}}, Matrix: []int{0}},
			"NAME : x\nTYPE : TSP\nDIMENSION : 1\nEDGE_WEIGHT_TYPE : EXPLICIT\nEDGE_WEIGHT_FORMAT : FULL_MATRIX\nEDGE_WEIGHT_SECTION\n0\nEOF\n"},
		{canon.Inst{Name: "x", Kind: 2, Metric: 3, Cap: most, Nodes: []canon.Node{{X: most}, {Y: -most, Demand: most}, {}}},
			"NAME : x\nTYPE : CVRP\nDIMENSION : 3\nCAPACITY : 100000000\nEDGE_WEIGHT_TYPE : MAN_2D\nNODE_COORD_SECTION\n1 100000000 0\n2 0 -100000000\n3 0 0\n" +
				"DEMAND_SECTION\n1 0\n2 100000000\n3 0\nDEPOT_SECTION\n1\n-1\nEOF\n"},
	} {
		if s, field := tsplib.Print(x.x); s != x.s || field != 0 {
			t.Errorf("Print(%s) = %q, %d, want %q", short(x.x), s, field, x.s)
		}
		holdsPrint(t, x.x)
	}
}

// The first field that lacks, of instances that are well-formed.
func TestPrintOfWhatLacks(t *testing.T) {
	tenths := by(tourInst, func(x *canon.Inst) { x.Metric = 6 })
	fleet := by(cvrpInst, func(x *canon.Inst) { x.Fleet = 1 })
	for _, x := range []struct {
		x    canon.Inst
		want int
	}{
		{windows(), canon.Kind}, {pairs(), canon.Kind}, {tenths, canon.Metric}, {fleet, canon.Fleet},
		{by(fleet, func(x *canon.Inst) { x.Fleet = 400 }), canon.Fleet}, {by(fleet, func(x *canon.Inst) { x.Metric = 6 }), canon.Metric},
		{by(bothInst, func(x *canon.Inst) { x.Fleet = 7 }), canon.Fleet}, {by(cvrpInst, func(x *canon.Inst) { x.Metric = 6 }), canon.Metric},
		{canon.Inst{Name: "k", Kind: 3, Metric: 1, Cap: 1, Nodes: []canon.Node{{}}}, canon.Kind}, // but for its kind a file could express it
	} {
		if s, field := tsplib.Print(x.x); !canon.Well(x.x) || s != "" || field != x.want {
			t.Errorf("Print(%s) = %q, %d, want %d", short(x.x), s, field, x.want)
		}
		holdsPrint(t, x.x)
	}
}

// Of what is not well-formed nothing is promised, but that the call ends.
func TestPrintOfWhatIsNotWell(t *testing.T) {
	for _, f := range faults() {
		for _, x := range []canon.Inst{windows(), by(cvrpInst, func(x *canon.Inst) { x.Nodes = append(x.Nodes, canon.Node{}) }), by(matrixInst, func(*canon.Inst) {})} {
			f.change(&x)
			tsplib.Print(x)
		}
	}
	for _, x := range []canon.Inst{
		{}, {Name: "t", Kind: 1, Matrix: []int{0}}, {Name: "t", Kind: 1, Nodes: make([]canon.Node, 2)}, {Name: "t", Kind: 1, Nodes: make([]canon.Node, 2), Matrix: make([]int, 3)},
		{Name: "t", Kind: 1, Metric: 1, Scale: math.MaxInt, Nodes: make([]canon.Node, 2)}, {Name: "t", Kind: 1, Metric: 1, Scale: math.MinInt, Nodes: []canon.Node{{X: math.MinInt}}},
		{Name: "t", Kind: 1, Metric: 1, Nodes: make([]canon.Node, 420)}, {Kind: math.MinInt, Metric: math.MaxInt, Cap: math.MinInt, Fleet: math.MaxInt}, {Kind: 2, Metric: 1},
	} {
		tsplib.Print(x)
	}
}

// P15.4

func TestWhatIsPrintedIsParsedBack(t *testing.T) {
	r := chance(5)
	sizes(r, 20, 30, func(x canon.Inst, layout int) { holdsPrint(t, x) })
	for n := 1; n <= 60; n++ {
		holdsPrint(t, instance(r, 1+n%2, n%6, 0, n))
	}
	holdsPrint(t, instance(r, 1, 5, 6, 400))
	x := instance(r, 2, 0, 0, 400)
	s, _ := tsplib.Print(x)
	parses(t, s, x)
}

// What is parsed, in whatever form, is printed so that it is parsed back.
func TestWhatIsParsedIsPrintedBack(t *testing.T) {
	r := chance(6)
	sizes(r, 5, 5, func(x canon.Inst, layout int) {
		y, l := tsplib.Parse(lay(r, rowsBy(r, x, layout)))
		s, field := tsplib.Print(y)
		want, _ := tsplib.Print(x)
		if len(l) != 0 || field != 0 || s != want {
			t.Errorf("%s is told as %s, %v, and printed as %q", short(x), short(y), l, short(s))
		}
		parses(t, strings.ReplaceAll(s, "\n", "\r\n"), x)
	})
}

// What is told of an instance is told again, the same.
func TestWhatIsToldIsToldAgain(t *testing.T) {
	for _, x := range []canon.Inst{tourInst, cvrpInst, matrixInst, bothInst, windows(), pairs()} {
		finer := copied(x)
		for x.Metric != 0 && finer.Scale < 6 {
			finer.Scale++
			for i := range finer.Nodes {
				finer.Nodes[i].X *= 10
				finer.Nodes[i].Y *= 10
			}
			y, l := tsplib.Told(finer)
			again, more := tsplib.Told(y)
			if len(l) != 0 || len(more) != 0 || !canon.Same(y, again) || !canon.Same(y, x) {
				t.Error(finer, y, l, again, more)
			}
		}
	}
}

// What holds everywhere

// roomy tells x with lists that have room behind them, and the whole of them.
func roomy(x canon.Inst) (canon.Inst, []canon.Node, []int) {
	nodes := append(slices.Clone(x.Nodes), make([]canon.Node, 3)...)
	numbers := append(slices.Clone(x.Matrix), 7, 7, 7)
	x.Nodes, x.Matrix = nodes[:len(x.Nodes)], numbers[:len(x.Matrix)]
	return x, nodes, numbers
}

func handed() []canon.Inst {
	unfit := by(windows(), func(x *canon.Inst) { x.Nodes[1].Service = -1 })
	fine := by(tourInst, func(x *canon.Inst) { x.Scale, x.Nodes[0].Y = 3, 500 })
	return []canon.Inst{tourInst, cvrpInst, matrixInst, bothInst, windows(), pairs(), unfit, fine, {}}
}

func TestWhatIsHandedInStays(t *testing.T) {
	for _, x := range handed() {
		y, nodes, numbers := roomy(x)
		allNodes, allNumbers := slices.Clone(nodes), slices.Clone(numbers)
		tsplib.Told(y)
		tsplib.Print(y)
		if !canon.Same(x, y) || !slices.Equal(nodes, allNodes) || !slices.Equal(numbers, allNumbers) {
			t.Errorf("%s became %s", short(x), short(y))
		}
	}
}

// scribble writes over all that an answer lets be written over, also in the room behind it.
func scribble(x canon.Inst, l []api.Diag) {
	for i := range x.Nodes[:cap(x.Nodes)] {
		x.Nodes[:cap(x.Nodes)][i] = canon.Node{X: -7, Demand: 7}
	}
	for i := range x.Matrix[:cap(x.Matrix)] {
		x.Matrix[:cap(x.Matrix)][i] = -7
	}
	for i := range l[:cap(l)] {
		l[:cap(l)][i] = api.Diag{At: -7, Code: -7}
	}
}

func TestAnswersShareNothing(t *testing.T) {
	for _, x := range handed() {
		first, diags := tsplib.Told(x)
		second, more := tsplib.Told(x)
		want, wantedDiags := plainTold(x)
		before := copied(x)
		scribble(first, diags)
		if !canon.Same(second, want) || !slices.Equal(more, wantedDiags) || !canon.Same(x, before) {
			t.Errorf("Told(%s): %s, %v behind a change of another answer", short(before), short(second), more)
		}
		holdsTold(t, x)
	}
	for _, s := range append(samples(), "", "x", strings.Replace(both, "0 3", "1 3", 1), strings.Replace(tour, "0.5", "x", 1)) {
		first, diags := tsplib.Parse(s)
		second, more := tsplib.Parse(s)
		want, wantedDiags := plainParse(s)
		scribble(first, diags)
		if !canon.Same(second, want) || !slices.Equal(more, wantedDiags) {
			t.Errorf("Parse(%q): %s, %v behind a change of another answer", s, short(second), more)
		}
		holdsParse(t, s)
	}
}

func TestCallsAreAlike(t *testing.T) {
	for range 3 {
		for _, s := range samples() {
			for at := range len(s) {
				holdsParse(t, s[:at])
			}
		}
		for _, x := range handed() {
			holdsTold(t, x)
			if canon.Well(x) && canon.Same(x, canon.Norm(x)) {
				holdsPrint(t, x)
			}
		}
	}
}

// Lists without elements and nil lists are alike.
func TestListsWithoutElements(t *testing.T) {
	x := by(tourInst, func(x *canon.Inst) { x.Matrix = []int{} })
	if y, l := tsplib.Told(x); len(l) != 0 || !canon.Same(y, tourInst) {
		t.Error(y, l)
	}
	if s, field := tsplib.Print(x); s != tour || field != 0 {
		t.Error(s, field)
	}
	if y, l := tsplib.Told(canon.Inst{Name: "t", Kind: 1, Metric: 1, Nodes: []canon.Node{}, Matrix: []int{}}); !zero(y) || !slices.Equal(l, []api.Diag{{Code: 307}}) {
		t.Error(y, l)
	}
}
