package express_test

import (
	"fmt"
	"math"
	"math/rand"
	"slices"
	"strings"
	"testing"

	"entrepot/canon"
	"entrepot/express"
)

const most = 100000000 // the greatest number

// formats are the five.
var formats = []int{express.Tsplib, express.Solomon, express.Lilim, express.Json, express.Binary}

// noFormats are numbers beside the five, and far off, some of which come to one of the five where
// bits are lost.
var noFormats = []int{
	0, 6, 7, -1, -2, -3, -4, -5, -6, 13, 100, 255, 256, 257, 258, 259, 260, 261, 65537, 65539, 1 << 32, 1<<32 + 1, 1<<32 + 2,
	1<<32 + 3, 1<<32 + 4, 1<<32 + 5, 1 - 1<<32, math.MinInt, math.MinInt + 1, math.MinInt + 5, math.MaxInt - 1, math.MaxInt,
}

// allThirteen are the fields.
var allThirteen = []int{1, 2, 3, 4, 5, 6, 7, 8, 9, 10, 11, 12, 13}

// wide are numbers at and beside all bounds that the chapters name, and far off, some of which come
// to a near one where bits are lost.
var wide = []int{
	math.MinInt, math.MinInt + 1, math.MinInt + 6, -1 << 32, 1 - 1<<32, -most - 1, -most, -401, -256, -7, -6, -5, -4, -3, -2, -1, 0, 1,
	2, 3, 4, 5, 6, 7, 8, 9, 10, 255, 256, 257, 258, 259, 260, 262, 399, 400, 401, most, most + 1, 1 << 32, 1<<32 + 1, 1<<32 + 2,
	1<<32 + 3, 1<<32 + 4, 1<<32 + 6, math.MaxInt - 1, math.MaxInt,
}

// names are the one of files that have no name, others beside it, and names that may not be.
var names = []string{
	"lilim", "", "l", "lili", "lilim1", "lilim ", " lilim", "Lilim", "LILIM", "lilin", "milil", "lil1m", "lilim\x00", "lilim\n",
	"lilimlilim", "lılim", "tsplib", "solomon", "a.B_9-", strings.Repeat("l", 40), strings.Repeat("l", 41), "\xff",
}

// short tells what may be long.
func short(x any) string {
	s := strings.ToValidUTF8(fmt.Sprintf("%+v", x), "?")
	if len(s) > 400 {
		return s[:400] + ".."
	}
	return s
}

// copied makes an instance that shares nothing with x.
func copied(x canon.Inst) canon.Inst {
	x.Nodes, x.Matrix = slices.Clone(x.Nodes), slices.Clone(x.Matrix)
	return x
}

// by makes a copy of x that is changed.
func by(x canon.Inst, change func(x *canon.Inst)) canon.Inst {
	x = copied(x)
	change(&x)
	return x
}

// plain makes an instance of so many nodes that the format can express.
func plain(format, n int) canon.Inst {
	x := canon.Inst{Name: "p", Kind: canon.Cvrp, Metric: 1, Scale: 2, Cap: 9, Nodes: make([]canon.Node, n)}
	for i := range x.Nodes {
		x.Nodes[i].X, x.Nodes[i].Y = 10+i, -i
		if i > 0 {
			x.Nodes[i].Demand = i % 7
		}
	}
	if format != express.Solomon && format != express.Lilim {
		return x
	}
	x.Kind, x.Metric, x.Fleet = canon.Vrptw, 6, 3
	for i := range x.Nodes {
		x.Nodes[i].Ready, x.Nodes[i].Due, x.Nodes[i].Service = i, 100+i, i%3
	}
	if format == express.Solomon {
		return x
	}
	x.Name, x.Kind, x.Scale = "lilim", canon.Pdptw, 0
	for i := 1; i < n; i++ {
		mate := i + i%2*2 - 1
		x.Nodes[i].Mate, x.Nodes[i].Demand = mate, (i%2*2-1)*(5+max(i, mate))
	}
	return x
}

// lacks tells what P12.1 says of Lacks, by its words.
func lacks(format int, x canon.Inst) []int {
	var l []int
	for _, field := range allThirteen {
		if format < 1 || format > 5 || lacksOne(format, field, x) {
			l = append(l, field)
		}
	}
	return l
}

func lacksOne(format, field int, x canon.Inst) bool {
	tables := format == 2 || format == 3
	kinds := map[int][]int{1: {1, 2}, 2: {3}, 3: {4}}
	switch {
	case format > 3:
		return false
	case field == canon.Name:
		return format == 3 && x.Name != "lilim"
	case field == canon.Kind:
		return !slices.Contains(kinds[format], x.Kind)
	case field == canon.Metric && tables:
		return x.Metric != 6
	case field == canon.Metric:
		return x.Metric < 0 || x.Metric > 5
	case field == canon.Scale:
		return format == 3 && x.Scale != 0
	case field == canon.Fleet && tables:
		return x.Fleet < 1
	case field == canon.Fleet:
		return x.Fleet != 0
	}
	for _, n := range x.Nodes {
		if format < 3 && field == canon.Demand && n.Demand < 0 || format == 1 && field == canon.Window && (n.Ready != 0 || n.Due != 0) ||
			format == 1 && field == canon.Service && n.Service != 0 || format < 3 && field == canon.Mate && n.Mate != 0 {
			return true
		}
	}
	return false
}

// tells holds that Lacks tells these fields, and Can whether there is none.
func tells(t *testing.T, format int, x canon.Inst, want ...int) {
	t.Helper()
	l, can := express.Lacks(format, x), express.Can(format, x)
	if !slices.Equal(l, want) || can != (len(want) == 0) {
		t.Errorf("format %d, %s: lack %v, can %t; want %v", format, short(x), l, can, want)
	}
}

// holds holds that both calls answer what P12.1 says, in each of the five formats, and beside them.
func holds(t *testing.T, x canon.Inst) {
	t.Helper()
	for _, format := range formats {
		tells(t, format, x, lacks(format, x)...)
	}
	tells(t, 0, x, allThirteen...)
	tells(t, 6, x, allThirteen...)
}

// P12.1: the five formats, and others.

func TestNumbersOfFormats(t *testing.T) {
	if want := []int{1, 2, 3, 4, 5}; !slices.Equal(formats, want) {
		t.Errorf("formats %v, want %v", formats, want)
	}
	for _, f := range formats {
		tells(t, f, plain(f, 5))
	}
}

// What can be expressed is well-formed, too, so that the tests are of instances as they come.
func TestPlainInstancesAreWell(t *testing.T) {
	for _, f := range formats {
		for _, n := range []int{1, 3, 5, 399} {
			if faults := canon.Check(plain(f, n)); len(faults) > 0 {
				t.Errorf("format %d, %d nodes: %v", f, n, faults)
			}
		}
	}
}

func TestKnownInstances(t *testing.T) {
	tour := canon.Inst{Name: "t", Kind: 1, Metric: 1, Nodes: []canon.Node{{}, {X: 3, Y: 4}}}
	matrix := canon.Inst{Name: "lilim", Kind: 2, Cap: 3, Fleet: 2, Nodes: []canon.Node{{}, {Demand: 3}}, Matrix: []int{0, 1, 2, 0}}
	table := canon.Inst{Name: "w", Kind: 3, Metric: 6, Scale: 1, Cap: 5, Fleet: 1, Nodes: []canon.Node{{Due: 9}, {X: 15, Demand: 3, Service: 1, Due: 9}}}
	pairs := canon.Inst{Name: "lilim", Kind: 4, Metric: 6, Cap: 5, Fleet: 1, Nodes: []canon.Node{{Due: 9}, {Demand: 3, Due: 8, Mate: 2}, {Demand: -3, Due: 9, Mate: 1}}}
	for _, c := range []struct {
		x                       canon.Inst
		tsplib, solomon, lilims []int
	}{
		{tour, nil, []int{2, 3, 6}, []int{1, 2, 3, 6}},
		{matrix, []int{6}, []int{2, 3}, []int{2, 3}},
		{table, []int{2, 3, 6, 11, 12}, nil, []int{1, 2, 4}},
		{pairs, []int{2, 3, 6, 10, 11, 13}, []int{2, 10, 13}, nil},
		{canon.Inst{}, []int{2}, []int{2, 3, 6}, []int{1, 2, 3, 6}},
	} {
		tells(t, express.Tsplib, c.x, c.tsplib...)
		tells(t, express.Solomon, c.x, c.solomon...)
		tells(t, express.Lilim, c.x, c.lilims...)
		tells(t, express.Json, c.x)
		tells(t, express.Binary, c.x)
		holds(t, c.x)
	}
}

// instances are some of all sorts: those that each format can express, and others.
func instances() []canon.Inst {
	l := []canon.Inst{{}, spoiled(), {Name: "lilim", Kind: 4, Metric: 6, Fleet: 1}}
	for _, f := range formats {
		for _, n := range []int{0, 1, 2, 5} {
			l = append(l, plain(f, n))
		}
	}
	return l
}

// spoiled makes an instance of which nothing can be but in JSON, and in bytes.
func spoiled() canon.Inst {
	bad := canon.Node{X: math.MaxInt, Y: math.MinInt, Demand: -1, Ready: 9, Due: -9, Service: -1, Mate: 77}
	return canon.Inst{Name: "\xff", Kind: -1, Metric: 9, Scale: -1, Cap: -1, Fleet: -1, Nodes: []canon.Node{bad, bad, bad}, Matrix: []int{-1, 2}}
}

func TestJsonAndBinaryExpressAll(t *testing.T) {
	for _, x := range instances() {
		tells(t, express.Json, x)
		tells(t, express.Binary, x)
	}
}

func TestNoSuchFormat(t *testing.T) {
	for _, f := range noFormats {
		for _, x := range instances() {
			tells(t, f, x, 1, 2, 3, 4, 5, 6, 7, 8, 9, 10, 11, 12, 13)
		}
	}
	for f := -300; f <= 300; f++ {
		if is := slices.Contains(formats, f); express.Can(f, plain(f, 3)) != is {
			t.Errorf("format %d: can %t", f, !is)
		}
	}
}

func TestSpoiledInstance(t *testing.T) {
	tells(t, express.Tsplib, spoiled(), 2, 3, 6, 10, 11, 12, 13)
	tells(t, express.Solomon, spoiled(), 2, 3, 6, 10, 13)
	tells(t, express.Lilim, spoiled(), 1, 2, 3, 4, 6)
}

// P12.1: field by field.

// only holds that of an instance that can be expressed but for one change this field alone lacks,
// just if fits is false.
func only(t *testing.T, format, field int, fits bool, change func(x *canon.Inst)) {
	t.Helper()
	x := by(plain(format, 7), change)
	if fits {
		tells(t, format, x)
	} else {
		tells(t, format, x, field)
	}
}

func TestName(t *testing.T) {
	for _, name := range names {
		for _, f := range formats {
			only(t, f, canon.Name, f != express.Lilim || name == "lilim", func(x *canon.Inst) { x.Name = name })
		}
	}
}

func TestKind(t *testing.T) {
	for _, kind := range wide {
		change := func(x *canon.Inst) { x.Kind = kind }
		only(t, express.Tsplib, canon.Kind, kind == canon.Tsp || kind == canon.Cvrp, change)
		only(t, express.Solomon, canon.Kind, kind == canon.Vrptw, change)
		only(t, express.Lilim, canon.Kind, kind == canon.Pdptw, change)
		only(t, express.Json, canon.Kind, true, change)
		only(t, express.Binary, canon.Kind, true, change)
	}
}

func TestMetric(t *testing.T) {
	for _, metric := range wide {
		change := func(x *canon.Inst) { x.Metric = metric }
		only(t, express.Tsplib, canon.Metric, metric >= 0 && metric <= 5, change)
		only(t, express.Solomon, canon.Metric, metric == 6, change)
		only(t, express.Lilim, canon.Metric, metric == 6, change)
		only(t, express.Json, canon.Metric, true, change)
		only(t, express.Binary, canon.Metric, true, change)
	}
}

// What else there is wrong with an instance says nothing of its metric.
func TestMetricBesideOtherFaults(t *testing.T) {
	for metric := range 8 {
		for _, scale := range []int{-1, 0, 1, 6, 7} {
			x := by(spoiled(), func(x *canon.Inst) { x.Metric, x.Scale = metric, scale })
			want := []int{2, 3, 6, 10, 11, 12, 13}
			if metric < 6 {
				want = slices.Delete(want, 1, 2)
			}
			tells(t, express.Tsplib, x, want...)
		}
	}
}

func TestScale(t *testing.T) {
	for _, scale := range wide {
		for _, f := range formats {
			only(t, f, canon.Scale, f != express.Lilim || scale == 0, func(x *canon.Inst) { x.Scale = scale })
		}
	}
}

func TestFleet(t *testing.T) {
	for _, fleet := range wide {
		change := func(x *canon.Inst) { x.Fleet = fleet }
		only(t, express.Tsplib, canon.Fleet, fleet == 0, change)
		only(t, express.Solomon, canon.Fleet, fleet >= 1, change)
		only(t, express.Lilim, canon.Fleet, fleet >= 1, change)
		only(t, express.Json, canon.Fleet, true, change)
		only(t, express.Binary, canon.Fleet, true, change)
	}
}

// part is a number of a node, the field that it counts to, and where another one than 0 lacks.
type part struct {
	field int
	set   func(n *canon.Node, v int)
	lacks func(format, v int) bool
}

// parts are the numbers of a node.
func parts() []part {
	never := func(format, v int) bool { return false }
	files := func(format, v int) bool { return format == express.Tsplib && v != 0 }
	return []part{
		{canon.Coord, func(n *canon.Node, v int) { n.X = v }, never},
		{canon.Coord, func(n *canon.Node, v int) { n.Y = v }, never},
		{canon.Demand, func(n *canon.Node, v int) { n.Demand = v }, func(format, v int) bool { return format <= express.Solomon && v < 0 }},
		{canon.Window, func(n *canon.Node, v int) { n.Ready = v }, files},
		{canon.Window, func(n *canon.Node, v int) { n.Due = v }, files},
		{canon.Service, func(n *canon.Node, v int) { n.Service = v }, files},
		{canon.Mate, func(n *canon.Node, v int) { n.Mate = v }, func(format, v int) bool { return format <= express.Solomon && v != 0 }},
	}
}

func TestOneNumberOfANode(t *testing.T) {
	for _, p := range parts() {
		for _, v := range wide {
			for _, f := range formats {
				for at := range 7 {
					only(t, f, p.field, !p.lacks(f, v), func(x *canon.Inst) { p.set(&x.Nodes[at], v) })
				}
			}
		}
	}
}

// A number that has another sign, or is its opposite, does not take one away that stands elsewhere.
func TestNumbersOfNodesTogether(t *testing.T) {
	for _, p := range parts() {
		for _, f := range formats {
			for _, pair := range [][2]int{{-1, 1}, {1, -1}, {-1, -1}, {1, 1}, {math.MinInt, math.MinInt}, {math.MinInt, math.MaxInt}, {-1, most}} {
				fits := !p.lacks(f, pair[0]) && !p.lacks(f, pair[1])
				only(t, f, p.field, fits, func(x *canon.Inst) { p.set(&x.Nodes[0], pair[0]); p.set(&x.Nodes[6], pair[1]) })
				only(t, f, p.field, fits, func(x *canon.Inst) { p.set(&x.Nodes[3], pair[0]); p.set(&x.Nodes[4], pair[1]) })
			}
		}
	}
}

// A window is one field, be it Ready, Due, or both, of one node or of several ones.
func TestWindowIsToldOnce(t *testing.T) {
	for _, w := range [][4]int{{1, 0, 0, 0}, {0, 1, 0, 0}, {1, 1, 0, 0}, {0, 0, 1, 1}, {1, 0, 0, 1}, {1, 1, 1, 1}, {1, -1, 0, 0}, {-1, 1, 0, 0}, {1, 0, -1, 0}, {0, 0, 0, 0}} {
		fits := w == [4]int{}
		only(t, express.Tsplib, canon.Window, fits, func(x *canon.Inst) {
			a, b := &x.Nodes[0], &x.Nodes[6]
			a.Ready, a.Due, b.Ready, b.Due = w[0], w[1], w[2], w[3]
		})
	}
}

// All that lacks at several nodes is told once, rising, wherever which stands.
func TestFieldsOfDifferentNodes(t *testing.T) {
	l := parts()[2:]
	for turn := range l {
		x := plain(express.Tsplib, len(l))
		for k, p := range l {
			p.set(&x.Nodes[(k+turn)%len(l)], -1)
		}
		tells(t, express.Tsplib, x, 10, 11, 12, 13)
		y := by(plain(express.Solomon, len(l)), func(y *canon.Inst) { y.Nodes = x.Nodes })
		tells(t, express.Solomon, y, 10, 13)
	}
	x := plain(express.Tsplib, 400)
	for i := range x.Nodes {
		for _, p := range l {
			p.set(&x.Nodes[i], -1)
		}
	}
	tells(t, express.Tsplib, x, 10, 11, 12, 13)
}

// Cap, Nodes, Matrix and Coord never lack.
func TestOtherFieldsNeverLack(t *testing.T) {
	for _, f := range formats {
		for _, v := range wide {
			only(t, f, canon.Cap, true, func(x *canon.Inst) { x.Cap = v })
			only(t, f, canon.Matrix, true, func(x *canon.Inst) { x.Matrix = []int{v} })
			only(t, f, canon.Matrix, true, func(x *canon.Inst) { x.Matrix = slices.Repeat([]int{v}, 49) })
			only(t, f, canon.Coord, true, func(x *canon.Inst) {
				for i := range x.Nodes {
					x.Nodes[i].X, x.Nodes[i].Y = v, -v
				}
			})
		}
	}
}

func TestManyNodes(t *testing.T) {
	for _, f := range formats {
		for _, n := range []int{0, 1, 2, 3, 10, 399, 400, 401, 420} {
			x := plain(f, n)
			tells(t, f, x)
			holds(t, x)
			for _, at := range []int{0, n / 2, n - 1} {
				if n == 0 {
					continue
				}
				for _, p := range parts() {
					y := by(x, func(y *canon.Inst) { p.set(&y.Nodes[at], -5) })
					var want []int
					if p.lacks(f, -5) {
						want = append(want, p.field)
					}
					tells(t, f, y, want...)
				}
			}
		}
	}
}

func TestListsWithoutElements(t *testing.T) {
	for _, f := range formats {
		x := plain(f, 0)
		x.Nodes, x.Matrix = nil, nil
		tells(t, f, x)
		x.Nodes, x.Matrix = []canon.Node{}, []int{}
		tells(t, f, x)
	}
}

// P12.1: several fields; P12.2: what follows.

// spoilers are the fields that may lack of a format, each with changes by which just it does.
func spoilers(format int) map[int][]func(x *canon.Inst) {
	type changes = []func(x *canon.Inst)
	kind := changes{func(x *canon.Inst) { x.Kind = 0 }, func(x *canon.Inst) { x.Kind = 5 - x.Kind }}
	middle := func(x *canon.Inst) *canon.Node { return &x.Nodes[len(x.Nodes)/2] }
	demand := changes{func(x *canon.Inst) { x.Nodes[0].Demand = -1 }, func(x *canon.Inst) { middle(x).Demand = -most }}
	mate := changes{func(x *canon.Inst) { x.Nodes[0].Mate = 1 }, func(x *canon.Inst) { x.Nodes[len(x.Nodes)-1].Mate = -1 }}
	euclid := changes{func(x *canon.Inst) { x.Metric = 1 }, func(x *canon.Inst) { x.Metric = 0 }, func(x *canon.Inst) { x.Metric = 7 }}
	noFleet := changes{func(x *canon.Inst) { x.Fleet = 0 }, func(x *canon.Inst) { x.Fleet = -1 }}
	switch format {
	case express.Tsplib:
		return map[int][]func(x *canon.Inst){
			canon.Kind:    {func(x *canon.Inst) { x.Kind = 3 }, func(x *canon.Inst) { x.Kind = 4 }, func(x *canon.Inst) { x.Kind = 0 }},
			canon.Metric:  {func(x *canon.Inst) { x.Metric = 6 }, func(x *canon.Inst) { x.Metric = 7 }, func(x *canon.Inst) { x.Metric = -1 }},
			canon.Fleet:   {func(x *canon.Inst) { x.Fleet = 1 }, func(x *canon.Inst) { x.Fleet = -1 }},
			canon.Demand:  demand,
			canon.Window:  {func(x *canon.Inst) { x.Nodes[0].Ready = 1 }, func(x *canon.Inst) { middle(x).Due = 1 }},
			canon.Service: {func(x *canon.Inst) { x.Nodes[0].Service = 1 }, func(x *canon.Inst) { x.Nodes[len(x.Nodes)-1].Service = 1 }},
			canon.Mate:    mate,
		}
	case express.Solomon:
		return map[int][]func(x *canon.Inst){canon.Kind: kind, canon.Metric: euclid, canon.Fleet: noFleet, canon.Demand: demand, canon.Mate: mate}
	case express.Lilim:
		return map[int][]func(x *canon.Inst){
			canon.Name:   {func(x *canon.Inst) { x.Name = "lilim2" }, func(x *canon.Inst) { x.Name = "" }},
			canon.Kind:   kind,
			canon.Metric: euclid,
			canon.Scale:  {func(x *canon.Inst) { x.Scale = 1 }, func(x *canon.Inst) { x.Scale = -1 }},
			canon.Fleet:  noFleet,
		}
	}
	return nil
}

// mend gives x the field of y.
func mend(x *canon.Inst, y canon.Inst, field int) {
	switch field {
	case canon.Name:
		x.Name = y.Name
	case canon.Kind:
		x.Kind = y.Kind
	case canon.Metric:
		x.Metric = y.Metric
	case canon.Scale:
		x.Scale = y.Scale
	case canon.Fleet:
		x.Fleet = y.Fleet
	}
	for i := range min(len(x.Nodes), len(y.Nodes)) {
		a, b := &x.Nodes[i], y.Nodes[i]
		switch field {
		case canon.Demand:
			a.Demand = b.Demand
		case canon.Window:
			a.Ready, a.Due = b.Ready, b.Due
		case canon.Service:
			a.Service = b.Service
		case canon.Mate:
			a.Mate = b.Mate
		}
	}
}

// subset tells those of l whose bit is 1.
func subset(l []int, bits int) []int {
	var out []int
	for i, v := range l {
		if bits>>i&1 == 1 {
			out = append(out, v)
		}
	}
	return out
}

// sortedKeys tells the fields that may lack of a format, rising.
func sortedKeys(m map[int][]func(x *canon.Inst)) []int {
	var l []int
	for field := range m {
		l = append(l, field)
	}
	slices.Sort(l)
	return l
}

// Each set of the fields that may lack is told as it is: none, each alone, each pair, and all.
func TestSetsOfFields(t *testing.T) {
	for _, f := range []int{express.Tsplib, express.Solomon, express.Lilim} {
		s := spoilers(f)
		fields := sortedKeys(s)
		for bits := range 1 << len(fields) {
			for turn := range 6 {
				x, want := plain(f, 5), subset(fields, bits)
				for k, field := range want {
					s[field][(turn+k*(turn/3))%len(s[field])](&x)
				}
				tells(t, f, x, want...)
				follows(t, f, x)
			}
		}
	}
}

// follows holds what P12.2 says of x, which has as many nodes as the plain one that it is turned
// into.
func follows(t *testing.T, format int, x canon.Inst) {
	t.Helper()
	goal := plain(format, len(x.Nodes))
	missing := express.Lacks(format, x)
	whole := by(x, func(x *canon.Inst) {
		for _, field := range missing {
			mend(x, goal, field)
		}
	})
	if !express.Can(format, whole) {
		t.Errorf("format %d, %s: mended in %v: still lacks %v", format, short(x), missing, express.Lacks(format, whole))
	}
	for k, left := range missing {
		part := copied(x)
		for _, field := range slices.Delete(slices.Clone(missing), k, k+1) {
			mend(&part, goal, field)
		}
		tells(t, format, part, left)
	}
	for field := canon.Name; field <= canon.Mate; field++ {
		other := by(x, func(x *canon.Inst) { mend(x, goal, field) })
		want := slices.DeleteFunc(slices.Clone(missing), func(f int) bool { return f == field })
		tells(t, format, other, want...)
	}
}

// The instances of one format, told in the others: what lacks there, and what follows.
func TestFromFormatToFormat(t *testing.T) {
	for _, from := range formats {
		for _, n := range []int{0, 1, 2, 5, 60} {
			x := plain(from, n)
			holds(t, x)
			for _, to := range formats {
				follows(t, to, x)
			}
		}
	}
	holds(t, spoiled())
	for _, f := range formats {
		follows(t, f, spoiled())
	}
}

// byChance makes an instance of which each field may be as some format has it, or any how.
func byChance(r *rand.Rand) canon.Inst {
	x := plain(formats[r.Intn(3)], r.Intn(8))
	number := func(usual int) int {
		if r.Intn(8) > 0 {
			return usual
		}
		return wide[r.Intn(len(wide))]
	}
	for _, p := range []*int{&x.Kind, &x.Metric, &x.Scale, &x.Cap, &x.Fleet} {
		*p = number(*p)
	}
	if r.Intn(3) == 0 {
		x.Name = names[r.Intn(len(names))]
	}
	if r.Intn(2) == 0 && len(x.Nodes) > 0 {
		for range 1 + r.Intn(3) {
			l := parts()
			l[r.Intn(len(l))].set(&x.Nodes[r.Intn(len(x.Nodes))], number(0))
		}
	}
	return x
}

func TestInstancesByChance(t *testing.T) {
	r := rand.New(rand.NewSource(12))
	for range 20000 {
		x := byChance(r)
		holds(t, x)
		for _, f := range formats {
			follows(t, f, x)
		}
	}
}

func TestFieldsRise(t *testing.T) {
	r := rand.New(rand.NewSource(3))
	for range 2000 {
		x := byChance(r)
		for f := -1; f <= 7; f++ {
			last := 0
			for _, field := range express.Lacks(f, x) {
				if field <= last || field > canon.Mate {
					t.Fatalf("format %d, %s: %v", f, short(x), express.Lacks(f, x))
				}
				last = field
			}
		}
	}
}

// R4, R5: what is handed in stays, and answers share nothing.

func TestWhatIsHandedInStays(t *testing.T) {
	for _, x := range append(instances(), plain(express.Lilim, 420)) {
		x.Nodes = append(make([]canon.Node, 0, len(x.Nodes)+4), x.Nodes...)
		x.Matrix = append(make([]int, 0, len(x.Matrix)+4), x.Matrix...)
		behind := func() ([]canon.Node, []int) { return x.Nodes[:cap(x.Nodes)], x.Matrix[:cap(x.Matrix)] }
		nodes, matrix := behind()
		before, nodesBefore, matrixBefore := copied(x), slices.Clone(nodes), slices.Clone(matrix)
		for f := -1; f <= 7; f++ {
			express.Lacks(f, x)
			express.Can(f, x)
		}
		nodes, matrix = behind()
		if !canon.Same(x, before) || !slices.Equal(nodes, nodesBefore) || !slices.Equal(matrix, matrixBefore) {
			t.Errorf("changed: %s, was %s", short(x), short(before))
		}
	}
}

func TestAnswersShareNothing(t *testing.T) {
	for _, x := range instances() {
		for f := -1; f <= 7; f++ {
			first, second := express.Lacks(f, x), express.Lacks(f, x)
			want := slices.Clone(first)
			for i := range first {
				first[i] = -1
			}
			// Also what is behind the last element is the answer's own.
			_ = append(first, -2, -3)
			if third := express.Lacks(f, x); !slices.Equal(second, want) || !slices.Equal(third, want) {
				t.Errorf("format %d, %s: %v, then %v, %v", f, short(x), want, second, third)
			}
			tells(t, f, x, want...)
		}
	}
}

// What one call answers says nothing of what the next one does.
func TestCallsAreAlike(t *testing.T) {
	l := instances()
	var first []string
	for round := range 3 {
		var now []string
		for i := range l {
			at := i
			if round == 1 {
				at = len(l) - 1 - i
			}
			for f := -1; f <= 7; f++ {
				now = append(now, fmt.Sprint(at, f, express.Lacks(f, l[at]), express.Can(f, l[at])))
			}
		}
		slices.Sort(now)
		if first == nil {
			first = now
		}
		if !slices.Equal(now, first) {
			t.Errorf("round %d: %v, want %v", round, now, first)
		}
	}
}
