package canon_test

import (
	"fmt"
	"math"
	"math/rand"
	"slices"
	"strconv"
	"strings"
	"testing"

	"entrepot/canon"
)

const most = 100000000 // the greatest number

// kinds are the four, one below and one beyond them, and numbers far off, some of which come to
// one of the four where bits are lost.
var kinds = []int{1, 2, 3, 4, 0, 5, -1, -4, 6, 256, 257, 260, 1<<32 + 1, 1<<32 + 4, math.MinInt, math.MinInt + 4, math.MaxInt}

// metrics are the known ones, one below and one beyond them, and numbers far off.
var metrics = []int{0, 1, 2, 3, 4, 5, 6, -1, 7, 8, -6, 256, 1 << 32, 1<<32 + 6, math.MinInt, math.MaxInt}

// wide are numbers at and beside all bounds that the chapter names, and far off.
var wide = []int{
	math.MinInt, math.MinInt + 1, -1 << 32, -most - 1, -most, -most + 1, -401, -400, -10, -7, -2, -1, 0, 1, 2, 3, 4, 5, 6, 7, 8, 10, 399, 400, 401,
	most - 1, most, most + 1, 2 * most, 10 * most, 1 << 32, 1<<32 + 1, 1<<32 + most, math.MaxInt - 1, math.MaxInt,
}

// f makes a fault.
func f(field, node int) canon.Fault { return canon.Fault{Field: field, Node: node} }

// text tells an instance or a list; of a list without elements the same as of a nil one.
func text(x any) string { return fmt.Sprintf("%+v", x) }

// copied makes an instance that shares nothing with x.
func copied(x canon.Inst) canon.Inst {
	x.Nodes = append([]canon.Node(nil), x.Nodes...)
	x.Matrix = append([]int(nil), x.Matrix...)
	return x
}

// by makes a copy of x that is changed.
func by(x canon.Inst, change func(x *canon.Inst)) canon.Inst {
	x = copied(x)
	change(&x)
	return x
}

// sample makes an instance of a kind without a fault: a depot, and four customers.
func sample(kind int) canon.Inst {
	x := canon.Inst{Name: "a.B_9-", Kind: kind, Metric: 1, Scale: 1, Nodes: []canon.Node{{X: 10, Y: 20}, {X: -30, Y: 45}, {X: 50}, {Y: -60}, {X: 10, Y: 20}}}
	if kind == canon.Tsp {
		return x
	}
	x.Cap, x.Fleet = 9, 2
	for i := range x.Nodes {
		n := &x.Nodes[i]
		if i > 0 {
			n.Demand = i
		}
		if kind != canon.Cvrp {
			n.Ready, n.Due, n.Service = i, 10+i, 2*i
		}
	}
	if kind == canon.Pdptw {
		for i, mate := range []int{0, 3, 4, 1, 2} {
			n := &x.Nodes[i]
			n.Mate = mate
			if mate != 0 && mate < i {
				n.Demand = -x.Nodes[mate].Demand
			}
		}
	}
	return x
}

// square is x with a matrix of numbers, of which those of i and i are 0, in place of its points.
func square(x canon.Inst) canon.Inst {
	x = copied(x)
	x.Metric, x.Scale, x.Matrix = 0, 0, nil
	for i := range x.Nodes {
		x.Nodes[i].X, x.Nodes[i].Y = 0, 0
		for j := range x.Nodes {
			x.Matrix = append(x.Matrix, 3*max(i-j, j-i)+min(1, max(0, i-j)))
		}
	}
	return x
}

// within tells whether a number is one of those from least to greatest.
func within(n, least, greatest int) bool { return n >= least && n <= greatest }

// isName tells whether s is what words.Name takes, by the words of P3.3.
func isName(s string) bool {
	const signs = "ABCDEFGHIJKLMNOPQRSTUVWXYZabcdefghijklmnopqrstuvwxyz0123456789._-"
	return within(len(s), 1, 40) && strings.Trim(s, signs) == ""
}

// faults tells what P8.1 says of Check, by its words.
func faults(x canon.Inst) []canon.Fault {
	l := ofWhole(x)
	n := len(x.Nodes)
	if n < 1 || n > 400 {
		return append(l, f(7, 0))
	}
	if bad := x.Metric != 0 && len(x.Matrix) > 0 || x.Metric == 0 && !isMatrix(n, x.Matrix); bad {
		l = append(l, f(8, 0))
	}
	for i := range n {
		l = append(l, ofNode(x, i)...)
	}
	return l
}

// ofWhole tells the faults of the whole, but those of the nodes' number and the matrix.
func ofWhole(x canon.Inst) (l []canon.Fault) {
	if !isName(x.Name) {
		l = append(l, f(1, 0))
	}
	if !within(x.Kind, 1, 4) {
		l = append(l, f(2, 0))
	}
	if !within(x.Metric, 0, 6) {
		l = append(l, f(3, 0))
	}
	if !within(x.Scale, 0, 6) || x.Metric == 0 && x.Scale != 0 {
		l = append(l, f(4, 0))
	}
	if x.Kind == 1 && x.Cap != 0 || x.Kind != 1 && !within(x.Cap, 1, most) {
		l = append(l, f(5, 0))
	}
	if x.Kind == 1 && x.Fleet != 0 || x.Kind != 1 && !within(x.Fleet, 0, 400) {
		l = append(l, f(6, 0))
	}
	return l
}

func isMatrix(n int, m []int) bool {
	if len(m) != n*n {
		return false
	}
	for i := range n {
		if m[i*n+i] != 0 {
			return false
		}
	}
	return !slices.ContainsFunc(m, func(d int) bool { return !within(d, 0, most) })
}

// ofNode tells the faults of node i.
func ofNode(x canon.Inst, i int) (l []canon.Fault) {
	a := x.Nodes[i]
	if x.Metric == 0 && (a.X != 0 || a.Y != 0) || !within(a.X, -most, most) || !within(a.Y, -most, most) {
		l = append(l, f(9, i))
	}
	switch {
	case x.Kind == 1 || i == 0:
		if a.Demand != 0 {
			l = append(l, f(10, i))
		}
	case x.Kind == 4:
		if !within(a.Demand, -most, most) {
			l = append(l, f(10, i))
		}
	case !within(a.Demand, 0, most):
		l = append(l, f(10, i))
	}
	timed := x.Kind != 1 && x.Kind != 2
	if !timed && (a.Ready != 0 || a.Due != 0) || !within(a.Ready, 0, most) || !within(a.Due, 0, most) || a.Ready > a.Due {
		l = append(l, f(11, i))
	}
	if !timed && a.Service != 0 || !within(a.Service, 0, most) {
		l = append(l, f(12, i))
	}
	if x.Kind == 4 && i != 0 {
		if !isMate(x.Nodes, i) {
			l = append(l, f(13, i))
		}
	} else if a.Mate != 0 {
		l = append(l, f(13, i))
	}
	return l
}

func isMate(nodes []canon.Node, i int) bool {
	a := nodes[i]
	if a.Mate < 1 || a.Mate > len(nodes)-1 || a.Mate == i || a.Demand == 0 {
		return false
	}
	b := nodes[a.Mate]
	return b.Mate == i && a.Demand+b.Demand == 0
}

// has holds that Check of x tells just these faults, and Well whether there are none.
func has(t *testing.T, what string, x canon.Inst, want ...canon.Fault) {
	t.Helper()
	if got := canon.Check(x); !slices.Equal(got, want) {
		t.Errorf("%s: faults %v, want %v, of %s", what, got, want, text(x))
	}
	if got := canon.Well(x); got != (len(want) == 0) {
		t.Errorf("%s: Well is %v of %s", what, got, text(x))
	}
}

// goes holds that Check of x goes by the chapter's words.
func goes(t *testing.T, what string, x canon.Inst) {
	t.Helper()
	has(t, what, x, faults(x)...)
}

// P8.1

func TestNumbers(t *testing.T) {
	for i, got := range []int{canon.Tsp, canon.Cvrp, canon.Vrptw, canon.Pdptw} {
		if got != i+1 {
			t.Errorf("kind %d has the number %d", i+1, got)
		}
	}
	for i, got := range []int{canon.Name, canon.Kind, canon.Metric, canon.Scale, canon.Cap, canon.Fleet, canon.Nodes, canon.Matrix, canon.Coord, canon.Demand, canon.Window, canon.Service, canon.Mate} {
		if got != i+1 {
			t.Errorf("field %d has the number %d", i+1, got)
		}
	}
}

func TestSamplesAreWell(t *testing.T) {
	for kind := 1; kind <= 4; kind++ {
		has(t, "points", sample(kind))
		has(t, "a matrix", square(sample(kind)))
		for metric := 1; metric <= 6; metric++ {
			for scale := range 7 {
				has(t, "any metric and scale", by(sample(kind), func(x *canon.Inst) { x.Metric, x.Scale = metric, scale }))
			}
		}
	}
}

// The chapter's example.
func TestNothingIsSet(t *testing.T) {
	has(t, "no field is set", canon.Inst{}, f(canon.Name, 0), f(canon.Kind, 0), f(canon.Cap, 0), f(canon.Nodes, 0))
	has(t, "lists without elements", canon.Inst{Nodes: []canon.Node{}, Matrix: []int{}}, f(canon.Name, 0), f(canon.Kind, 0), f(canon.Cap, 0), f(canon.Nodes, 0))
}

func TestName(t *testing.T) {
	for kind := 1; kind <= 4; kind++ {
		for _, s := range []string{"x", "Z", "0", ".", "_", "-", "a.B_9-", strings.Repeat("n", 39), strings.Repeat("N", 40)} {
			has(t, "a name", by(sample(kind), func(x *canon.Inst) { x.Name = s }))
		}
		for _, s := range []string{"", " ", "a b", " a", "a ", "a\n", "a:b", "é", "\xff", "\x00", "a\x00", strings.Repeat("n", 41), strings.Repeat("é", 20), strings.Repeat("n", 400)} {
			has(t, "no name", by(sample(kind), func(x *canon.Inst) { x.Name = s }), f(canon.Name, 0))
		}
	}
	for b := range 256 {
		goes(t, "a name of a byte", by(sample(1), func(x *canon.Inst) { x.Name = string([]byte{byte(b)}) }))
		goes(t, "a name with a byte", by(sample(4), func(x *canon.Inst) { x.Name = "n" + string([]byte{byte(b)}) + "m" }))
	}
}

func TestKind(t *testing.T) {
	for _, kind := range kinds {
		for own := 1; own <= 4; own++ {
			goes(t, "another kind", by(sample(own), func(x *canon.Inst) { x.Kind = kind }))
			goes(t, "another kind, a matrix", by(square(sample(own)), func(x *canon.Inst) { x.Kind = kind }))
		}
	}
}

// What is of no kind counts as others: it is as one of windows, without mates.
func TestNoKind(t *testing.T) {
	for _, kind := range kinds[4:] {
		of := func(change func(x *canon.Inst)) canon.Inst {
			x := by(sample(canon.Vrptw), change)
			x.Kind = kind
			return x
		}
		has(t, "else well", of(func(x *canon.Inst) {}), f(canon.Kind, 0))
		has(t, "no capacity", of(func(x *canon.Inst) { x.Cap = 0 }), f(canon.Kind, 0), f(canon.Cap, 0))
		has(t, "a great fleet", of(func(x *canon.Inst) { x.Fleet = 401 }), f(canon.Kind, 0), f(canon.Fleet, 0))
		has(t, "a demand below 0", of(func(x *canon.Inst) { x.Nodes[2].Demand = -1 }), f(canon.Kind, 0), f(canon.Demand, 2))
		has(t, "a window the wrong way", of(func(x *canon.Inst) { x.Nodes[2].Ready = 13 }), f(canon.Kind, 0), f(canon.Window, 2))
		has(t, "a great service", of(func(x *canon.Inst) { x.Nodes[2].Service = most + 1 }), f(canon.Kind, 0), f(canon.Service, 2))
		has(t, "a mate", of(func(x *canon.Inst) { x.Nodes[2].Mate = 1 }), f(canon.Kind, 0), f(canon.Mate, 2))
	}
}

func TestMetricAndScale(t *testing.T) {
	for _, metric := range metrics {
		for _, scale := range wide {
			for _, kind := range []int{1, 2, 3, 4, 0, 5} {
				change := func(x *canon.Inst) { x.Metric, x.Scale, x.Kind = metric, scale, kind }
				goes(t, "points", by(sample(3), change))
				goes(t, "a matrix", by(square(sample(2)), change))
			}
		}
	}
	has(t, "no scale of a matrix", square(sample(2)))
	has(t, "a scale of a matrix", by(square(sample(2)), func(x *canon.Inst) { x.Scale = 1 }), f(canon.Scale, 0))
	has(t, "a scale that is too great", by(sample(2), func(x *canon.Inst) { x.Scale = 7 }), f(canon.Scale, 0))
	has(t, "a scale below 0", by(sample(2), func(x *canon.Inst) { x.Scale = -1 }), f(canon.Scale, 0))
	has(t, "no metric", by(sample(2), func(x *canon.Inst) { x.Metric = 7 }), f(canon.Metric, 0))
	has(t, "no metric, but a matrix", by(square(sample(2)), func(x *canon.Inst) { x.Metric = -1 }), f(canon.Metric, 0), f(canon.Matrix, 0))
}

func TestCapAndFleet(t *testing.T) {
	for _, kind := range kinds {
		for own := 1; own <= 4; own++ {
			for _, n := range wide {
				goes(t, "a capacity", by(sample(own), func(x *canon.Inst) { x.Kind, x.Cap = kind, n }))
				goes(t, "a fleet", by(sample(own), func(x *canon.Inst) { x.Kind, x.Fleet = kind, n }))
			}
		}
	}
	for _, n := range []int{math.MinInt, -1, 1, most, most + 1, math.MaxInt} {
		has(t, "a tour with a capacity", by(sample(1), func(x *canon.Inst) { x.Cap = n }), f(canon.Cap, 0))
		has(t, "a tour with a fleet", by(sample(1), func(x *canon.Inst) { x.Fleet = n }), f(canon.Fleet, 0))
	}
	for kind := 2; kind <= 4; kind++ {
		for _, n := range []int{1, 2, most - 1, most} {
			has(t, "a capacity", by(sample(kind), func(x *canon.Inst) { x.Cap = n }))
		}
		for _, n := range []int{math.MinInt, -most, -1, 0, most + 1, 1<<32 + 1, math.MaxInt} {
			has(t, "no capacity", by(sample(kind), func(x *canon.Inst) { x.Cap = n }), f(canon.Cap, 0))
		}
		for _, n := range []int{0, 1, 399, 400} {
			has(t, "a fleet", by(sample(kind), func(x *canon.Inst) { x.Fleet = n }))
		}
		for _, n := range []int{math.MinInt, -400, -1, 401, most, 1<<32 + 1, math.MaxInt} {
			has(t, "no fleet", by(sample(kind), func(x *canon.Inst) { x.Fleet = n }), f(canon.Fleet, 0))
		}
	}
}

// P8.1: how many nodes

// many makes an instance of a kind, of a depot and customers, n of them together, without another
// fault than perhaps that of their number.
func many(kind, n int) canon.Inst {
	x := sample(kind)
	x.Nodes = make([]canon.Node, n)
	if kind != canon.Pdptw {
		return x
	}
	for i := 1; i < n; i += 2 {
		// An even number of nodes has one customer that is left over.
		if i+1 < n {
			x.Nodes[i] = canon.Node{Demand: i, Mate: i + 1}
			x.Nodes[i+1] = canon.Node{Demand: -i, Mate: i}
		}
	}
	return x
}

func TestManyNodes(t *testing.T) {
	for kind := 1; kind <= 3; kind++ {
		for _, n := range []int{1, 2, 3, 399, 400} {
			has(t, "nodes", many(kind, n))
			has(t, "nodes, a matrix", square(many(kind, n)))
		}
		for _, n := range []int{0, 401, 402, 420, 656, 801} {
			has(t, "too many nodes, or none", many(kind, n), f(canon.Nodes, 0))
		}
	}
	for _, n := range []int{1, 3, 5, 399} {
		has(t, "pairs", many(canon.Pdptw, n))
		has(t, "pairs, a matrix", square(many(canon.Pdptw, n)))
	}
	for _, n := range []int{2, 4, 400} {
		has(t, "a customer without a mate", many(canon.Pdptw, n), f(canon.Mate, n-1))
	}
	has(t, "no node", many(canon.Pdptw, 0), f(canon.Nodes, 0))
	has(t, "too many nodes", many(canon.Pdptw, 401), f(canon.Nodes, 0))
}

// Of no node, and of too many, no more is looked at.
func TestNoMoreThanNodes(t *testing.T) {
	wrong := canon.Node{X: most + 1, Y: math.MinInt, Demand: math.MinInt, Ready: 2, Due: 1, Service: -1, Mate: 999}
	for _, kind := range kinds {
		for _, n := range []int{0, 401, 402} {
			for _, metric := range metrics {
				for _, k := range []int{0, 1, n, n * n} {
					x := canon.Inst{Name: "a b", Kind: kind, Metric: metric, Scale: -1, Cap: -1, Fleet: -1, Nodes: slices.Repeat([]canon.Node{wrong}, n), Matrix: make([]int, k)}
					want := []canon.Fault{f(1, 0), f(4, 0), f(5, 0), f(6, 0), f(7, 0)}
					if !within(metric, 0, 6) {
						want = slices.Insert(want, 1, f(3, 0))
					}
					if !within(kind, 1, 4) {
						want = slices.Insert(want, 1, f(2, 0))
					}
					has(t, "nodes beside other faults", x, want...)
				}
			}
		}
	}
}

// P8.1: the matrix

func TestMatrix(t *testing.T) {
	for kind := 1; kind <= 4; kind++ {
		for _, n := range []int{1, 3, 5} {
			x := square(many(kind, n))
			for k := range n*n + 12 {
				y := by(x, func(x *canon.Inst) { x.Matrix = make([]int, k) })
				if k == n*n {
					has(t, "as many as are to be", y)
				} else {
					has(t, "more or less", y, f(canon.Matrix, 0))
				}
			}
			for at := range n * n {
				for _, d := range wide {
					y := by(x, func(x *canon.Inst) { x.Matrix[at] = d })
					if fits := d == 0 || at%(n+1) != 0 && within(d, 0, most); fits {
						has(t, "an element", y)
					} else {
						has(t, "a wrong element", y, f(canon.Matrix, 0))
					}
				}
			}
		}
	}
}

func TestMatrixOfManyNodes(t *testing.T) {
	const n = 400
	x := square(many(canon.Cvrp, n))
	for _, at := range []int{1, n - 1, n, n + 2, n*n - 2} {
		has(t, "the greatest", by(x, func(x *canon.Inst) { x.Matrix[at] = most }))
		has(t, "too great", by(x, func(x *canon.Inst) { x.Matrix[at] = most + 1 }), f(canon.Matrix, 0))
		has(t, "below 0", by(x, func(x *canon.Inst) { x.Matrix[at] = -1 }), f(canon.Matrix, 0))
	}
	for _, i := range []int{0, 1, 200, 399} {
		has(t, "of i and i", by(x, func(x *canon.Inst) { x.Matrix[i*n+i] = 1 }), f(canon.Matrix, 0))
	}
	for _, k := range []int{0, 1, n, n*n - 1, n*n + 1, 401 * 401} {
		has(t, "more or less", by(x, func(x *canon.Inst) { x.Matrix = make([]int, k) }), f(canon.Matrix, 0))
	}
}

func TestMatrixBesidePoints(t *testing.T) {
	for kind := 1; kind <= 4; kind++ {
		for metric := 1; metric <= 6; metric++ {
			for _, k := range []int{1, 5, 24, 25, 26} {
				has(t, "a matrix beside points", by(sample(kind), func(x *canon.Inst) { x.Metric, x.Matrix = metric, make([]int, k) }), f(canon.Matrix, 0))
			}
			has(t, "none beside points", by(sample(kind), func(x *canon.Inst) { x.Metric, x.Matrix = metric, []int{} }))
		}
		has(t, "none, and no points", by(square(sample(kind)), func(x *canon.Inst) { x.Matrix = nil }), f(canon.Matrix, 0))
	}
}

// P8.1: the nodes

// set changes one field of a node, by its number in the order of Node.
func set(n *canon.Node, field, v int) {
	*[]*int{&n.X, &n.Y, &n.Demand, &n.Ready, &n.Due, &n.Service, &n.Mate}[field] = v
}

// Each field of each node, at all bounds, of every kind, with points and with a matrix.
func TestOneFieldOfANode(t *testing.T) {
	for _, kind := range kinds {
		for own := 1; own <= 4; own++ {
			for _, x := range []canon.Inst{sample(own), square(sample(own))} {
				for i := range x.Nodes {
					for field := range 7 {
						for _, v := range wide {
							y := by(x, func(x *canon.Inst) { x.Kind = kind; set(&x.Nodes[i], field, v) })
							goes(t, "a field of a node", y)
						}
					}
				}
			}
		}
	}
}

// bounds are the least and the greatest number that a field of a node may be, and its fault else.
type bounds struct {
	what            string
	kind, node      int
	field           int
	least, greatest int
	fault           int
}

func TestBoundsOfANode(t *testing.T) {
	for _, b := range []bounds{
		{"X", 1, 0, 0, -most, most, canon.Coord}, {"Y", 1, 0, 1, -most, most, canon.Coord},
		{"X", 2, 1, 0, -most, most, canon.Coord}, {"Y", 3, 2, 1, -most, most, canon.Coord},
		{"X", 4, 4, 0, -most, most, canon.Coord}, {"Y", 4, 4, 1, -most, most, canon.Coord},
		{"a tour's demand", 1, 0, 2, 0, 0, canon.Demand}, {"a tour's demand", 1, 3, 2, 0, 0, canon.Demand},
		{"the depot's demand", 2, 0, 2, 0, 0, canon.Demand}, {"the depot's demand", 3, 0, 2, 0, 0, canon.Demand}, {"the depot's demand", 4, 0, 2, 0, 0, canon.Demand},
		{"a demand", 2, 1, 2, 0, most, canon.Demand}, {"a demand", 3, 4, 2, 0, most, canon.Demand},
		{"a time", 1, 0, 3, 0, 0, canon.Window}, {"a time", 1, 1, 4, 0, 0, canon.Window},
		{"a time", 2, 0, 3, 0, 0, canon.Window}, {"a time", 2, 1, 4, 0, 0, canon.Window},
		{"Ready, up to Due", 3, 0, 3, 0, 10, canon.Window}, {"Ready, up to Due", 3, 1, 3, 0, 11, canon.Window}, {"Ready, up to Due", 4, 4, 3, 0, 14, canon.Window},
		{"Due, from Ready on", 3, 0, 4, 0, most, canon.Window}, {"Due, from Ready on", 3, 1, 4, 1, most, canon.Window}, {"Due, from Ready on", 4, 4, 4, 4, most, canon.Window},
		{"a service", 1, 2, 5, 0, 0, canon.Service}, {"a service", 2, 2, 5, 0, 0, canon.Service},
		{"a service", 3, 0, 5, 0, most, canon.Service}, {"a service", 3, 2, 5, 0, most, canon.Service}, {"a service", 4, 0, 5, 0, most, canon.Service}, {"a service", 4, 4, 5, 0, most, canon.Service},
		{"a mate", 1, 1, 6, 0, 0, canon.Mate}, {"a mate", 2, 1, 6, 0, 0, canon.Mate}, {"a mate", 3, 1, 6, 0, 0, canon.Mate},
		{"the depot's mate", 1, 0, 6, 0, 0, canon.Mate}, {"the depot's mate", 4, 0, 6, 0, 0, canon.Mate},
	} {
		for _, v := range []int{b.least, b.least + 1, b.greatest - 1, b.greatest, b.least - 1, b.greatest + 1, math.MinInt, math.MaxInt} {
			x := by(sample(b.kind), func(x *canon.Inst) { set(&x.Nodes[b.node], b.field, v) })
			if within(v, b.least, b.greatest) {
				has(t, b.what, x)
			} else {
				has(t, b.what, x, f(b.fault, b.node))
			}
		}
	}
}

// A pair's demands go up to the greatest number, either way.
func TestDemandsOfPairs(t *testing.T) {
	of := func(d int) canon.Inst {
		return by(sample(canon.Pdptw), func(x *canon.Inst) { x.Nodes[1].Demand, x.Nodes[3].Demand = d, -d })
	}
	for _, d := range []int{1, -1, 2, -2, most - 1, most, -most, 1 - most} {
		has(t, "a pair", of(d))
	}
	for _, d := range []int{most + 1, -most - 1, 1 << 32, math.MaxInt, -math.MaxInt} {
		has(t, "a pair of too great a demand", of(d), f(canon.Demand, 1), f(canon.Demand, 3))
	}
	// The opposite of the least int is itself (R8).
	has(t, "the least of all", of(math.MinInt), f(canon.Demand, 1), f(canon.Demand, 3))
	has(t, "no demand", of(0), f(canon.Mate, 1), f(canon.Mate, 3))
}

func TestPointsBesideAMatrix(t *testing.T) {
	for kind := 1; kind <= 4; kind++ {
		for _, v := range []int{1, -1, most, -most, most + 1, 1 << 32, math.MinInt} {
			for i := range 5 {
				has(t, "X", by(square(sample(kind)), func(x *canon.Inst) { x.Nodes[i].X = v }), f(canon.Coord, i))
				has(t, "Y", by(square(sample(kind)), func(x *canon.Inst) { x.Nodes[i].Y = v }), f(canon.Coord, i))
			}
		}
	}
}

// All windows of numbers at and beside the bounds.
func TestWindows(t *testing.T) {
	for kind := range 6 {
		for _, ready := range wide {
			for _, due := range wide {
				for _, i := range []int{0, 2} {
					goes(t, "a window", by(sample(max(1, min(4, kind))), func(x *canon.Inst) { x.Kind, x.Nodes[i].Ready, x.Nodes[i].Due = kind, ready, due }))
				}
			}
		}
	}
	for _, v := range []int{0, 1, most - 1, most} {
		has(t, "Ready and Due are the same", by(sample(3), func(x *canon.Inst) { x.Nodes[2].Ready, x.Nodes[2].Due = v, v }))
		has(t, "Ready and Due of the depot are the same", by(sample(4), func(x *canon.Inst) { x.Nodes[0].Ready, x.Nodes[0].Due = v, v }))
	}
}

// P8.1: mates

func TestMates(t *testing.T) {
	of := func(change func(l []canon.Node)) canon.Inst {
		return by(sample(canon.Pdptw), func(x *canon.Inst) { change(x.Nodes) })
	}
	first, third := f(canon.Mate, 1), f(canon.Mate, 3)
	both := []canon.Fault{first, third}
	has(t, "the depot", of(func(l []canon.Node) { l[1].Mate = 0 }), both...)
	has(t, "both have the depot", of(func(l []canon.Node) { l[1].Mate, l[3].Mate = 0, 0 }), both...)
	has(t, "the depot, that has it", of(func(l []canon.Node) { l[1].Mate, l[0].Mate, l[0].Demand = 0, 1, -1 }), f(canon.Demand, 0), f(canon.Mate, 0), first, third)
	has(t, "the node itself", of(func(l []canon.Node) { l[1].Mate = 1 }), both...)
	has(t, "the node itself, of the least demand", of(func(l []canon.Node) { l[1].Mate, l[1].Demand = 1, math.MinInt }), f(canon.Demand, 1), first, third)
	has(t, "behind the last node", of(func(l []canon.Node) { l[1].Mate = 5 }), both...)
	has(t, "far behind it", of(func(l []canon.Node) { l[1].Mate = math.MaxInt }), both...)
	has(t, "below 0", of(func(l []canon.Node) { l[1].Mate = -1 }), both...)
	has(t, "far below 0", of(func(l []canon.Node) { l[3].Mate = math.MinInt }), both...)
	has(t, "its place lost in bits", of(func(l []canon.Node) { l[1].Mate = 1<<32 + 3 }), both...)
	has(t, "one that has another mate", of(func(l []canon.Node) { l[1].Mate = 4 }), both...)
	has(t, "one that has another one's mate", of(func(l []canon.Node) { l[3].Mate = 2 }), both...)
	has(t, "one of another demand", of(func(l []canon.Node) { l[3].Demand = -2 }), both...)
	has(t, "one of the same demand", of(func(l []canon.Node) { l[3].Demand = 1 }), both...)
	has(t, "one of no demand", of(func(l []canon.Node) { l[3].Demand = 0 }), both...)
	has(t, "none of both has a demand", of(func(l []canon.Node) { l[1].Demand, l[3].Demand = 0, 0 }), both...)
	has(t, "the delivery ahead of the pickup", of(func(l []canon.Node) { l[1].Demand, l[3].Demand = -1, 1 }))
	has(t, "pairs that change mates", of(func(l []canon.Node) { l[1].Mate, l[2].Mate, l[3].Mate, l[4].Mate = 4, 3, 2, 1 }), f(canon.Mate, 1), f(canon.Mate, 2), f(canon.Mate, 3), f(canon.Mate, 4))
	has(t, "of the same demand they may", of(func(l []canon.Node) {
		l[1].Mate, l[2].Mate, l[3].Mate, l[4].Mate = 4, 3, 2, 1
		l[2].Demand, l[4].Demand = 1, -1
	}))
	has(t, "in a ring", of(func(l []canon.Node) { l[1].Mate, l[3].Mate, l[2].Mate, l[4].Mate = 3, 2, 4, 1 }), f(canon.Mate, 1), f(canon.Mate, 2), f(canon.Mate, 3), f(canon.Mate, 4))
}

// All mates of three customers, beside and beyond them, of all small demands.
func TestAllMates(t *testing.T) {
	x := many(canon.Pdptw, 4)
	places := []int{-1, 0, 1, 2, 3, 4}
	demands := []int{-2, -1, 0, 1, 2}
	for k := range 6 * 6 * 6 * 5 * 5 * 5 {
		for i := 1; i <= 3; i++ {
			x.Nodes[i].Mate, k = places[k%6], k/6
			x.Nodes[i].Demand, k = demands[k%5], k/5
		}
		goes(t, "three customers", x)
	}
}

func TestMatesOfOtherKinds(t *testing.T) {
	for _, kind := range []int{1, 2, 3, 0, 5} {
		for _, mate := range []int{-1, 1, 2, 4, 5, math.MinInt, math.MaxInt} {
			x := by(sample(min(max(1, kind), 3)), func(x *canon.Inst) { x.Kind, x.Nodes[1].Mate = kind, mate })
			want := []canon.Fault{f(canon.Mate, 1)}
			if !within(kind, 1, 4) {
				x = by(sample(3), func(x *canon.Inst) { x.Kind, x.Nodes[1].Mate = kind, mate })
				want = slices.Insert(want, 0, f(canon.Kind, 0))
			}
			has(t, "a mate", x, want...)
		}
	}
	paired := sample(canon.Pdptw)
	for _, x := range []struct {
		kind int
		want []canon.Fault
	}{
		{canon.Vrptw, []canon.Fault{f(13, 1), f(13, 2), f(10, 3), f(13, 3), f(10, 4), f(13, 4)}},
		{canon.Cvrp, []canon.Fault{f(11, 0), f(11, 1), f(12, 1), f(13, 1), f(11, 2), f(12, 2), f(13, 2), f(10, 3), f(11, 3), f(12, 3), f(13, 3), f(10, 4), f(11, 4), f(12, 4), f(13, 4)}},
	} {
		has(t, "pairs of another kind", by(paired, func(y *canon.Inst) { y.Kind = x.kind }), x.want...)
	}
}

// P8.1: several faults at once, in their order

func TestAllFaultsAtOnce(t *testing.T) {
	wrong := canon.Node{X: most + 1, Demand: -most - 1, Ready: 2, Due: 1, Service: -1, Mate: 9}
	x := canon.Inst{Name: "", Kind: 5, Metric: 7, Scale: 7, Cap: 0, Fleet: -1, Nodes: []canon.Node{wrong, wrong, wrong}, Matrix: []int{1}}
	want := []canon.Fault{f(1, 0), f(2, 0), f(3, 0), f(4, 0), f(5, 0), f(6, 0), f(8, 0)}
	for i := range 3 {
		want = append(want, f(9, i), f(10, i), f(11, i), f(12, i), f(13, i))
	}
	has(t, "all", x, want...)
	x.Nodes = slices.Repeat([]canon.Node{wrong}, 400)
	for i := 3; i < 400; i++ {
		want = append(want, f(9, i), f(10, i), f(11, i), f(12, i), f(13, i))
	}
	has(t, "all of 400 nodes", x, want...)
}

// X and Y, or Ready and Due, are one fault, and a matrix of several wrong elements too.
func TestAFaultIsToldOnce(t *testing.T) {
	has(t, "X and Y", by(sample(3), func(x *canon.Inst) { x.Nodes[1].X, x.Nodes[1].Y = most+1, -most-1 }), f(canon.Coord, 1))
	has(t, "Ready and Due", by(sample(3), func(x *canon.Inst) { x.Nodes[1].Ready, x.Nodes[1].Due = most+2, -1 }), f(canon.Window, 1))
	has(t, "elements", by(square(sample(3)), func(x *canon.Inst) { x.Matrix = slices.Repeat([]int{-1}, 25) }), f(canon.Matrix, 0))
}

// chance makes numbers that seem to have no order, always the same ones of a seed.
func chance(seed int) *rand.Rand { return rand.New(rand.NewSource(int64(seed))) }

// spoil sets some fields of x to numbers at and beside the bounds.
func spoil(r *rand.Rand, x *canon.Inst) {
	some := func() int { return wide[r.Intn(len(wide))] }
	for range 1 + r.Intn(4) {
		switch r.Intn(11) {
		case 0:
			x.Name = []string{"", "a b", "x", strings.Repeat("n", 41)}[r.Intn(4)]
		case 1:
			x.Kind = kinds[r.Intn(7)]
		case 2:
			x.Metric = metrics[r.Intn(9)]
		case 3:
			x.Scale = some()
		case 4:
			x.Cap = some()
		case 5:
			x.Fleet = some()
		case 6:
			x.Matrix = make([]int, []int{0, 1, len(x.Nodes) * len(x.Nodes)}[r.Intn(3)])
		case 7:
			if len(x.Matrix) > 0 {
				x.Matrix[r.Intn(len(x.Matrix))] = some()
			}
		default:
			if len(x.Nodes) > 0 {
				set(&x.Nodes[r.Intn(len(x.Nodes))], r.Intn(7), some())
			}
		}
	}
}

func TestSeveralFaults(t *testing.T) {
	r := chance(8)
	told := map[int]bool{}
	for range 60000 {
		x := sample(1 + r.Intn(4))
		if r.Intn(3) == 0 {
			x = square(x)
		}
		if r.Intn(20) == 0 {
			x.Nodes = x.Nodes[:r.Intn(5)]
		}
		spoil(r, &x)
		for _, y := range faults(x) {
			told[y.Field] = true
		}
		goes(t, "several faults", x)
	}
	for field := canon.Name; field <= canon.Mate; field++ {
		if !told[field] {
			t.Errorf("no instance had a fault of field %d", field)
		}
	}
}

// P8.2: the normal form

// zeros tells how many zeros a number ends in; of 0 as many as are asked for.
func zeros(n int) int {
	if n == 0 {
		return math.MaxInt
	}
	s := strconv.Itoa(n)
	return len(s) - len(strings.TrimRight(s, "0"))
}

// cut tells a number that ends in k zeros without these.
func cut(n, k int) int {
	if n == 0 {
		return 0
	}
	s := strconv.Itoa(n)
	short, err := strconv.Atoi(s[:len(s)-k])
	if err != nil {
		panic(err)
	}
	return short
}

// norm tells what P8.2 says of Norm: so many zeros as all numbers end in, Scale of them at most.
func norm(x canon.Inst) canon.Inst {
	x = copied(x)
	if !within(x.Scale, 1, 6) {
		return x
	}
	k := x.Scale
	for _, n := range x.Nodes {
		k = min(k, zeros(n.X), zeros(n.Y))
	}
	for i, n := range x.Nodes {
		x.Nodes[i].X, x.Nodes[i].Y = cut(n.X, k), cut(n.Y, k)
	}
	x.Scale -= k
	return x
}

// becomes holds that Norm of x is want.
func becomes(t *testing.T, what string, x, want canon.Inst) {
	t.Helper()
	if got := canon.Norm(x); text(got) != text(want) {
		t.Errorf("%s: %s, want %s, of %s", what, text(got), text(want), text(x))
	}
}

// points makes an instance of a scale, and of points X, Y one by one; all else in it is set.
func points(scale int, l ...int) canon.Inst {
	x := canon.Inst{Name: "p", Kind: canon.Vrptw, Metric: 6, Scale: scale, Cap: 100, Fleet: 20}
	for i := 0; i < len(l); i += 2 {
		x.Nodes = append(x.Nodes, canon.Node{X: l[i], Y: l[i+1], Demand: 10 * i, Ready: 100, Due: 2000, Service: 30, Mate: 40})
	}
	return x
}

func TestNorm(t *testing.T) {
	for _, c := range []struct {
		what    string
		x, want canon.Inst
	}{
		{"once, as far as the scale goes", points(1, 10, -20, 0, 300), points(0, 1, -2, 0, 30)},
		{"once, as far as the points go", points(6, 10, -20, 0, 300), points(5, 1, -2, 0, 30)},
		{"several times", points(6, 12000, -3000, 0, 400000), points(3, 12, -3, 0, 400)},
		{"all six", points(6, 1000000, -2000000, 0, 30000000), points(0, 1, -2, 0, 30)},
		{"the greatest", points(6, most, -most, 0, 0), points(0, 100, -100, 0, 0)},
		{"one point at 0", points(6, 0, 0), points(0, 0, 0)},
		{"points at 0", points(3, 0, 0, 0, 0, 0, 0), points(0, 0, 0, 0, 0, 0, 0)},
		{"X of one is no ten", points(2, 100, 200, 301, 400), points(2, 100, 200, 301, 400)},
		{"Y of one is no ten", points(2, 100, 200, 300, -405), points(2, 100, 200, 300, -405)},
		{"X of the depot is no ten", points(2, -9, 200, 300, 400), points(2, -9, 200, 300, 400)},
		{"Y of the depot is no ten", points(2, 100, 2, 300, 400), points(2, 100, 2, 300, 400)},
		{"one is ten just once", points(2, 100, 200, 310, 400), points(1, 10, 20, 31, 40)},
		{"below 0, just once", points(2, -100, -200, -310, -400), points(1, -10, -20, -31, -40)},
		{"halves of tens", points(1, 5, -5, 15, 10), points(1, 5, -5, 15, 10)},
		{"no scale", points(0, 10, 20, 30, 40), points(0, 10, 20, 30, 40)},
		{"below the scales", points(-1, 10, 20, 30, 40), points(-1, 10, 20, 30, 40)},
		{"beyond the scales", points(7, 10, 20, 30, 40), points(7, 10, 20, 30, 40)},
		{"far below the scales", points(math.MinInt, 0, 0), points(math.MinInt, 0, 0)},
		{"far beyond the scales", points(math.MaxInt, 0, 0), points(math.MaxInt, 0, 0)},
		{"no node", points(6), points(0)},
		{"no node, beyond the scales", points(7), points(7)},
		{"beyond all points", points(2, 10*most, -20*most), points(0, most/10, -most/5)},
		{"the widest tens", points(3, math.MaxInt-7, math.MinInt+8), points(1, math.MaxInt/100, math.MinInt/100)},
		{"the widest numbers", points(3, math.MaxInt, math.MinInt), points(3, math.MaxInt, math.MinInt)},
	} {
		becomes(t, c.what, c.x, c.want)
		becomes(t, c.what+", again", c.want, c.want)
		if got := norm(c.x); text(got) != text(c.want) {
			t.Errorf("%s: by the words %s", c.what, text(got))
		}
	}
}

// All else stays as it is, well-formed or not.
func TestNormOfOtherFields(t *testing.T) {
	odd := canon.Inst{Name: "a b\xff", Kind: -7, Metric: 0, Scale: 2, Cap: 1000, Fleet: -10, Matrix: []int{10, 20, -30},
		Nodes: []canon.Node{{X: 100, Y: 20, Demand: 10, Ready: 500, Due: 40, Service: -10, Mate: 1000}, {Mate: 10}}}
	becomes(t, "odd", odd, by(odd, func(x *canon.Inst) { x.Scale, x.Nodes[0].X, x.Nodes[0].Y = 1, 10, 2 }))
	for kind := 1; kind <= 4; kind++ {
		becomes(t, "a matrix", square(sample(kind)), square(sample(kind)))
		becomes(t, "its own", sample(kind), sample(kind))
		for metric := range 7 {
			becomes(t, "tens", by(sample(kind), func(x *canon.Inst) { x.Metric, x.Nodes[1].Y = metric, 40 }), by(sample(kind), func(x *canon.Inst) {
				x.Metric, x.Scale = metric, 0
				for i, p := range [][2]int{{1, 2}, {-3, 4}, {5, 0}, {0, -6}, {1, 2}} {
					x.Nodes[i].X, x.Nodes[i].Y = p[0], p[1]
				}
			}))
		}
	}
	becomes(t, "nothing is set", canon.Inst{}, canon.Inst{})
}

// All or all but one of many nodes are ten times others.
func TestNormOfManyNodes(t *testing.T) {
	for _, n := range []int{1, 2, 5, 60, 400, 401, 420} {
		x := points(2, make([]int, 2*n)...)
		for i := range x.Nodes {
			x.Nodes[i].X, x.Nodes[i].Y = 100*i, -1000*(n-i)
		}
		becomes(t, "all", x, norm(x))
		if got := canon.Norm(x); got.Scale != 0 {
			t.Errorf("%d nodes: scale %d", n, got.Scale)
		}
		for _, i := range []int{0, 1, n / 2, n - 2, n - 1} {
			if !within(i, 0, n-1) {
				continue
			}
			for _, d := range []int{1, -1, 5, 9} {
				x.Nodes[i].X += d
				becomes(t, "all but one", x, x)
				x.Nodes[i].X -= d
				x.Nodes[i].Y += d
				becomes(t, "all but one", x, x)
				x.Nodes[i].Y -= d
			}
		}
	}
}

// Of every scale, with every count of zeros, of either sign.
func TestNormOfEveryScale(t *testing.T) {
	for scale := -2; scale <= 9; scale++ {
		tens := 1
		for range 9 {
			for _, a := range []int{0, 1, -1, 7, -12, 305} {
				for _, b := range []int{0, 1, -5, 20, -400} {
					x := points(scale, a*tens, b*tens, b*tens, 0)
					becomes(t, "zeros", x, norm(x))
				}
			}
			tens *= 10
		}
	}
}

func TestNormOfChance(t *testing.T) {
	r := chance(82)
	for range 20000 {
		l := make([]int, 2*r.Intn(6))
		tens := []int{1, 10, 100, 1000, 10000, 100000, 1000000, 10000000}
		for i := range l {
			l[i] = (r.Intn(2001) - 1000) * tens[r.Intn(3)+min(5, r.Intn(30))]
		}
		x := points(r.Intn(9)-1, l...)
		becomes(t, "chance", x, norm(x))
	}
}

// P8.2: Same

// same holds what Same tells of a and b, either way round.
func same(t *testing.T, what string, a, b canon.Inst, want bool) {
	t.Helper()
	if canon.Same(a, b) != want || canon.Same(b, a) != want {
		t.Errorf("%s: Same is %v and %v of %s and %s", what, canon.Same(a, b), canon.Same(b, a), text(a), text(b))
	}
}

// changes are all that change one field of the whole by some number.
func changes(d int) []func(x *canon.Inst) {
	return []func(x *canon.Inst){
		func(x *canon.Inst) { x.Kind += d }, func(x *canon.Inst) { x.Metric += d }, func(x *canon.Inst) { x.Scale += d },
		func(x *canon.Inst) { x.Cap += d }, func(x *canon.Inst) { x.Fleet += d },
	}
}

func TestSame(t *testing.T) {
	all := []canon.Inst{{}, points(7, 1, 2), {Name: "a b", Matrix: []int{1, 2}}, {Kind: math.MinInt, Cap: math.MaxInt}}
	for kind := 1; kind <= 4; kind++ {
		all = append(all, sample(kind), square(sample(kind)))
	}
	for i, a := range all {
		for j, b := range all {
			same(t, "instances", a, copied(b), i == j)
		}
	}
}

func TestOneFieldIsAnother(t *testing.T) {
	for kind := 1; kind <= 4; kind++ {
		for _, x := range []canon.Inst{sample(kind), square(sample(kind))} {
			for _, d := range []int{1, -1, 1 << 32, math.MinInt} {
				for _, change := range changes(d) {
					same(t, "a field", x, by(x, change), false)
				}
				for i := range x.Nodes {
					for field := range 7 {
						v := x.Nodes[i]
						n := []int{v.X, v.Y, v.Demand, v.Ready, v.Due, v.Service, v.Mate}[field]
						same(t, "a field of a node", x, by(x, func(x *canon.Inst) { set(&x.Nodes[i], field, n+d) }), false)
					}
				}
				for at := range x.Matrix {
					same(t, "an element", x, by(x, func(x *canon.Inst) { x.Matrix[at] += d }), false)
				}
			}
			for _, s := range []string{"", "a.B_9", "a.B_9--", "A.B_9-", "a.B_9\x00", "\xff"} {
				same(t, "the name", x, by(x, func(x *canon.Inst) { x.Name = s }), false)
			}
		}
	}
}

func TestListsAreOthers(t *testing.T) {
	x := by(points(1, 1, 2, 3, 4, 5, 6), func(x *canon.Inst) { x.Matrix = []int{1, 2, 3} })
	for k := range 3 {
		same(t, "fewer nodes", x, by(x, func(x *canon.Inst) { x.Nodes = x.Nodes[:k] }), false)
		same(t, "fewer elements", x, by(x, func(x *canon.Inst) { x.Matrix = x.Matrix[:k] }), false)
	}
	same(t, "a node more", x, by(x, func(x *canon.Inst) { x.Nodes = append(x.Nodes, canon.Node{}) }), false)
	same(t, "an element more", x, by(x, func(x *canon.Inst) { x.Matrix = append(x.Matrix, 0) }), false)
	same(t, "nodes in another order", x, by(x, func(x *canon.Inst) { slices.Reverse(x.Nodes) }), false)
	same(t, "elements in another order", x, by(x, func(x *canon.Inst) { slices.Reverse(x.Matrix) }), false)
	same(t, "room behind", x, by(x, func(x *canon.Inst) {
		x.Nodes, x.Matrix = append(x.Nodes, canon.Node{})[:3], append(x.Matrix, 7)[:3]
	}), true)
	same(t, "X and Y change places", points(0, 1, 2), points(0, 2, 1), false)
	same(t, "the same places in another scale", points(0, 1, 2), points(1, 10, 20), false)
}

// R6: lists without elements and nil lists are alike.
func TestListsWithoutElements(t *testing.T) {
	for kind := 1; kind <= 4; kind++ {
		x := by(sample(kind), func(x *canon.Inst) { x.Nodes, x.Matrix = nil, nil })
		y := by(x, func(x *canon.Inst) { x.Nodes, x.Matrix = []canon.Node{}, []int{} })
		same(t, "no element", x, y, true)
		same(t, "no element in the normal form", canon.Norm(x), canon.Norm(y), true)
		if a, b := canon.Check(x), canon.Check(y); !slices.Equal(a, b) {
			t.Errorf("kind %d: faults %v and %v", kind, a, b)
		}
	}
}

func TestSameOfManyNodes(t *testing.T) {
	x := square(many(canon.Cvrp, 400))
	same(t, "as they are", x, copied(x), true)
	for _, i := range []int{0, 200, 399} {
		same(t, "one node", x, by(x, func(x *canon.Inst) { x.Nodes[i].Mate = 1 }), false)
		same(t, "one element", x, by(x, func(x *canon.Inst) { x.Matrix[i*401]++ }), false)
	}
}

// P8.3

func TestNormStaysWell(t *testing.T) {
	r := chance(83)
	for range 20000 {
		x := sample(1 + r.Intn(4))
		x.Metric, x.Scale = 1+r.Intn(6), r.Intn(7)
		tens := []int{1, 10, 100, 1000, 10000, 100000, 1000000}[r.Intn(7)]
		for i := range x.Nodes {
			x.Nodes[i].X, x.Nodes[i].Y = tens*(r.Intn(201)-100), tens*(r.Intn(201)-100)
		}
		if r.Intn(5) == 0 {
			x = square(x)
		}
		has(t, "as it is", x)
		has(t, "in its normal form", canon.Norm(x))
	}
}

func TestNormIsItsOwn(t *testing.T) {
	r := chance(84)
	for range 20000 {
		x := sample(1 + r.Intn(4))
		for i := range x.Nodes {
			x.Nodes[i].X *= 10
			x.Nodes[i].Y *= 100
		}
		if r.Intn(2) == 0 {
			spoil(r, &x)
		}
		y := canon.Norm(x)
		if z := canon.Norm(y); !canon.Same(y, z) || text(y) != text(z) {
			t.Errorf("%s, and again %s", text(y), text(z))
		}
	}
}

// The rules

// roomy is a copy of x whose lists have room behind, in which something stands.
func roomy(x canon.Inst) canon.Inst {
	x = copied(x)
	x.Nodes = append(x.Nodes, canon.Node{X: 77})[:len(x.Nodes)]
	x.Matrix = append(x.Matrix, 77)[:len(x.Matrix)]
	return x
}

// behind tells all that stands in x, and the first that stands behind its lists.
func behind(x canon.Inst) string {
	return text(x) + text(x.Nodes[:len(x.Nodes)+1]) + text(x.Matrix[:len(x.Matrix)+1])
}

// some are instances, well-formed and not, in their normal forms and not.
func some() []canon.Inst {
	l := []canon.Inst{{}, points(6), points(2, 100, 200, 300, 400), points(9, 10, 10), {Nodes: make([]canon.Node, 401), Matrix: []int{3}}}
	for kind := 1; kind <= 4; kind++ {
		l = append(l, sample(kind), square(sample(kind)), by(sample(kind), func(x *canon.Inst) { x.Nodes[1].Y = 0; x.Nodes[2].Ready = -1 }))
	}
	return l
}

// R4: what is handed in stays as it was, also behind its lists.
func TestHandedInStays(t *testing.T) {
	for _, a := range some() {
		x := roomy(a)
		kept := behind(x)
		canon.Check(x)
		canon.Well(x)
		canon.Norm(x)
		canon.Same(x, x)
		canon.Same(x, canon.Norm(x))
		if got := behind(x); got != kept {
			t.Errorf("%s, and was %s", got, kept)
		}
	}
}

// scribble writes over all lists of x, and behind them.
func scribble(x canon.Inst) {
	nodes, matrix := append(x.Nodes, canon.Node{X: -99}), append(x.Matrix, -99)
	for i := range nodes {
		nodes[i] = canon.Node{X: -99}
	}
	for i := range matrix {
		matrix[i] = -99
	}
	for i := range x.Nodes {
		x.Nodes[i] = canon.Node{Y: -98}
	}
	for i := range x.Matrix {
		x.Matrix[i] = -98
	}
}

// R4: writing over what Norm answered changes nothing else, nor the other way round.
func TestNormSharesNothing(t *testing.T) {
	for _, a := range some() {
		x := roomy(a)
		kept := behind(x)
		first, second := canon.Norm(x), canon.Norm(x)
		want := text(first)
		scribble(first)
		if got := behind(x); got != kept {
			t.Errorf("%s was handed in, and is %s", kept, got)
		}
		if third := canon.Norm(x); text(second) != want || text(third) != want {
			t.Errorf("%s, %s, want %s", text(second), text(third), want)
		}
		scribble(x)
		if text(second) != want {
			t.Errorf("%s, want %s", text(second), want)
		}
	}
}

func TestCheckSharesNothing(t *testing.T) {
	for _, x := range some() {
		kept := text(x)
		first, second := canon.Check(x), canon.Check(x)
		want := text(first)
		for i := range first {
			first[i] = f(-99, -99)
		}
		_ = append(first, f(-98, -98))
		if third := canon.Check(x); text(second) != want || text(third) != want || text(x) != kept {
			t.Errorf("%v, %v, want %s", second, third, want)
		}
	}
}

// R5: what a call answers hangs on its arguments alone, not on what was asked ahead of it.
func TestCallsAreAlike(t *testing.T) {
	ask := func() string {
		var b strings.Builder
		for _, x := range some() {
			for _, y := range some() {
				fmt.Fprint(&b, canon.Same(x, y))
			}
			fmt.Fprint(&b, canon.Check(x), canon.Well(x), text(canon.Norm(x)))
		}
		return b.String()
	}
	first := ask()
	canon.Check(canon.Inst{Kind: 4, Nodes: make([]canon.Node, 500)})
	canon.Norm(points(6, 10, 10))
	if ask() != first {
		t.Error("answers change")
	}
}
