package feas_test

import (
	"fmt"
	"math"
	"math/rand"
	"slices"
	"testing"

	"entrepot/canon"
	"entrepot/cost"
	"entrepot/feas"
	"entrepot/metric"
	"entrepot/plan"
)

const most = 100000000 // the greatest number

// kinds are the four.
var kinds = []int{canon.Tsp, canon.Cvrp, canon.Vrptw, canon.Pdptw}

// far are numbers that are a node of no instance, some of which come to one where bits are lost.
var far = []int{
	math.MinInt, math.MinInt + 1, -1 << 62, -1 << 32, 1 - 1<<32, -65536, -401, -400, -399, -256, -3, -2, -1,
	400, 401, 402, 420, 512, 65536, 1 << 31, 1 << 32, 1<<32 + 1, 1<<32 + 2, 1 << 62, math.MaxInt - 1, math.MaxInt,
}

// line makes an instance of the points at these places of a line, and dresses it.
func line(kind, metric int, at ...int) canon.Inst {
	x := canon.Inst{Name: "l", Kind: kind, Metric: metric, Nodes: make([]canon.Node, len(at))}
	for i, far := range at {
		x.Nodes[i].X = far
	}
	return dressed(x)
}

// by makes an instance of so many nodes, and of this matrix, and dresses it.
func by(kind, n int, matrix ...int) canon.Inst {
	return dressed(canon.Inst{Name: "m", Kind: kind, Nodes: make([]canon.Node, n), Matrix: matrix})
}

// dressed gives an instance what its kind asks for, with room in all of it; of kind Pdptw neighbours
// are mates, as far as they go.
func dressed(x canon.Inst) canon.Inst {
	if x.Kind == canon.Tsp {
		return x
	}
	x.Cap = most
	for i := range x.Nodes {
		n := &x.Nodes[i]
		if x.Kind != canon.Cvrp {
			n.Due = most
		}
		switch {
		case i == 0:
		case x.Kind != canon.Pdptw:
			n.Demand = 5
		case i%2 == 1 && i+1 < len(x.Nodes):
			n.Demand, n.Mate = 5, i+1
		case i%2 == 0:
			n.Demand, n.Mate = -5, i-1
		}
	}
	return x
}

// with makes the same instance in new memory, and another one of it.
func with(x canon.Inst, change func(x *canon.Inst)) canon.Inst {
	x.Nodes, x.Matrix = slices.Clone(x.Nodes), slices.Clone(x.Matrix)
	change(&x)
	return x
}

// well holds that an instance is one of which something is said.
func well(t *testing.T, x canon.Inst) {
	t.Helper()
	if f := canon.Check(x); len(f) > 0 {
		t.Fatalf("%s: not well-formed: %v", short(x), f)
	}
}

// short tells what may be long.
func short(x any) string {
	s := fmt.Sprintf("%+v", x)
	if len(s) > 600 {
		return s[:600] + ".."
	}
	return s
}

// routes makes a plan.
func routes(l ...[]int) plan.Plan {
	return plan.Plan{Routes: l}
}

// wrongs makes a list of codes, routes and nodes.
func wrongs(l ...int) []feas.Wrong {
	var out []feas.Wrong
	for c := range slices.Chunk(l, 3) {
		out = append(out, feas.Wrong{Code: c[0], Route: c[1], Node: c[2]})
	}
	return out
}

// What the promises say, by their words.

func isNode(x canon.Inst, stop int) bool { return stop >= 0 && stop <= len(x.Nodes)-1 }

func isCustomer(x canon.Inst, stop int) bool {
	return isNode(x, stop) && (stop != 0 || x.Kind == canon.Tsp)
}

func unit(x canon.Inst) int {
	if x.Metric == metric.Tenth {
		return 10
	}
	return 1
}

func leg(x canon.Inst, i, j int) int {
	d, e := cost.Between(x, i, j)
	if e != 0 {
		panic("a leg of a well-formed instance has no distance")
	}
	return d
}

func loads(x canon.Inst, r []int) []int {
	var l []int
	for k := range r {
		sum := 0
		for _, stop := range r[:k+1] {
			if !isNode(x, stop) {
				return nil
			}
			sum += x.Nodes[stop].Demand
		}
		l = append(l, sum)
	}
	return l
}

// times tells when service begins, and the nodes that are late, in order; the coming back is one of
// the depot.
func times(x canon.Inst, r []int) (begins, late []int) {
	u := unit(x)
	place, time := 0, u*x.Nodes[0].Ready
	for _, stop := range r {
		time += leg(x, place, stop)
		if time < u*x.Nodes[stop].Ready {
			time = u * x.Nodes[stop].Ready
		}
		if time > u*x.Nodes[stop].Due {
			late = append(late, stop)
		}
		begins = append(begins, time)
		time += u * x.Nodes[stop].Service
		place = stop
	}
	if len(r) > 0 && time+leg(x, place, 0) > u*x.Nodes[0].Due {
		late = append(late, 0)
	}
	return begins, late
}

func check(x canon.Inst, p plan.Plan) []feas.Wrong {
	var l []feas.Wrong
	for route, r := range p.Routes {
		for _, stop := range r {
			if !isCustomer(x, stop) {
				l = append(l, feas.Wrong{Code: 1, Route: route, Node: stop})
			}
		}
	}
	if len(l) > 0 {
		return l
	}
	often, used := map[int]int{}, 0
	for _, r := range p.Routes {
		for _, stop := range r {
			often[stop]++
		}
		used += min(1, len(r))
	}
	for c := range len(x.Nodes) {
		if isCustomer(x, c) && often[c] > 1 {
			l = append(l, feas.Wrong{Code: 2, Node: c})
		}
		if isCustomer(x, c) && often[c] == 0 {
			l = append(l, feas.Wrong{Code: 3, Node: c})
		}
	}
	if x.Kind == canon.Tsp && used != 1 || x.Kind != canon.Tsp && x.Fleet > 0 && used > x.Fleet {
		l = append(l, feas.Wrong{Code: 4, Node: used})
	}
	if x.Kind == canon.Tsp {
		return l
	}
	for route, r := range p.Routes {
		l = append(l, ofRoute(x, route, r)...)
	}
	return l
}

func ofRoute(x canon.Inst, route int, r []int) []feas.Wrong {
	var l []feas.Wrong
	for k, load := range loads(x, r) {
		if load > x.Cap || load < 0 {
			l = append(l, feas.Wrong{Code: 5, Route: route, Node: r[k]})
			break
		}
	}
	if _, late := times(x, r); len(late) > 0 && x.Kind != canon.Cvrp {
		l = append(l, feas.Wrong{Code: 6, Route: route, Node: late[0]})
	}
	if x.Kind != canon.Pdptw {
		return l
	}
	for k, stop := range r {
		if x.Nodes[stop].Demand <= 0 {
			continue
		}
		ahead, behind := false, false
		for j, other := range r {
			ahead = ahead || other == x.Nodes[stop].Mate && j < k
			behind = behind || other == x.Nodes[stop].Mate && j > k
		}
		if !behind && !ahead {
			l = append(l, feas.Wrong{Code: 7, Route: route, Node: stop})
		}
		if !behind && ahead {
			l = append(l, feas.Wrong{Code: 8, Route: route, Node: stop})
		}
	}
	return l
}

// holdsRoute holds Loads and Times against their words.
func holdsRoute(t *testing.T, x canon.Inst, r []int) {
	t.Helper()
	if l := feas.Loads(x, r); !slices.Equal(l, loads(x, r)) {
		t.Errorf("Loads of %s, %s: %s; want %s", short(x), short(r), short(l), short(loads(x, r)))
	}
	var want []int
	is := true
	for _, stop := range r {
		is = is && isNode(x, stop)
	}
	if is {
		begins, late := times(x, r)
		want, is = begins, len(late) == 0
	}
	isTimes(t, x, r, is, want...)
}

// holdsPlan holds Check and Feasible against their words.
func holdsPlan(t *testing.T, x canon.Inst, p plan.Plan) {
	t.Helper()
	isCheck(t, x, p, check(x, p)...)
}

// isLoads, isTimes and isCheck hold a call against what is known.

func isLoads(t *testing.T, x canon.Inst, r []int, want ...int) {
	t.Helper()
	if l := feas.Loads(x, r); !slices.Equal(l, want) {
		t.Errorf("Loads of %s, %s: %s; want %s", short(x), short(r), short(l), short(want))
	}
}

func isTimes(t *testing.T, x canon.Inst, r []int, is bool, want ...int) {
	t.Helper()
	if l, got := feas.Times(x, r); !slices.Equal(l, want) || got != is {
		t.Errorf("Times of %s, %s: %s, %v; want %s, %v", short(x), short(r), short(l), got, short(want), is)
	}
}

func isCheck(t *testing.T, x canon.Inst, p plan.Plan, want ...feas.Wrong) {
	t.Helper()
	if l := feas.Check(x, p); !slices.Equal(l, want) {
		t.Errorf("Check of %s, %s: %s; want %s", short(x), short(p), short(l), short(want))
	}
	if is := feas.Feasible(x, p); is != (len(want) == 0) {
		t.Errorf("Feasible of %s, %s: %v; %s is wrong", short(x), short(p), is, short(want))
	}
}

// P11.1: Loads

func TestLoadsOfKnownRoutes(t *testing.T) {
	x := with(line(canon.Cvrp, metric.Euclid, 0, 1, 2, 3, 4), func(x *canon.Inst) {
		x.Cap, x.Nodes[1].Demand, x.Nodes[2].Demand, x.Nodes[3].Demand, x.Nodes[4].Demand = 9, 5, 0, 70, most
	})
	for _, kind := range []int{canon.Cvrp, canon.Vrptw} {
		x.Kind = kind
		well(t, x)
		isLoads(t, x, nil)
		isLoads(t, x, []int{})
		isLoads(t, x, []int{1}, 5)
		isLoads(t, x, []int{2}, 0)
		isLoads(t, x, []int{0}, 0)
		isLoads(t, x, []int{0, 0, 0}, 0, 0, 0)
		isLoads(t, x, []int{1, 2, 3, 4}, 5, 5, 75, most+75)
		isLoads(t, x, []int{4, 3, 2, 1}, most, most+70, most+70, most+75)
		isLoads(t, x, []int{1, 1, 1, 1}, 5, 10, 15, 20)
		isLoads(t, x, []int{1, 0, 3, 0, 1}, 5, 5, 75, 75, 80)
	}
	// Neither is the capacity asked of Loads, nor do they stop where they go below 0.
	y := with(line(canon.Pdptw, metric.Euclid, 0, 1, 2, 3, 4), func(y *canon.Inst) {
		y.Cap, y.Nodes[3].Demand, y.Nodes[4].Demand = 1, -most, most
	})
	well(t, y)
	isLoads(t, y, []int{1, 2, 4, 3}, 5, 0, most, 0)
	isLoads(t, y, []int{2, 1, 3, 4}, -5, 0, -most, 0)
	isLoads(t, y, []int{3, 3, 2, 0, 4}, -most, -2*most, -2*most-5, -2*most-5, -most-5)
	isLoads(t, y, []int{2, 2}, -5, -10)
	tour := line(canon.Tsp, metric.Euclid, 0, 1, 2)
	well(t, tour)
	isLoads(t, tour, []int{2, 0, 1, 1}, 0, 0, 0, 0)
}

func TestLoadsOfTheGreatest(t *testing.T) {
	x := with(line(canon.Cvrp, metric.Euclid, 0, 1), func(x *canon.Inst) { x.Nodes[1].Demand = most })
	well(t, x)
	l := feas.Loads(x, slices.Repeat([]int{1}, 2100))
	for k := range 2100 {
		if len(l) != 2100 || l[k] != (k+1)*most {
			t.Fatal(k, short(l))
		}
	}
}

// P11.1: a stop that is no node

func TestRouteOfAStopThatIsNoNode(t *testing.T) {
	for _, kind := range kinds {
		for n := 1; n <= 7; n += 2 {
			for _, m := range []int{metric.Explicit, metric.Euclid, metric.Tenth} {
				x := line(kind, m, slices.Repeat([]int{0}, n)...)
				if m == metric.Explicit {
					x = by(kind, n, make([]int, n*n)...)
				}
				well(t, x)
				for _, stop := range append([]int{n, n + 1, 2 * n, -n}, far...) {
					isLoads(t, x, []int{stop})
					isTimes(t, x, []int{stop}, false)
					for at := range 5 {
						r := []int{0, n - 1, n / 2, n - 1, 0}
						r[at] = stop
						isLoads(t, x, r)
						isTimes(t, x, r, false)
						r[4] = -1
						isLoads(t, x, r)
						isTimes(t, x, r, false)
					}
				}
				isLoads(t, x, slices.Repeat([]int{n}, 3))
				isTimes(t, x, slices.Repeat([]int{n}, 3), false)
				holdsRoute(t, x, []int{0, n - 1, n / 2, n - 1, 0})
			}
		}
	}
}

// A stop that is late beside one that is no node: none, and false.
func TestLateRouteOfAStopThatIsNoNode(t *testing.T) {
	x := with(line(canon.Vrptw, metric.Euclid, 0, 9, 20), func(x *canon.Inst) { x.Nodes[1].Due = 1 })
	well(t, x)
	isTimes(t, x, []int{1, 2}, false, 9, 20)
	isTimes(t, x, []int{1, 3}, false)
	isTimes(t, x, []int{-1, 1}, false)
	isTimes(t, x, []int{2, 1}, false, 20, 31)
	isTimes(t, x, []int{2, 3}, false)
}

// P11.1: Times

func TestTimesOfKnownRoutes(t *testing.T) {
	x := with(line(canon.Vrptw, metric.Euclid, 0, 3, 10, -4), func(x *canon.Inst) {
		x.Nodes[1].Service, x.Nodes[2].Service, x.Nodes[3].Ready = 2, 30, 100
	})
	for _, scaled := range []canon.Inst{x, with(x, func(x *canon.Inst) {
		x.Scale = 3
		for i := range x.Nodes {
			x.Nodes[i].X *= 1000
		}
	})} {
		well(t, scaled)
		isTimes(t, scaled, nil, true)
		isTimes(t, scaled, []int{}, true)
		isTimes(t, scaled, []int{1}, true, 3)
		isTimes(t, scaled, []int{3}, true, 100)
		isTimes(t, scaled, []int{1, 2}, true, 3, 12)
		isTimes(t, scaled, []int{2, 1}, true, 10, 47)
		isTimes(t, scaled, []int{1, 2, 3}, true, 3, 12, 100)
		isTimes(t, scaled, []int{3, 2, 1}, true, 100, 114, 151)
		isTimes(t, scaled, []int{1, 1, 1}, true, 3, 5, 7)
		isTimes(t, scaled, []int{2, 2}, true, 10, 40)
		isTimes(t, scaled, []int{0}, true, 0)
		isTimes(t, scaled, []int{0, 1, 0, 2}, true, 0, 3, 8, 18)
	}
}

// Of no stops none is late, whatever the depot's times are; nor is it of no nodes.
func TestTimesOfNoStop(t *testing.T) {
	for _, kind := range kinds {
		for _, m := range []int{metric.Euclid, metric.Tenth} {
			x := line(kind, m, 0, 1, 2)
			if kind > canon.Cvrp {
				x.Nodes[0].Ready, x.Nodes[0].Due, x.Nodes[0].Service = 5, 5, 9
			}
			well(t, x)
			isTimes(t, x, nil, true)
			isTimes(t, x, []int{}, true)
		}
	}
	isTimes(t, canon.Inst{}, nil, true)
}

// The depot as a stop has its own times: it is served, late or not, like another one.
func TestTimesOfTheDepotAsAStop(t *testing.T) {
	x := with(line(canon.Vrptw, metric.Manhattan, 0, 10), func(x *canon.Inst) {
		x.Nodes[0].Ready, x.Nodes[0].Due, x.Nodes[0].Service = 7, 60, 4
	})
	well(t, x)
	isTimes(t, x, []int{0}, true, 7)
	isTimes(t, x, []int{0, 0}, true, 7, 11)
	isTimes(t, x, []int{1}, true, 17)
	isTimes(t, x, []int{0, 1}, true, 7, 21)
	isTimes(t, x, []int{0, 1, 0, 1}, true, 7, 21, 31, 45)
	isTimes(t, x, []int{0, 1, 0, 1, 0}, true, 7, 21, 31, 45, 55)
	// Back at 63, after its sixth service.
	x.Nodes[0].Due = 63
	isTimes(t, x, []int{0, 1, 0, 1, 0, 0}, true, 7, 21, 31, 45, 55, 59)
	x.Nodes[0].Due = 62
	isTimes(t, x, []int{0, 1, 0, 1, 0, 0}, false, 7, 21, 31, 45, 55, 59)
	x.Nodes[0].Due = 58
	isTimes(t, x, []int{0, 1, 0, 1, 0, 0}, false, 7, 21, 31, 45, 55, 59)
	isTimes(t, x, []int{0, 1, 0, 1, 0}, false, 7, 21, 31, 45, 55)
}

// The nodes are 3, 5 apart from each other, in a row: how far one is from the next one, and from the
// next but one, by each metric.
func TestTimesOfEachMetric(t *testing.T) {
	for m, far := range map[int][2]int{
		metric.Euclid: {6, 12}, metric.Ceiling: {6, 12}, metric.Manhattan: {8, 16},
		metric.Maximum: {5, 10}, metric.Att: {2, 4}, metric.Tenth: {58, 116},
	} {
		one, two, unit := far[0], far[1], 1
		if m == metric.Tenth {
			unit = 10
		}
		x := with(line(canon.Vrptw, m, 0, 3, 6), func(x *canon.Inst) {
			x.Nodes[1].Y, x.Nodes[2].Y, x.Nodes[1].Service, x.Nodes[2].Service = 5, 10, 1, 9
		})
		well(t, x)
		isTimes(t, x, []int{1}, true, one)
		isTimes(t, x, []int{2}, true, two)
		isTimes(t, x, []int{1, 2}, true, one, one+unit+one)
		isTimes(t, x, []int{2, 1}, true, two, two+9*unit+one)
		isTimes(t, x, []int{2, 2}, true, two, two+9*unit)
		back := one + unit + one + 9*unit + two
		x.Nodes[0].Due = (back + unit - 1) / unit
		isTimes(t, x, []int{1, 2}, true, one, one+unit+one)
		x.Nodes[0].Due--
		isTimes(t, x, []int{1, 2}, false, one, one+unit+one)
	}
}

// What is there differs from what is back.
func TestTimesOfAMatrix(t *testing.T) {
	x := with(by(canon.Vrptw, 3, 0, 1, 20, 300, 0, 4000, 50000, 600000, 0), func(x *canon.Inst) { x.Nodes[1].Service = 7 })
	well(t, x)
	isTimes(t, x, []int{1, 2}, true, 1, 4008)
	isTimes(t, x, []int{2, 1}, true, 20, 600020)
	isTimes(t, x, []int{1, 2, 1}, true, 1, 4008, 604008)
	isTimes(t, x, []int{2, 0, 1}, true, 20, 50020, 50021)
	x.Nodes[0].Due = 600020 + 7 + 300
	isTimes(t, x, []int{2, 1}, true, 20, 600020)
	x.Nodes[0].Due--
	isTimes(t, x, []int{2, 1}, false, 20, 600020)
}

// Kinds without windows have times, too: of a tour also from the depot, and back to it.
func TestTimesOfKindsWithoutWindows(t *testing.T) {
	for _, kind := range []int{canon.Tsp, canon.Cvrp} {
		x := line(kind, metric.Euclid, 0, 3, 10)
		well(t, x)
		isTimes(t, x, []int{1, 2}, false, 3, 10)
		isTimes(t, x, []int{2, 1}, false, 10, 17)
		isTimes(t, x, []int{1}, false, 3)
		isTimes(t, x, []int{0, 2, 0}, false, 0, 10, 20)
		isTimes(t, x, []int{0, 0}, true, 0, 0)
		x.Metric = metric.Tenth
		isTimes(t, x, []int{1, 2}, false, 30, 100)
		same := line(kind, metric.Euclid, 4, 4, 4)
		isTimes(t, same, []int{2, 1}, true, 0, 0)
		there := by(kind, 3, 0, 0, 9, 1, 0, 0, 0, 9, 0)
		well(t, there)
		isTimes(t, there, []int{1, 2}, true, 0, 0)
		isTimes(t, there, []int{1}, false, 0)
		isTimes(t, there, []int{2, 1}, false, 9, 18)
	}
}

// comesAt is a depot and two customers: the first one is come to at that time, in units of a
// distance, from a depot that is left at once; of metric Tenth the points are told in tenths.
func comesAt(kind, m, time int) canon.Inst {
	x := line(kind, m, 0, time, 0)
	if m == metric.Tenth {
		x.Scale = 1
	}
	return x
}

func TestServiceBeginsAtReadyOrWhenComeTo(t *testing.T) {
	for _, kind := range []int{canon.Vrptw, canon.Pdptw} {
		for m, unit := range map[int]int{metric.Euclid: 1, metric.Ceiling: 1, metric.Manhattan: 1, metric.Maximum: 1, metric.Tenth: 10} {
			for _, ready := range []int{1, 2, 5, 40, 10000} {
				for _, d := range []int{-1, 0, 1} {
					x := comesAt(kind, m, unit*ready+d)
					x.Nodes[1].Ready = ready
					well(t, x)
					isTimes(t, x, []int{1}, true, unit*ready+max(d, 0))
					isTimes(t, x, []int{1, 2}, true, unit*ready+max(d, 0), 2*unit*ready+max(d, 0)+d)
					// Service lasts from when it begins.
					x.Nodes[1].Service = 3
					isTimes(t, x, []int{1, 1, 2}, true, unit*ready+max(d, 0), unit*(ready+3)+max(d, 0), unit*(2*ready+6)+max(d, 0)+d)
				}
			}
		}
	}
}

func TestServiceBeginsAtDue(t *testing.T) {
	for _, kind := range []int{canon.Vrptw, canon.Pdptw} {
		for m, unit := range map[int]int{metric.Euclid: 1, metric.Ceiling: 1, metric.Manhattan: 1, metric.Maximum: 1, metric.Tenth: 10} {
			for _, due := range []int{1, 2, 5, 40, 10000} {
				for _, d := range []int{-1, 0, 1} {
					comes := unit*due + d
					x := comesAt(kind, m, comes)
					x.Nodes[1].Due = due
					well(t, x)
					isTimes(t, x, []int{1, 2}, d <= 0, comes, 2*comes)
					if d <= 0 {
						isCheck(t, x, routes([]int{1, 2}))
					} else {
						isCheck(t, x, routes([]int{1, 2}), wrongs(feas.Late, 0, 1)...)
					}
					// Who waits until it is Due is in time.
					x.Nodes[1].Ready = due
					isTimes(t, x, []int{1, 2}, d <= 0, unit*due+max(d, 0), unit*due+max(d, 0)+comes)
				}
			}
		}
	}
}

// A service that ends after Due is in time.
func TestServiceMayLastBeyondDue(t *testing.T) {
	x := with(line(canon.Vrptw, metric.Euclid, 0, 9, 9), func(x *canon.Inst) {
		x.Nodes[1].Due, x.Nodes[1].Service, x.Nodes[2].Due = 9, 500, 509
	})
	well(t, x)
	isTimes(t, x, []int{1, 2}, true, 9, 509)
	isCheck(t, x, routes([]int{1, 2}))
	isCheck(t, x, routes([]int{2, 1}))
	x.Nodes[1].Service = 501
	isCheck(t, x, routes([]int{1, 2}), wrongs(feas.Late, 0, 2)...)
}

func TestDepotThatIsLeftLater(t *testing.T) {
	for m, unit := range map[int]int{metric.Euclid: 1, metric.Tenth: 10} {
		for _, ready := range []int{0, 1, 7, 1000} {
			x := with(line(canon.Vrptw, m, 0, 3, 10), func(x *canon.Inst) {
				x.Nodes[0].Ready, x.Nodes[0].Due, x.Nodes[0].Service, x.Nodes[1].Service = ready, ready+21, 50, 1
			})
			well(t, x)
			isTimes(t, x, []int{1, 2}, true, unit*(ready+3), unit*(ready+11))
			isTimes(t, x, []int{2}, true, unit*(ready+10))
			isCheck(t, x, routes([]int{1, 2}))
			isCheck(t, x, routes([]int{2}, []int{1}))
			x.Nodes[0].Due--
			isTimes(t, x, []int{1, 2}, false, unit*(ready+3), unit*(ready+11))
			isCheck(t, x, routes([]int{1, 2}), wrongs(feas.Late, 0, 0)...)
			isCheck(t, x, routes([]int{2}, []int{1}))
			x.Nodes[1].Due = ready + 3
			isTimes(t, x, []int{1}, true, unit*(ready+3))
			if ready > 0 {
				x.Nodes[1].Due--
				isTimes(t, x, []int{1}, false, unit*(ready+3))
				isCheck(t, x, routes(nil, []int{2}, []int{1}), wrongs(feas.Late, 2, 1)...)
			}
		}
	}
}

// P11.1, P11.2: who is late

// chain is a depot and four customers, in the middle of which each leg is 10 units of time; all of
// them are visited in order, and served for 1.
func chain(kind, m int) (canon.Inst, []int) {
	x := line(kind, m, 0, 10, 20, 30, 40)
	for i := range x.Nodes {
		x.Nodes[i].Service = 1
	}
	return x, []int{1, 2, 3, 4}
}

func TestLateStops(t *testing.T) {
	for _, kind := range []int{canon.Vrptw, canon.Pdptw} {
		for m, unit := range map[int]int{metric.Euclid: 1, metric.Ceiling: 1, metric.Manhattan: 1, metric.Maximum: 1, metric.Tenth: 10} {
			x, r := chain(kind, m)
			well(t, x)
			begins := []int{10, 21, 32, 43}
			tenths := []int{10 * unit, 21 * unit, 32 * unit, 43 * unit}
			isTimes(t, x, r, true, tenths...)
			// Each set of stops may be late; the first one of it is told.
			for set := range 16 {
				y := with(x, func(y *canon.Inst) {
					for k, stop := range r {
						y.Nodes[stop].Due = begins[k] - set>>k&1
					}
				})
				var want []feas.Wrong
				for k, stop := range r {
					if want == nil && set>>k&1 == 1 {
						want = wrongs(feas.Late, 2, stop)
					}
				}
				well(t, y)
				isTimes(t, y, r, set == 0, tenths...)
				isCheck(t, y, routes(nil, nil, r), want...)
				// Who is late may also be late when coming back: then the stop is told.
				y.Nodes[0].Due = 83
				isTimes(t, y, r, false, tenths...)
				if set == 0 {
					want = wrongs(feas.Late, 2, 0)
				}
				isCheck(t, y, routes(nil, nil, r), want...)
			}
			for due, is := range map[int]bool{83: false, 84: true, 85: true} {
				x.Nodes[0].Due = due
				isTimes(t, x, r, is, tenths...)
				if is {
					isCheck(t, x, routes(r))
				} else {
					isCheck(t, x, routes(r), wrongs(feas.Late, 0, 0)...)
				}
			}
		}
	}
}

// A coming back is late by a tenth of a unit, too, and in time by one.
func TestLateComingBackByTenths(t *testing.T) {
	for d, is := range map[int]bool{-1: true, 0: true, 1: false} {
		x := with(line(canon.Vrptw, metric.Tenth, 0, 50+d, 25), func(x *canon.Inst) { x.Scale, x.Nodes[0].Due = 1, 10 })
		well(t, x)
		x.Nodes[0].Due = 10
		if d == 1 {
			isTimes(t, x, []int{1, 2}, is, 51, 77)
			isCheck(t, x, routes([]int{1, 2}), wrongs(feas.Late, 0, 0)...)
			continue
		}
		isTimes(t, x, []int{1, 2}, is, 50+d, 75+2*d)
		isCheck(t, x, routes([]int{1, 2}))
	}
}

func TestSeveralLateRoutes(t *testing.T) {
	for _, m := range []int{metric.Maximum, metric.Tenth} {
		x, _ := chain(canon.Vrptw, m)
		for i, due := range []int{50, 9, 20, 29, 40} {
			x.Nodes[i].Due = due
		}
		well(t, x)
		isCheck(t, x, routes([]int{1}, []int{2}, []int{3}, []int{4}), wrongs(feas.Late, 0, 1, feas.Late, 2, 3, feas.Late, 3, 0)...)
		isCheck(t, x, routes([]int{4}, nil, []int{3, 2, 1}), wrongs(feas.Late, 0, 0, feas.Late, 2, 3)...)
		isCheck(t, x, routes([]int{2, 1}, []int{4, 3}), wrongs(feas.Late, 0, 1, feas.Late, 1, 3)...)
	}
}

// P11.2: Unknown

func TestUnknownStops(t *testing.T) {
	for _, kind := range kinds {
		first := 1
		if kind == canon.Tsp {
			first = 0
		}
		for _, n := range []int{1, 3, 5} {
			x := line(kind, metric.Euclid, slices.Repeat([]int{0}, n)...)
			x.Fleet = min(first, 1)
			well(t, x)
			var right []int
			for c := first; c < n; c++ {
				right = append(right, c)
			}
			if len(right) > 0 {
				isCheck(t, x, routes(right))
			}
			strange := append([]int{n, n + 1, 2 * n, -n}, far...)
			if kind != canon.Tsp {
				strange = append(strange, 0)
			}
			for _, stop := range strange {
				isCheck(t, x, routes([]int{stop}), wrongs(feas.Unknown, 0, stop)...)
				for at := range len(right) + 1 {
					r := slices.Insert(slices.Clone(right), at, stop)
					isCheck(t, x, routes(r), wrongs(feas.Unknown, 0, stop)...)
					isCheck(t, x, routes(nil, r, right), wrongs(feas.Unknown, 1, stop)...)
					isCheck(t, x, routes(right, nil, r, []int{-1}, r), wrongs(feas.Unknown, 2, stop, feas.Unknown, 3, -1, feas.Unknown, 4, stop)...)
				}
				isCheck(t, x, routes([]int{stop, stop}, []int{n, stop, -5}), wrongs(feas.Unknown, 0, stop, feas.Unknown, 0, stop, feas.Unknown, 1, n, feas.Unknown, 1, stop, feas.Unknown, 1, -5)...)
			}
		}
	}
}

// The depot is a customer of a tour alone.
func TestDepotAsAStop(t *testing.T) {
	tour := line(canon.Tsp, metric.Euclid, 0, 1, 2)
	well(t, tour)
	isCheck(t, tour, routes([]int{0, 1, 2}))
	isCheck(t, tour, routes([]int{1, 2}), wrongs(feas.Missing, 0, 0)...)
	isCheck(t, tour, routes([]int{0, 1, 2, 0}), wrongs(feas.Twice, 0, 0)...)
	for _, kind := range []int{canon.Cvrp, canon.Vrptw, canon.Pdptw} {
		x := line(kind, metric.Euclid, 0, 1, 2)
		well(t, x)
		isCheck(t, x, routes([]int{1, 2}))
		isCheck(t, x, routes([]int{0, 1, 2, 0}), wrongs(feas.Unknown, 0, 0, feas.Unknown, 0, 0)...)
		isCheck(t, x, routes([]int{1, 0, 2}), wrongs(feas.Unknown, 0, 0)...)
		isCheck(t, x, routes([]int{1, 2}, []int{0}), wrongs(feas.Unknown, 1, 0)...)
	}
}

// Beside a stop that is unknown nothing else is told, whatever else is wrong.
func TestUnknownAlone(t *testing.T) {
	x, _ := chain(canon.Pdptw, metric.Euclid)
	x.Cap, x.Fleet, x.Nodes[1].Due = 1, 1, 3
	well(t, x)
	bad := [][]int{{2, 2, 1}, {4}, {3, 3}}
	if l := feas.Check(x, routes(bad...)); len(l) < 8 {
		t.Error(l)
	}
	isCheck(t, x, routes(append(bad, []int{5})...), wrongs(feas.Unknown, 3, 5)...)
	isCheck(t, x, routes(append([][]int{{0}}, bad...)...), wrongs(feas.Unknown, 0, 0)...)
}

// P11.2: Twice and Missing

func TestVisits(t *testing.T) {
	for _, kind := range []int{canon.Cvrp, canon.Vrptw} {
		x := line(kind, metric.Euclid, 0, 1, 2, 3, 4)
		well(t, x)
		isCheck(t, x, routes([]int{1, 2, 3, 4}))
		isCheck(t, x, routes([]int{4}, []int{2, 1}, nil, []int{3}))
		isCheck(t, x, routes(), wrongs(feas.Missing, 0, 1, feas.Missing, 0, 2, feas.Missing, 0, 3, feas.Missing, 0, 4)...)
		isCheck(t, x, routes(nil, []int{}), wrongs(feas.Missing, 0, 1, feas.Missing, 0, 2, feas.Missing, 0, 3, feas.Missing, 0, 4)...)
		isCheck(t, x, routes([]int{1, 2, 3}), wrongs(feas.Missing, 0, 4)...)
		isCheck(t, x, routes([]int{4, 3, 2}), wrongs(feas.Missing, 0, 1)...)
		isCheck(t, x, routes([]int{4}, []int{1, 2}), wrongs(feas.Missing, 0, 3)...)
		isCheck(t, x, routes([]int{1, 2, 1, 3, 4}), wrongs(feas.Twice, 0, 1)...)
		isCheck(t, x, routes([]int{1, 2}, []int{3, 4, 2}), wrongs(feas.Twice, 0, 2)...)
		isCheck(t, x, routes([]int{4, 1}, nil, []int{4, 2, 4}, []int{3}), wrongs(feas.Twice, 0, 4)...)
		isCheck(t, x, routes([]int{3}, []int{3}, []int{3}), wrongs(feas.Missing, 0, 1, feas.Missing, 0, 2, feas.Twice, 0, 3, feas.Missing, 0, 4)...)
		isCheck(t, x, routes([]int{4, 4, 2, 2}), wrongs(feas.Missing, 0, 1, feas.Twice, 0, 2, feas.Missing, 0, 3, feas.Twice, 0, 4)...)
		isCheck(t, x, routes(nil, []int{4, 3}, []int{1, 1, 1, 3}), wrongs(feas.Twice, 0, 1, feas.Missing, 0, 2, feas.Twice, 0, 3)...)
		// Without customers nothing is missing.
		one := line(kind, metric.Euclid, 7)
		well(t, one)
		isCheck(t, one, routes())
		isCheck(t, one, routes(nil, nil))
	}
	two := line(canon.Cvrp, metric.Euclid, 0, 1)
	isCheck(t, two, routes(), wrongs(feas.Missing, 0, 1)...)
}

func TestVisitsOfATour(t *testing.T) {
	x := line(canon.Tsp, metric.Euclid, 0, 1, 2, 3)
	well(t, x)
	isCheck(t, x, routes([]int{3, 0, 2, 1}))
	isCheck(t, x, routes([]int{0, 3}), wrongs(feas.Missing, 0, 1, feas.Missing, 0, 2)...)
	isCheck(t, x, routes([]int{1, 2, 3}), wrongs(feas.Missing, 0, 0)...)
	isCheck(t, x, routes([]int{0, 0, 1, 3, 3, 3}), wrongs(feas.Twice, 0, 0, feas.Missing, 0, 2, feas.Twice, 0, 3)...)
	one := line(canon.Tsp, metric.Euclid, 5)
	well(t, one)
	isCheck(t, one, routes([]int{0}))
	isCheck(t, one, routes([]int{0, 0}), wrongs(feas.Twice, 0, 0)...)
	isCheck(t, one, routes([]int{0}, []int{0}), wrongs(feas.Twice, 0, 0, feas.Fleet, 0, 2)...)
	isCheck(t, one, routes(), wrongs(feas.Missing, 0, 0, feas.Fleet, 0, 0)...)
}

// P11.2: Fleet

func TestFleets(t *testing.T) {
	for _, kind := range []int{canon.Cvrp, canon.Vrptw} {
		x := line(kind, metric.Euclid, 0, 1, 2, 3, 4)
		for used, p := range []plan.Plan{
			1: routes([]int{1, 2, 3, 4}), 2: routes(nil, []int{4}, nil, []int{3, 1, 2}, []int{}),
			3: routes([]int{1}, nil, nil, nil, nil, []int{2}, []int{3, 4}), 4: routes([]int{4}, []int{3}, []int{2}, []int{1}, nil),
		} {
			if used == 0 {
				continue
			}
			for _, fleet := range []int{0, 1, 2, 3, 4, 5, 399, 400} {
				x.Fleet = fleet
				well(t, x)
				if fleet > 0 && used > fleet {
					isCheck(t, x, p, wrongs(feas.Fleet, 0, used)...)
				} else {
					isCheck(t, x, p)
				}
			}
		}
		// How many routes have a stop counts, not how many have another one.
		x.Fleet = 1
		isCheck(t, x, routes([]int{1, 2, 3, 4}, []int{1, 2, 3, 4}),
			wrongs(feas.Twice, 0, 1, feas.Twice, 0, 2, feas.Twice, 0, 3, feas.Twice, 0, 4, feas.Fleet, 0, 2)...)
		isCheck(t, x, routes([]int{1}, []int{1}, nil, []int{1}),
			wrongs(feas.Twice, 0, 1, feas.Missing, 0, 2, feas.Missing, 0, 3, feas.Missing, 0, 4, feas.Fleet, 0, 3)...)
		isCheck(t, x, routes(nil, nil, nil), check(x, routes())...)
	}
	pairs := line(canon.Pdptw, metric.Euclid, 0, 1, 2, 3, 4)
	pairs.Fleet = 1
	well(t, pairs)
	isCheck(t, pairs, routes([]int{1, 2, 3, 4}, nil))
	isCheck(t, pairs, routes([]int{1, 2}, nil, []int{3, 4}), wrongs(feas.Fleet, 0, 2)...)
	pairs.Fleet = 2
	isCheck(t, pairs, routes([]int{1, 2}, nil, []int{3, 4}))
}

func TestRoutesOfATour(t *testing.T) {
	x := line(canon.Tsp, metric.Euclid, 0, 1, 2)
	well(t, x)
	missing := wrongs(feas.Missing, 0, 0, feas.Missing, 0, 1, feas.Missing, 0, 2, feas.Fleet, 0, 0)
	isCheck(t, x, routes(), missing...)
	isCheck(t, x, routes(nil), missing...)
	isCheck(t, x, routes(nil, []int{}, nil), missing...)
	isCheck(t, x, routes([]int{2, 0, 1}))
	isCheck(t, x, routes(nil, []int{2, 0, 1}))
	isCheck(t, x, routes([]int{2, 0, 1}, nil, nil))
	isCheck(t, x, routes([]int{2, 0}, []int{1}), wrongs(feas.Fleet, 0, 2)...)
	isCheck(t, x, routes(nil, []int{2}, nil, []int{0}, []int{1}), wrongs(feas.Fleet, 0, 3)...)
}

// P11.2: Load

// loaded is an instance with these demands.
func loaded(kind, capacity int, demands ...int) canon.Inst {
	return with(line(kind, metric.Euclid, slices.Repeat([]int{3}, 1+len(demands))...), func(x *canon.Inst) {
		x.Cap = capacity
		for i, d := range demands {
			x.Nodes[1+i].Demand = d
		}
	})
}

func TestLoadsAtTheCapacity(t *testing.T) {
	for _, kind := range []int{canon.Cvrp, canon.Vrptw} {
		x := loaded(kind, 12, 5, 3, 4)
		well(t, x)
		for _, r := range [][]int{{1, 2, 3}, {3, 2, 1}, {2, 3, 1}} {
			isCheck(t, x, routes(r))
			isCheck(t, with(x, func(x *canon.Inst) { x.Cap = 11 }), routes(nil, r), wrongs(feas.Load, 1, r[2])...)
			isCheck(t, with(x, func(x *canon.Inst) { x.Nodes[2].Demand = 4 }), routes(r), wrongs(feas.Load, 0, r[2])...)
		}
		// The first one above it is told, be it the first, a middle or the last stop.
		for capacity, node := range map[int]int{1: 1, 4: 1, 5: 2, 7: 2, 8: 3, 11: 3} {
			x.Cap = capacity
			isCheck(t, x, routes([]int{1, 2, 3}), wrongs(feas.Load, 0, node)...)
		}
		x.Cap = 4
		isCheck(t, x, routes([]int{1}, []int{2}, nil, []int{3}), wrongs(feas.Load, 0, 1)...)
		x.Cap = 2
		isCheck(t, x, routes([]int{1}, []int{2}, nil, []int{3}), wrongs(feas.Load, 0, 1, feas.Load, 1, 2, feas.Load, 3, 3)...)
		isCheck(t, x, routes([]int{3, 1}, []int{2}), wrongs(feas.Load, 0, 3, feas.Load, 1, 2)...)
		nothing := loaded(kind, 1, 0, 0)
		isCheck(t, nothing, routes([]int{2, 1}))
		greatest := loaded(kind, most, most, 1)
		well(t, greatest)
		isCheck(t, greatest, routes([]int{1}, []int{2}))
		isCheck(t, greatest, routes([]int{1, 2}), wrongs(feas.Load, 0, 2)...)
		isCheck(t, greatest, routes([]int{2, 1}), wrongs(feas.Load, 0, 1)...)
	}
	// A stop that comes several times is loaded as often.
	x := loaded(canon.Cvrp, 14, 5)
	isCheck(t, x, routes([]int{1, 1, 1}), wrongs(feas.Twice, 0, 1, feas.Load, 0, 1)...)
	x.Cap = 15
	isCheck(t, x, routes([]int{1, 1, 1}), wrongs(feas.Twice, 0, 1)...)
}

func TestLoadsOfPickups(t *testing.T) {
	x := loaded(canon.Pdptw, 9, 4, -4, 5, -5)
	well(t, x)
	isCheck(t, x, routes([]int{1, 3, 2, 4}))
	isCheck(t, x, routes([]int{3, 1, 4, 2}))
	isCheck(t, x, routes([]int{1, 2}, []int{3, 4}))
	x.Cap = 8
	isCheck(t, x, routes([]int{1, 3, 2, 4}), wrongs(feas.Load, 0, 3)...)
	isCheck(t, x, routes([]int{3, 1, 4, 2}), wrongs(feas.Load, 0, 1)...)
	isCheck(t, x, routes([]int{1, 2, 3, 4}))
	x.Cap = 4
	isCheck(t, x, routes([]int{1, 2, 3, 4}), wrongs(feas.Load, 0, 3)...)
	isCheck(t, x, routes([]int{3, 1, 4, 2}), wrongs(feas.Load, 0, 3)...)
	isCheck(t, x, routes(nil, []int{1, 2}, []int{3, 4}), wrongs(feas.Load, 2, 3)...)

	// Below nothing: at the first stop, at a middle one, and at the last one. At 0 nothing is wrong.
	y := loaded(canon.Pdptw, 9, 4, -4, 4, -4, 1, -1)
	well(t, y)
	isCheck(t, y, routes([]int{1, 2, 3, 4, 5, 6}))
	isCheck(t, y, routes([]int{2, 1, 3, 4, 5, 6}), wrongs(feas.Load, 0, 2, feas.Order, 0, 1)...)
	isCheck(t, y, routes([]int{1, 2, 4, 3, 5, 6}), wrongs(feas.Load, 0, 4, feas.Order, 0, 3)...)
	isCheck(t, y, routes([]int{1, 4, 6, 2, 3, 5}), wrongs(feas.Load, 0, 6, feas.Order, 0, 3, feas.Order, 0, 5)...)
	isCheck(t, y, routes([]int{1, 3}, []int{5, 6}, nil, []int{2, 4}), wrongs(feas.Pair, 0, 1, feas.Pair, 0, 3, feas.Load, 3, 2)...)
	isCheck(t, y, routes([]int{1, 3, 2, 4, 6}, []int{5}), wrongs(feas.Load, 0, 6, feas.Pair, 1, 5)...)
	// The mates take each other's place: below nothing there is not, and each has its mate in time.
	isCheck(t, y, routes([]int{1, 4, 3, 2, 5, 6}), wrongs(feas.Order, 0, 3)...)
}

// P11.2: Pair and Order

func TestPickupsAndTheirMates(t *testing.T) {
	// A pickup may be the greater number of the two.
	x := loaded(canon.Pdptw, 99, 4, -4, -5, 5, 6, -6)
	well(t, x)
	isCheck(t, x, routes([]int{1, 2, 4, 3, 5, 6}))
	isCheck(t, x, routes([]int{5, 4, 1, 6, 3, 2}))
	isCheck(t, x, routes([]int{1, 3, 4, 2, 5, 6}), wrongs(feas.Load, 0, 3, feas.Order, 0, 4)...)
	isCheck(t, x, routes([]int{5, 3, 4, 6}, []int{1, 2}), wrongs(feas.Order, 0, 4)...)
	isCheck(t, x, routes([]int{5, 3, 6, 4}, []int{1, 2}), wrongs(feas.Load, 0, 6, feas.Order, 0, 4)...)
	isCheck(t, x, routes([]int{5, 1, 4}, []int{6, 2, 3}), wrongs(feas.Pair, 0, 5, feas.Pair, 0, 1, feas.Pair, 0, 4, feas.Load, 1, 6)...)
	isCheck(t, x, routes([]int{6, 2, 3}, []int{5, 1, 4}), wrongs(feas.Load, 0, 6, feas.Pair, 1, 5, feas.Pair, 1, 1, feas.Pair, 1, 4)...)
	isCheck(t, x, routes([]int{1}, []int{5, 2, 4, 3, 6}), wrongs(feas.Pair, 0, 1, feas.Load, 1, 6)...)
	isCheck(t, x, routes([]int{5, 2, 4, 3, 6}, []int{1}), wrongs(feas.Load, 0, 6, feas.Pair, 1, 1)...)
	// Where no route has the mate, it is missing, too.
	isCheck(t, x, routes([]int{5, 6, 1, 4, 3}), wrongs(feas.Missing, 0, 2, feas.Pair, 0, 1)...)
	isCheck(t, x, routes([]int{5, 6, 4, 3}), wrongs(feas.Missing, 0, 1, feas.Missing, 0, 2)...)
	isCheck(t, x, routes([]int{5, 2, 4, 3}), wrongs(feas.Missing, 0, 1, feas.Missing, 0, 6, feas.Pair, 0, 5)...)
	isCheck(t, x, routes([]int{5, 4, 2, 3}), wrongs(feas.Missing, 0, 1, feas.Missing, 0, 6, feas.Pair, 0, 5)...)
}

func TestPickupsSeveralTimes(t *testing.T) {
	x := loaded(canon.Pdptw, 99, 4, -4)
	well(t, x)
	twice := func(nodes ...int) []feas.Wrong {
		var l []feas.Wrong
		for _, n := range nodes {
			l = append(l, feas.Wrong{Code: feas.Twice, Node: n})
		}
		return l
	}
	isCheck(t, x, routes([]int{1, 1, 2}), twice(1)...)
	isCheck(t, x, routes([]int{1, 2, 1}), append(twice(1), wrongs(feas.Order, 0, 1)...)...)
	isCheck(t, x, routes([]int{1, 2, 1, 2}), twice(1, 2)...)
	isCheck(t, x, routes([]int{1, 2, 1, 1}), append(twice(1), wrongs(feas.Order, 0, 1, feas.Order, 0, 1)...)...)
	isCheck(t, x, routes([]int{1, 1}, []int{1, 2}), append(twice(1), wrongs(feas.Pair, 0, 1, feas.Pair, 0, 1)...)...)
	isCheck(t, x, routes([]int{1, 2}, []int{1}, []int{1, 1}), append(twice(1), wrongs(feas.Pair, 1, 1, feas.Pair, 2, 1, feas.Pair, 2, 1)...)...)
	isCheck(t, x, routes([]int{1, 2, 2}), append(twice(2), wrongs(feas.Load, 0, 2)...)...)
	isCheck(t, x, routes([]int{2, 1, 2}), append(twice(2), wrongs(feas.Load, 0, 2)...)...)
	isCheck(t, x, routes([]int{1, 2}, []int{2, 1}), append(twice(1, 2), wrongs(feas.Load, 1, 2, feas.Order, 1, 1)...)...)
}

// P11.2: which looks there are, and in which order

func TestLooksOfEachKind(t *testing.T) {
	// As great as they may be, with windows of 0: of a capacity alone neither times nor mates count.
	far := line(canon.Cvrp, metric.Tenth, 0, most, -most)
	far.Cap = 9
	well(t, far)
	isCheck(t, far, routes([]int{1}, []int{2}))
	isCheck(t, far, routes([]int{1, 2}), wrongs(feas.Load, 0, 2)...)
	far.Kind = canon.Tsp
	far.Cap, far.Nodes[1].Demand, far.Nodes[2].Demand = 0, 0, 0
	well(t, far)
	isCheck(t, far, routes([]int{1, 2, 0}))

	// Of windows without pairs no stop needs another one.
	windows := line(canon.Vrptw, metric.Euclid, 0, 8, 9)
	windows.Cap, windows.Nodes[2].Due = 9, 8
	well(t, windows)
	isCheck(t, windows, routes([]int{1}, []int{2}), wrongs(feas.Late, 1, 2)...)
	isCheck(t, windows, routes([]int{2, 1}), wrongs(feas.Load, 0, 1, feas.Late, 0, 2)...)

	pairs := line(canon.Pdptw, metric.Euclid, 0, 8, 9)
	pairs.Cap, pairs.Nodes[2].Due = 4, 8
	well(t, pairs)
	isCheck(t, pairs, routes([]int{1}, []int{2}), wrongs(feas.Load, 0, 1, feas.Pair, 0, 1, feas.Load, 1, 2, feas.Late, 1, 2)...)
	isCheck(t, pairs, routes([]int{2, 1}), wrongs(feas.Load, 0, 2, feas.Late, 0, 2, feas.Order, 0, 1)...)
	isCheck(t, pairs, routes([]int{1, 2}), wrongs(feas.Load, 0, 1, feas.Late, 0, 2)...)
}

func TestSeveralWrongs(t *testing.T) {
	x, _ := chain(canon.Pdptw, metric.Euclid)
	x.Cap, x.Fleet, x.Nodes[0].Due, x.Nodes[4].Due = 5, 1, 100, 39
	well(t, x)
	isCheck(t, x, routes([]int{1, 2, 3, 4}), wrongs(feas.Late, 0, 4)...)
	isCheck(t, x, routes([]int{1, 2}, []int{3, 4}), wrongs(feas.Fleet, 0, 2, feas.Late, 1, 4)...)
	isCheck(t, x, routes([]int{3, 4, 3}, nil, []int{2, 1}), wrongs(
		feas.Twice, 0, 3, feas.Fleet, 0, 2,
		feas.Late, 0, 4, feas.Order, 0, 3,
		feas.Load, 2, 2, feas.Order, 2, 1,
	)...)
	isCheck(t, x, routes([]int{4, 4}, []int{1, 3}, []int{3, 1, 3, 4}), wrongs(
		feas.Twice, 0, 1, feas.Missing, 0, 2, feas.Twice, 0, 3, feas.Twice, 0, 4, feas.Fleet, 0, 3,
		feas.Load, 0, 4, feas.Late, 0, 4,
		feas.Load, 1, 3, feas.Pair, 1, 1, feas.Pair, 1, 3,
		feas.Load, 2, 1, feas.Late, 2, 4, feas.Pair, 2, 1,
	)...)
}

// All routes and plans, by their words.

// ahead are lists of up to many of these elements.
func ahead[E any](elements []E, many int) [][]E {
	l := [][]E{nil}
	last := l
	for range many {
		var next [][]E
		for _, r := range last {
			for _, e := range elements {
				next = append(next, append(slices.Clone(r), e))
			}
		}
		l, last = append(l, next...), next
	}
	return l
}

// tight makes an instance of n nodes by chance, in which there is little room for loads, and times.
// Of kind Pdptw n is odd: customers go by twos.
func tight(r *rand.Rand, kind, m, n int) canon.Inst {
	const wide = 20
	x := canon.Inst{Name: "r", Kind: kind, Metric: m, Nodes: make([]canon.Node, n)}
	if m == metric.Explicit {
		x.Matrix = make([]int, n*n)
		for at := range x.Matrix {
			if at/n != at%n {
				x.Matrix[at] = r.Intn(wide)
			}
		}
	} else {
		x.Scale = r.Intn(3)
	}
	if kind != canon.Tsp {
		x.Cap, x.Fleet = 1+r.Intn(12), r.Intn(4)
	}
	mates := r.Perm(max(n-1, 0))
	for i := range x.Nodes {
		node := &x.Nodes[i]
		if m != metric.Explicit {
			size := []int{wide, 10 * wide, 100 * wide}[x.Scale]
			node.X, node.Y = r.Intn(size), r.Intn(size)
		}
		if kind > canon.Cvrp {
			node.Ready, node.Service = r.Intn(2*wide), r.Intn(5)
			node.Due = node.Ready + r.Intn(3*wide)
		}
		if i > 0 && (kind == canon.Cvrp || kind == canon.Vrptw) {
			node.Demand = r.Intn(6)
		}
	}
	if kind > canon.Cvrp {
		x.Nodes[0].Due += 3 * wide
	}
	if kind == canon.Pdptw {
		for k := 0; k < len(mates); k += 2 {
			i, j, d := 1+mates[k], 1+mates[k+1], 1+r.Intn(6)
			x.Nodes[i].Mate, x.Nodes[j].Mate, x.Nodes[i].Demand, x.Nodes[j].Demand = j, i, d, -d
		}
	}
	return x
}

func TestAllShortRoutes(t *testing.T) {
	r := rand.New(rand.NewSource(1))
	short := ahead([]int{-1, 0, 1, 2, 3}, 4)
	for _, kind := range kinds {
		for m := metric.Explicit; m <= metric.Tenth; m++ {
			for range 4 {
				x := tight(r, kind, m, 3)
				well(t, x)
				for _, stops := range short {
					holdsRoute(t, x, stops)
				}
			}
		}
	}
}

func TestAllSmallPlans(t *testing.T) {
	r := rand.New(rand.NewSource(2))
	plans := ahead(ahead([]int{-1, 0, 1, 2, 3}, 2), 2)
	plans = append(plans, ahead(ahead([]int{1, 2, 0}, 2), 3)...)
	plans = append(plans, ahead(ahead([]int{1, 2}, 5), 1)...)
	for _, kind := range kinds {
		for m := metric.Explicit; m <= metric.Tenth; m++ {
			x := tight(r, kind, m, 3)
			well(t, x)
			for _, l := range plans {
				holdsPlan(t, x, routes(l...))
			}
		}
	}
}

// split makes a plan of these stops, in so many routes, in any order; some of these may be empty.
func split(r *rand.Rand, stops []int, many int) plan.Plan {
	p := plan.Plan{Routes: make([][]int, many)}
	for _, k := range r.Perm(len(stops)) {
		at := r.Intn(many)
		p.Routes[at] = append(p.Routes[at], stops[k])
	}
	return p
}

// customers tells those of x.
func customers(x canon.Inst) []int {
	var l []int
	for c := range x.Nodes {
		if isCustomer(x, c) {
			l = append(l, c)
		}
	}
	return l
}

func TestPlansByChance(t *testing.T) {
	r := rand.New(rand.NewSource(3))
	for _, kind := range kinds {
		seen := map[int]int{}
		for _, n := range []int{1, 3, 5, 7, 21, 61} {
			for m := metric.Explicit; m <= metric.Tenth; m++ {
				for range 40 {
					x := tight(r, kind, m, n)
					well(t, x)
					if r.Intn(2) == 0 && x.Cap > 0 {
						x.Cap += 300
					}
					stops := customers(x)
					// Some come once more, and some give way to others.
					for _, c := range customers(x) {
						switch r.Intn(4 * n) {
						case 0:
							stops = append(stops, c)
						case 1:
							stops[r.Intn(len(stops))] = c
						}
					}
					p := split(r, stops, 1+r.Intn(7))
					holdsPlan(t, x, p)
					for _, l := range p.Routes {
						holdsRoute(t, x, l)
					}
					for _, w := range feas.Check(x, p) {
						seen[w.Code]++
					}
				}
			}
		}
		for code := feas.Twice; code <= feas.Order; code++ {
			is := code <= feas.Fleet || kind > canon.Tsp && code == feas.Load || kind > canon.Cvrp && code == feas.Late || kind == canon.Pdptw
			if is != (seen[code] > 20) {
				t.Errorf("kind %d: %d times code %d", kind, seen[code], code)
			}
		}
	}
}

func TestGreatPlans(t *testing.T) {
	r := rand.New(rand.NewSource(4))
	for _, kind := range kinds {
		for _, m := range []int{metric.Explicit, metric.Euclid, metric.Tenth} {
			x := tight(r, kind, m, 399)
			well(t, x)
			if kind != canon.Tsp {
				x.Fleet = 400
			}
			all := customers(x)
			for _, many := range []int{1, 2, 60, 399, 400, 401, 410} {
				holdsPlan(t, x, split(r, all, many))
				p := split(r, slices.Repeat(all, 6)[:2100], many)
				holdsPlan(t, x, p)
				for _, l := range p.Routes {
					holdsRoute(t, x, l)
				}
				p.Routes[many-1] = append(p.Routes[many-1], 399)
				isCheck(t, x, p, wrongs(feas.Unknown, many-1, 399)...)
			}
		}
	}
}

// Of 400 nodes, the most: each one is a customer, but the depot.
func TestMostNodes(t *testing.T) {
	for _, kind := range []int{canon.Tsp, canon.Cvrp, canon.Vrptw} {
		x := line(kind, metric.Euclid, slices.Repeat([]int{1}, 400)...)
		well(t, x)
		all := customers(x)
		isCheck(t, x, routes(all))
		isCheck(t, x, routes(all[:len(all)-1]), wrongs(feas.Missing, 0, 399)...)
		isCheck(t, x, routes(append(slices.Clone(all), 399)), wrongs(feas.Twice, 0, 399)...)
		isCheck(t, x, routes(append(slices.Clone(all), 400)), wrongs(feas.Unknown, 0, 400)...)
		if l := feas.Check(x, routes()); len(l) < 399 || !slices.Equal(l, check(x, routes())) {
			t.Error(short(l))
		}
	}
}

// With numbers as great as they may be nothing goes round.
func TestGreatestNumbers(t *testing.T) {
	x := canon.Inst{Name: "g", Kind: canon.Vrptw, Metric: metric.Tenth, Cap: most, Nodes: []canon.Node{
		{X: -most, Y: -most, Ready: most, Due: most}, {X: most, Y: most, Demand: most, Ready: most, Due: most, Service: most},
	}}
	well(t, x)
	const far = 2828427124 // the root of 8 * 10^16 is 282842712.47
	isTimes(t, x, []int{1}, false, 10*most+far)
	isTimes(t, x, []int{1, 1, 1}, false, 10*most+far, 20*most+far, 30*most+far)
	isTimes(t, x, []int{1, 0, 1}, false, 10*most+far, 20*most+2*far, 20*most+3*far)
	isCheck(t, x, routes([]int{1}), wrongs(feas.Late, 0, 1)...)
	isCheck(t, x, routes([]int{1, 1}), wrongs(feas.Twice, 0, 1, feas.Load, 0, 1, feas.Late, 0, 1)...)
	y := by(canon.Vrptw, 2, 0, most, 0, 0)
	well(t, y)
	isCheck(t, y, routes([]int{1}))
	y.Nodes[0].Ready = 1
	isCheck(t, y, routes([]int{1}), wrongs(feas.Late, 0, 1)...)
}

// P11.3

// fits tells whether a plan is as it is to be, by what follows.
func fits(x canon.Inst, p plan.Plan) bool {
	used := 0
	var all []int
	for _, r := range p.Routes {
		all = append(all, r...)
		if len(r) == 0 {
			continue
		}
		used++
		_, late := times(x, r)
		if x.Kind > canon.Cvrp && len(late) > 0 {
			return false
		}
		on := 0
		for k, stop := range r {
			if !isCustomer(x, stop) {
				return false
			}
			on += x.Nodes[stop].Demand
			if x.Kind > canon.Tsp && (on > x.Cap || on < 0) {
				return false
			}
			mate := slices.Index(r, x.Nodes[stop].Mate)
			if x.Kind == canon.Pdptw && x.Nodes[stop].Demand > 0 && mate < k {
				return false
			}
		}
	}
	slices.Sort(all)
	enough := x.Fleet == 0 || used <= x.Fleet
	if x.Kind == canon.Tsp {
		enough = used == 1
	}
	return enough && slices.Equal(all, customers(x))
}

func TestFeasibleJustIfAllFits(t *testing.T) {
	r := rand.New(rand.NewSource(5))
	for _, kind := range kinds {
		right, wrong := 0, 0
		for m := metric.Explicit; m <= metric.Tenth; m++ {
			for _, n := range []int{3, 5} {
				for range 400 {
					x := tight(r, kind, m, n)
					well(t, x)
					stops := customers(x)
					if r.Intn(8) == 0 {
						stops[r.Intn(len(stops))] = r.Intn(n)
					}
					p := split(r, stops, 1+r.Intn(3))
					is := feas.Feasible(x, p)
					if is != fits(x, p) || is != (len(feas.Check(x, p)) == 0) {
						t.Errorf("Feasible of %s, %s: %v", short(x), short(p), is)
					}
					if is {
						right++
					} else {
						wrong++
					}
				}
			}
		}
		if right < 300 || wrong < 300 {
			t.Errorf("kind %d: %d plans are feasible, %d are not", kind, right, wrong)
		}
	}
}

// Routes without a stop make no difference, but for the routes' numbers.
func TestFeasibleInNormalForm(t *testing.T) {
	r := rand.New(rand.NewSource(6))
	for _, kind := range kinds {
		for m := metric.Explicit; m <= metric.Tenth; m++ {
			for range 100 {
				x := tight(r, kind, m, 5)
				p := split(r, customers(x), 5)
				if feas.Feasible(x, p) != feas.Feasible(x, plan.Norm(p)) || len(feas.Check(x, p)) != len(feas.Check(x, plan.Norm(p))) {
					t.Errorf("%s, %s", short(x), short(p))
				}
			}
		}
	}
}

// R1: of what is not well-formed nothing is said, but that calls end, without a panic.

func TestInstancesThatAreNotWellFormed(t *testing.T) {
	ends := func(x canon.Inst) {
		for _, l := range ahead([]int{-1, 0, 1, 2, 3, math.MinInt, math.MaxInt}, 3) {
			feas.Loads(x, l)
			feas.Times(x, l)
			feas.Check(x, routes(l))
			feas.Feasible(x, routes([]int{1}, l))
		}
	}
	for _, s := range []int{math.MinInt, -1 << 32, -1, 0, 1, 2, 4, 5, 6, 7, 1 << 32, math.MaxInt} {
		for _, kind := range append(kinds, 0, 5, s) {
			n := canon.Node{X: s, Y: s, Demand: s, Ready: s, Due: s, Service: s, Mate: s}
			ends(canon.Inst{Kind: kind, Metric: s})
			ends(canon.Inst{Kind: kind, Metric: s, Nodes: make([]canon.Node, 3)})
			ends(canon.Inst{Kind: kind, Matrix: []int{s, 1, s}, Nodes: []canon.Node{n, n}})
			ends(canon.Inst{Kind: kind, Metric: s, Scale: s, Cap: s, Fleet: s, Nodes: []canon.Node{{}, n, n}})
			ends(canon.Inst{Kind: kind, Metric: 6, Scale: 1, Cap: 1, Fleet: s, Nodes: []canon.Node{n, n, {X: 5, Demand: 3, Mate: 2}}})
		}
	}
	r := rand.New(rand.NewSource(7))
	for _, kind := range kinds {
		for _, n := range []int{400, 401, 419, 420} {
			x := line(kind, metric.Euclid, r.Perm(n)...)
			p := split(r, r.Perm(n), 9)
			feas.Check(x, p)
			feas.Feasible(x, p)
			for _, l := range p.Routes {
				holdsRoute(t, x, l)
			}
		}
	}
}

// R4, R5: what is handed in stays as it was, also behind a list's end, and the same is answered again,
// whatever is written over an answer.

func TestWhatIsHandedInStays(t *testing.T) {
	r := rand.New(rand.NewSource(8))
	for _, kind := range kinds {
		for m := metric.Explicit; m <= metric.Tenth; m++ {
			x := tight(r, kind, m, 5)
			x.Nodes = append(x.Nodes, canon.Node{X: 77})[:5]
			x.Matrix = append(x.Matrix, 88)[:len(x.Matrix)]
			right := split(r, customers(x), 3)
			strange := split(r, []int{1, 2, 5, -1, 3, 4, 0}, 3)
			twice := split(r, []int{1, 2, 2, 3, 3, 3, 3}, 3)
			for _, p := range []plan.Plan{right, strange, twice, {}} {
				for at, l := range p.Routes {
					p.Routes[at] = append(l, 99)[:len(l)]
				}
				p.Routes = append(p.Routes, []int{66})[:len(p.Routes)]
				was := all(x, p)
				said := answers(x, p)
				if now := all(x, p); now != was {
					t.Errorf("%s, %s: changed: %s", short(x), short(p), now)
				}
				if again := answers(x, p); again != said {
					t.Errorf("%s, %s: %s, and then %s", short(x), short(p), said, again)
				}
			}
		}
	}
}

// all tells an instance and a plan, with what stands one place behind the end of each list.
func all(x canon.Inst, p plan.Plan) string {
	s := fmt.Sprint(x, x.Nodes[:len(x.Nodes)+1], x.Matrix[:len(x.Matrix)+1], p.Routes[:len(p.Routes)+1])
	for _, r := range p.Routes {
		s += fmt.Sprint(r[:len(r)+1])
	}
	return s
}

// answers tells what all calls answer, and writes over it.
func answers(x canon.Inst, p plan.Plan) string {
	wrong := feas.Check(x, p)
	s := fmt.Sprint(wrong, feas.Feasible(x, p))
	for k := range wrong {
		wrong[k] = feas.Wrong{Code: -1, Route: -1, Node: -1}
	}
	for _, r := range p.Routes {
		loads := feas.Loads(x, r)
		begins, is := feas.Times(x, r)
		s += fmt.Sprint(loads, begins, is)
		for k := range loads {
			loads[k], begins[k] = -1, -1
		}
	}
	return s
}
