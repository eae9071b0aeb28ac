package cost_test

import (
	"fmt"
	"math"
	"math/rand"
	"slices"
	"testing"

	"entrepot/api"
	"entrepot/canon"
	"entrepot/cost"
	"entrepot/metric"
	"entrepot/plan"
)

const most = 100000000 // the greatest number

// names are the metrics.
var names = map[int]string{
	metric.Explicit: "Explicit", metric.Euclid: "Euclid", metric.Ceiling: "Ceiling", metric.Manhattan: "Manhattan",
	metric.Maximum: "Maximum", metric.Att: "Att", metric.Tenth: "Tenth",
}

// kinds are the four.
var kinds = []int{canon.Tsp, canon.Cvrp, canon.Vrptw, canon.Pdptw}

// far are numbers that are a node of no instance, some of which come to one where bits are lost, or
// where two of them are multiplied and added.
var far = []int{
	math.MinInt, math.MinInt + 1, -1 << 62, -1 << 32, 1 - 1<<32, -65536, -401, -400, -399, -256, -3, -2, -1,
	400, 401, 402, 420, 512, 65536, 1 << 31, 1 << 32, 1<<32 + 1, 1<<32 + 2, 1 << 62, math.MaxInt - 1, math.MaxInt,
}

// xy is where a node is.
type xy struct{ x, y int }

// of makes an instance of these points.
func of(kind, metric, scale int, points ...xy) canon.Inst {
	x := canon.Inst{Name: "t", Kind: kind, Metric: metric, Scale: scale, Nodes: make([]canon.Node, len(points))}
	for i, p := range points {
		x.Nodes[i].X, x.Nodes[i].Y = p.x, p.y
	}
	return dressed(x)
}

// by makes an instance of so many nodes, and of this matrix.
func by(kind, n int, matrix ...int) canon.Inst {
	return dressed(canon.Inst{Name: "m", Kind: kind, Nodes: make([]canon.Node, n), Matrix: matrix})
}

// dressed gives an instance what its kind asks for; of kind Pdptw neighbours are mates, as far as
// they go.
func dressed(x canon.Inst) canon.Inst {
	if x.Kind == canon.Tsp {
		return x
	}
	x.Cap, x.Fleet = 50, 3
	for i := range x.Nodes {
		n := &x.Nodes[i]
		if x.Kind != canon.Cvrp {
			n.Ready, n.Due, n.Service = i, 1000+7*i, 3
		}
		switch {
		case i == 0:
		case x.Kind != canon.Pdptw:
			n.Demand = i % 5
		case i%2 == 1 && i+1 < len(x.Nodes):
			n.Demand, n.Mate = 4, i+1
		case i%2 == 0:
			n.Demand, n.Mate = -4, i-1
		}
	}
	return x
}

// well holds that an instance is one of which something is said.
func well(t *testing.T, x canon.Inst) {
	t.Helper()
	if f := canon.Check(x); len(f) > 0 {
		t.Fatalf("%s: not well-formed: %v", brief(x), f)
	}
}

// brief tells an instance that may be a long one.
func brief(x canon.Inst) string {
	s := fmt.Sprintf("kind %d, %s, scale %d, %d nodes", x.Kind, names[x.Metric], x.Scale, len(x.Nodes))
	if len(x.Nodes) > 5 {
		return s
	}
	for _, n := range x.Nodes {
		s += fmt.Sprintf(", %d %d", n.X, n.Y)
	}
	return s + fmt.Sprint(" ", x.Matrix)
}

// short tells a list or a plan that may be a long one.
func short(x any) string {
	s := fmt.Sprint(x)
	if len(s) > 100 {
		return s[:100] + ".."
	}
	return s
}

// points makes so many points by chance, within size of 0, 0.
func points(r *rand.Rand, n, size int) []xy {
	l := make([]xy, n)
	for i := range l {
		l[i] = xy{r.Intn(2*size+1) - size, r.Intn(2*size+1) - size}
	}
	return l
}

// matrix makes a matrix of n rows by chance, whose two halves differ.
func matrix(r *rand.Rand, n, greatest int) []int {
	m := make([]int, n*n)
	for at := range m {
		if at/n != at%n {
			m[at] = r.Intn(greatest + 1)
		}
	}
	return m
}

// all are instances of a kind with n nodes, of each metric in each scale, with points and elements
// of several sizes. Of kind Pdptw n is odd: customers go by twos.
func all(t *testing.T, r *rand.Rand, kind, n int) []canon.Inst {
	t.Helper()
	if kind == canon.Pdptw && n%2 == 0 {
		t.Fatalf("%d nodes of kind Pdptw", n)
	}
	var l []canon.Inst
	for _, size := range []int{1, 60, 9999, 3000000, most} {
		l = append(l, by(kind, n, matrix(r, n, size)...))
		for m := metric.Euclid; m <= metric.Tenth; m++ {
			for scale := 0; scale <= 6; scale++ {
				l = append(l, of(kind, m, scale, points(r, n, size)...))
			}
		}
	}
	for _, x := range l {
		well(t, x)
	}
	return l
}

// What the promises say, by their words: an answer, and an error.

func between(x canon.Inst, i, j int) (int, api.Errno) {
	n := len(x.Nodes)
	if i < 0 || i > n-1 || j < 0 || j > n-1 {
		return 0, api.ErrArg
	}
	if x.Metric == 0 {
		rows := slices.Collect(slices.Chunk(x.Matrix, n))
		return rows[i][j], api.OK
	}
	return metric.Dist(x.Metric, x.Scale, x.Nodes[j].X-x.Nodes[i].X, x.Nodes[j].Y-x.Nodes[i].Y)
}

func route(x canon.Inst, r []int) (int, api.Errno) {
	for _, stop := range r {
		if stop < 0 || stop >= len(x.Nodes) {
			return 0, api.ErrArg
		}
	}
	if len(r) == 0 {
		return 0, api.OK
	}
	way := slices.Concat([]int{0}, r, []int{0})
	if x.Kind == canon.Tsp {
		way = slices.Concat(r, r[:1])
	}
	total := 0
	for k := range len(way) - 1 {
		d, e := between(x, way[k], way[k+1])
		if e != api.OK {
			panic("a leg of a well-formed instance has no distance")
		}
		total += d
	}
	return total, api.OK
}

func whole(x canon.Inst, p plan.Plan) (int, api.Errno) {
	total := 0
	for _, r := range p.Routes {
		n, e := route(x, r)
		if e != api.OK {
			return 0, api.ErrArg
		}
		total += n
	}
	return total, api.OK
}

// holdsBetween holds Between against its words.
func holdsBetween(t *testing.T, x canon.Inst, i, j int) {
	t.Helper()
	got, e := cost.Between(x, i, j)
	if want, f := between(x, i, j); got != want || e != f {
		t.Errorf("Between of %s, %d, %d: %d, error %d; want %d, error %d", brief(x), i, j, got, e, want, f)
	}
}

// holdsRoute holds Route against its words.
func holdsRoute(t *testing.T, x canon.Inst, r []int) {
	t.Helper()
	got, e := cost.Route(x, r)
	if want, f := route(x, r); got != want || e != f {
		t.Errorf("Route of %s, %s: %d, error %d; want %d, error %d", brief(x), short(r), got, e, want, f)
	}
}

// holdsPlan holds Plan against its words.
func holdsPlan(t *testing.T, x canon.Inst, p plan.Plan) {
	t.Helper()
	got, e := cost.Plan(x, p)
	if want, f := whole(x, p); got != want || e != f {
		t.Errorf("Plan of %s, %s: %d, error %d; want %d, error %d", brief(x), short(p), got, e, want, f)
	}
}

// isBetween, isRoute and isPlan hold a call against what is known.

func isBetween(t *testing.T, x canon.Inst, i, j, want int, err api.Errno) {
	t.Helper()
	if got, e := cost.Between(x, i, j); got != want || e != err {
		t.Errorf("Between of %s, %d, %d: %d, error %d; want %d, error %d", brief(x), i, j, got, e, want, err)
	}
}

func isRoute(t *testing.T, x canon.Inst, r []int, want int, err api.Errno) {
	t.Helper()
	if got, e := cost.Route(x, r); got != want || e != err {
		t.Errorf("Route of %s, %s: %d, error %d; want %d, error %d", brief(x), short(r), got, e, want, err)
	}
}

func isPlan(t *testing.T, x canon.Inst, want int, err api.Errno, routes ...[]int) {
	t.Helper()
	if got, e := cost.Plan(x, plan.Plan{Routes: routes}); got != want || e != err {
		t.Errorf("Plan of %s, %s: %d, error %d; want %d, error %d", brief(x), short(routes), got, e, want, err)
	}
}

// P10.1: Between

func TestBetweenOfKnownPoints(t *testing.T) {
	// 3 and 5 apart, in scales 0 to 6.
	for m, want := range map[int][7]int{
		metric.Euclid:    {6, 1, 0, 0, 0, 0, 0},
		metric.Ceiling:   {6, 1, 1, 1, 1, 1, 1},
		metric.Manhattan: {8, 1, 0, 0, 0, 0, 0},
		metric.Maximum:   {5, 1, 0, 0, 0, 0, 0},
		metric.Att:       {2, 1, 1, 1, 1, 1, 1},
		metric.Tenth:     {58, 5, 0, 0, 0, 0, 0},
	} {
		for scale, d := range want {
			for _, kind := range kinds {
				x := of(kind, m, scale, xy{0, 0}, xy{-7, 4}, xy{-10, -1})
				well(t, x)
				isBetween(t, x, 1, 2, d, api.OK)
				isBetween(t, x, 2, 1, d, api.OK)
				for i := range 3 {
					isBetween(t, x, i, i, 0, api.OK)
				}
			}
		}
	}
	// The same, further apart the finer the scale.
	t10 := 1
	for scale := range 7 {
		for m, want := range map[int]int{metric.Euclid: 6, metric.Ceiling: 6, metric.Manhattan: 8, metric.Maximum: 5, metric.Att: 2, metric.Tenth: 58} {
			x := of(canon.Tsp, m, scale, xy{t10, 0}, xy{4 * t10, -5 * t10})
			isBetween(t, x, 0, 1, want, api.OK)
			isBetween(t, x, 1, 0, want, api.OK)
		}
		t10 *= 10
	}
}

func TestBetweenOfTheFarthestPoints(t *testing.T) {
	// 2 * 10^8 apart, both ways: the root of 8 * 10^16 is 282842712.47.
	for m, want := range map[int]int{
		metric.Euclid: 282842712, metric.Ceiling: 282842713, metric.Manhattan: 400000000,
		metric.Maximum: 200000000, metric.Att: 89442720, metric.Tenth: 2828427124,
	} {
		x := of(canon.Tsp, m, 0, xy{-most, most}, xy{most, -most}, xy{-most, -most})
		well(t, x)
		isBetween(t, x, 0, 1, want, api.OK)
		isBetween(t, x, 1, 0, want, api.OK)
		for scale := range 7 {
			y := of(canon.Tsp, m, scale, xy{-most, most}, xy{most, -most}, xy{-most, -most}, xy{most, most}, xy{})
			well(t, y)
			for i := range 5 {
				for j := range 5 {
					holdsBetween(t, y, i, j)
				}
			}
		}
	}
}

func TestBetweenOfKnownMatrix(t *testing.T) {
	for _, kind := range kinds {
		x := by(kind, 3, 0, 1, 2, 30, 0, 40, 500, 600, 0)
		well(t, x)
		for i, row := range [][]int{{0, 1, 2}, {30, 0, 40}, {500, 600, 0}} {
			for j, want := range row {
				isBetween(t, x, i, j, want, api.OK)
			}
		}
	}
	one := by(canon.Tsp, 1, 0)
	well(t, one)
	isBetween(t, one, 0, 0, 0, api.OK)
	two := by(canon.Cvrp, 2, 0, most, 0, 0)
	well(t, two)
	isBetween(t, two, 0, 1, most, api.OK)
	isBetween(t, two, 1, 0, 0, api.OK)
}

func TestBetweenOfAllNodes(t *testing.T) {
	r := rand.New(rand.NewSource(1))
	for _, kind := range kinds {
		for _, n := range []int{1, 3, 5, 9} {
			for _, x := range all(t, r, kind, n) {
				for i := -2; i <= n+2; i++ {
					for j := -2; j <= n+2; j++ {
						holdsBetween(t, x, i, j)
					}
				}
			}
		}
	}
}

func TestBetweenOfManyNodes(t *testing.T) {
	r := rand.New(rand.NewSource(2))
	for _, n := range []int{31, 256, 257, 399, 400} {
		x, y := by(canon.Tsp, n, matrix(r, n, most)...), of(canon.Cvrp, metric.Euclid, 3, points(r, n, most)...)
		well(t, x)
		well(t, y)
		for _, i := range []int{-n, -1, 0, 1, n / 2, n - 2, n - 1, n, n + 1, 2 * n} {
			for j := -3; j <= n+3; j++ {
				holdsBetween(t, x, i, j)
				holdsBetween(t, x, j, i)
				holdsBetween(t, y, i, j)
				holdsBetween(t, y, j, i)
			}
		}
	}
}

func TestBetweenOfNoNode(t *testing.T) {
	r := rand.New(rand.NewSource(3))
	for _, n := range []int{1, 2, 3, 30, 400} {
		others := append([]int{-n, n, n + 1, 2 * n, n * n, n*n - 1}, far...)
		for m := range metric.Tenth + 1 {
			x := of(canon.Tsp, m, 0, points(r, n, 50)...)
			if m == metric.Explicit {
				x = by(canon.Tsp, n, matrix(r, n, 50)...)
			}
			well(t, x)
			for _, i := range others {
				if 0 <= i && i < n {
					continue
				}
				for _, j := range []int{0, n / 2, n - 1} {
					isBetween(t, x, i, j, 0, api.ErrArg)
					isBetween(t, x, j, i, 0, api.ErrArg)
				}
				isBetween(t, x, i, i, 0, api.ErrArg)
				for _, j := range far {
					if j < 0 || j >= n {
						isBetween(t, x, i, j, 0, api.ErrArg)
					}
				}
			}
		}
	}
}

// Fields that the promise does not name say nothing of how far it is.
func TestBetweenHangsOnPlacesAlone(t *testing.T) {
	places := []xy{{1, 2}, {-30, 44}, {5, 5}, {17, -80}, {0, 3}}
	elements := matrix(rand.New(rand.NewSource(4)), 5, most)
	for m := range metric.Tenth + 1 {
		again := func(kind int) canon.Inst {
			if m == metric.Explicit {
				return by(kind, 5, elements...)
			}
			return of(kind, m, 0, places...)
		}
		x := again(canon.Tsp)
		for _, kind := range kinds {
			y := again(kind)
			y.Name = "other"
			well(t, y)
			for i := range 5 {
				for j := range 5 {
					d, e := cost.Between(x, i, j)
					isBetween(t, y, i, j, d, e)
				}
			}
		}
	}
}

// P10.1: Unit

func TestUnit(t *testing.T) {
	r := rand.New(rand.NewSource(5))
	for _, kind := range kinds {
		for _, x := range all(t, r, kind, 3) {
			want := 1
			if x.Metric == 6 {
				want = 10
			}
			if got := cost.Unit(x); got != want {
				t.Errorf("Unit of %s: %d", brief(x), got)
			}
		}
	}
	for m, want := range []int{1, 1, 1, 1, 1, 1, 10} {
		if got := cost.Unit(canon.Inst{Metric: m}); got != want {
			t.Errorf("Unit of metric %d: %d", m, got)
		}
	}
}

// P10.2: Route

// triangle is the chapter's example.
func triangle(kind int) canon.Inst {
	return of(kind, metric.Euclid, 0, xy{0, 0}, xy{3, 4}, xy{0, 4})
}

func TestRouteOfTheExample(t *testing.T) {
	for _, kind := range []int{canon.Cvrp, canon.Vrptw, canon.Pdptw} {
		x := triangle(kind)
		well(t, x)
		isRoute(t, x, []int{1, 2}, 12, api.OK)
		isRoute(t, x, []int{2, 1}, 12, api.OK)
		isRoute(t, x, []int{1}, 10, api.OK)
		isRoute(t, x, []int{2}, 8, api.OK)
		isRoute(t, x, nil, 0, api.OK)
		isRoute(t, x, []int{}, 0, api.OK)
		isRoute(t, x, []int{0}, 0, api.OK)
		isRoute(t, x, []int{0, 0, 0}, 0, api.OK)
		isRoute(t, x, []int{1, 1}, 10, api.OK)
		isRoute(t, x, []int{1, 1, 1}, 10, api.OK)
		isRoute(t, x, []int{1, 0, 2}, 18, api.OK)
		isRoute(t, x, []int{0, 1, 2, 0}, 12, api.OK)
		isRoute(t, x, []int{1, 2, 1, 2}, 18, api.OK)
	}
	x := triangle(canon.Tsp)
	well(t, x)
	isRoute(t, x, []int{0, 1, 2}, 12, api.OK)
	isRoute(t, x, []int{1, 2, 0}, 12, api.OK)
	isRoute(t, x, []int{1, 2}, 6, api.OK)
	isRoute(t, x, []int{0, 1}, 10, api.OK)
	isRoute(t, x, []int{1}, 0, api.OK)
	isRoute(t, x, []int{0}, 0, api.OK)
	isRoute(t, x, nil, 0, api.OK)
	isRoute(t, x, []int{}, 0, api.OK)
	isRoute(t, x, []int{2, 2, 2}, 0, api.OK)
	isRoute(t, x, []int{1, 2, 1, 2}, 12, api.OK)
	isRoute(t, x, []int{1, 0, 2}, 12, api.OK)
}

// Each element is a digit of its own: the sum tells how often each leg was gone.
func TestRouteOfTellingMatrix(t *testing.T) {
	digits := []int{0, 1, 10, 100, 0, 1000, 10000, 100000, 0}
	tour := by(canon.Tsp, 3, digits...)
	well(t, tour)
	isRoute(t, tour, []int{0, 1, 2}, 1+1000+10000, api.OK)
	isRoute(t, tour, []int{2, 1, 0}, 100000+100+10, api.OK)
	isRoute(t, tour, []int{1, 2}, 1000+100000, api.OK)
	isRoute(t, tour, []int{2, 1}, 1000+100000, api.OK)
	isRoute(t, tour, []int{1}, 0, api.OK)
	isRoute(t, tour, []int{1, 1}, 0, api.OK)
	isRoute(t, tour, []int{1, 1, 2}, 1000+100000, api.OK)
	isRoute(t, tour, []int{0, 1, 0, 2}, 1+100+10+10000, api.OK)
	for _, kind := range []int{canon.Cvrp, canon.Vrptw, canon.Pdptw} {
		x := by(kind, 3, digits...)
		well(t, x)
		isRoute(t, x, []int{1, 2}, 1+1000+10000, api.OK)
		isRoute(t, x, []int{2, 1}, 10+100000+100, api.OK)
		isRoute(t, x, []int{1}, 1+100, api.OK)
		isRoute(t, x, []int{2}, 10+10000, api.OK)
		isRoute(t, x, []int{2, 2, 2}, 10+10000, api.OK)
		isRoute(t, x, []int{0, 1, 2}, 1+1000+10000, api.OK)
		isRoute(t, x, []int{2, 0, 1}, 10+10000+1+100, api.OK)
		isRoute(t, x, []int{1, 2, 1}, 1+1000+100000+100, api.OK)
	}
}

// ahead are lists of up to many of these elements.
func ahead[E any](elements []E, many int) [][]E {
	l := [][]E{nil}
	last := l
	for range many {
		var next [][]E
		for _, r := range last {
			for _, e := range elements {
				next = append(next, append(slices.Clone(r), e))
			}
		}
		l, last = append(l, next...), next
	}
	return l
}

func TestRouteOfAllShortOnes(t *testing.T) {
	routes := ahead([]int{-1, 0, 1, 2, 3}, 4)
	r := rand.New(rand.NewSource(6))
	for _, kind := range kinds {
		l := []canon.Inst{by(kind, 3, 0, 1, 10, 100, 0, 1000, 10000, 100000, 0)}
		for m := metric.Euclid; m <= metric.Tenth; m++ {
			l = append(l, of(kind, m, r.Intn(7), points(r, 3, 200)...))
		}
		for _, x := range l {
			well(t, x)
			for _, stops := range routes {
				holdsRoute(t, x, stops)
			}
		}
	}
}

// stops makes a route by chance, of stops below n.
func stops(r *rand.Rand, many, n int) []int {
	l := make([]int, many)
	for k := range l {
		l[k] = r.Intn(n)
	}
	return l
}

func TestRouteOfAllInstances(t *testing.T) {
	r := rand.New(rand.NewSource(7))
	for _, kind := range kinds {
		for _, n := range []int{1, 3, 7, 21} {
			for _, x := range all(t, r, kind, n) {
				for _, many := range []int{0, 1, 2, 3, 5, 20, 60} {
					holdsRoute(t, x, stops(r, many, n))
				}
				holdsRoute(t, x, slices.Repeat([]int{n - 1}, 9))
				holdsRoute(t, x, slices.Repeat([]int{0}, 9))
				holdsRoute(t, x, r.Perm(n))
			}
		}
	}
}

func TestRouteOfManyStops(t *testing.T) {
	r := rand.New(rand.NewSource(8))
	for _, kind := range kinds {
		n := 399
		for _, x := range []canon.Inst{by(kind, n, matrix(r, n, most)...), of(kind, metric.Tenth, 0, points(r, n, most)...), of(kind, metric.Euclid, 6, points(r, n, most)...)} {
			well(t, x)
			for _, many := range []int{399, 400, 401, 1999, 2000, 2001, 2100} {
				holdsRoute(t, x, stops(r, many, n))
			}
			holdsRoute(t, x, r.Perm(n))
		}
	}
}

func TestRouteOfTheGreatestLegs(t *testing.T) {
	there := make([]int, 2100)
	for k := range there {
		there[k] = 1 - k%2
	}
	isRoute(t, by(canon.Tsp, 2, 0, most, most, 0), there, 2100*most, api.OK)
	isRoute(t, by(canon.Cvrp, 2, 0, most, most, 0), there, 2100*most, api.OK)
	isRoute(t, by(canon.Cvrp, 2, 0, most, 0, 0), there, 1050*most, api.OK)
	isRoute(t, of(canon.Tsp, metric.Manhattan, 0, xy{-most, -most}, xy{most, most}), there, 2100*4*most, api.OK)
	isRoute(t, of(canon.Cvrp, metric.Tenth, 0, xy{-most, -most}, xy{most, most}), there, 2100*2828427124, api.OK)
}

func TestRouteOfAStopThatIsNoNode(t *testing.T) {
	r := rand.New(rand.NewSource(9))
	for _, kind := range kinds {
		for _, n := range []int{1, 3, 5, 31} {
			for _, x := range []canon.Inst{by(kind, n, matrix(r, n, 50)...), of(kind, metric.Euclid, 1, points(r, n, 50)...), of(kind, metric.Tenth, 0, points(r, n, 50)...)} {
				well(t, x)
				for _, many := range []int{1, 2, 3, 4, 9} {
					for at := range many {
						right := stops(r, many, n)
						for _, stop := range append([]int{n, n + 1, 2 * n, -n}, far...) {
							wrong := slices.Clone(right)
							wrong[at] = stop
							isRoute(t, x, wrong, 0, api.ErrArg)
							wrong[many-1] = -1
							isRoute(t, x, wrong, 0, api.ErrArg)
						}
						right[at] = n - 1
						holdsRoute(t, x, right)
					}
				}
				isRoute(t, x, slices.Repeat([]int{n}, 4), 0, api.ErrArg)
				isRoute(t, x, slices.Repeat([]int{-1}, 4), 0, api.ErrArg)
			}
		}
	}
}

func TestRouteOfAWrongStopAmongMany(t *testing.T) {
	r := rand.New(rand.NewSource(10))
	for _, kind := range kinds {
		x := of(kind, metric.Euclid, 0, points(r, 399, most)...)
		well(t, x)
		for _, at := range []int{0, 1, 1000, 2098, 2099} {
			for _, stop := range []int{-1, 399, 400, 1 << 32} {
				l := stops(r, 2100, 399)
				l[at] = stop
				isRoute(t, x, l, 0, api.ErrArg)
			}
		}
	}
}

// P10.2: Plan

func TestPlanOfKnownRoutes(t *testing.T) {
	x := triangle(canon.Cvrp)
	isPlan(t, x, 0, api.OK)
	isPlan(t, x, 0, api.OK, nil)
	isPlan(t, x, 0, api.OK, []int{}, nil, []int{})
	isPlan(t, x, 12, api.OK, []int{1, 2})
	isPlan(t, x, 18, api.OK, []int{1}, []int{2})
	isPlan(t, x, 18, api.OK, []int{2}, []int{1})
	isPlan(t, x, 18, api.OK, nil, []int{1}, nil, []int{2}, []int{})
	isPlan(t, x, 20, api.OK, []int{1}, []int{1})
	isPlan(t, x, 0, api.OK, []int{0}, []int{0, 0})
	isPlan(t, x, 0, api.ErrArg, []int{1}, []int{9})
	isPlan(t, x, 0, api.ErrArg, []int{3}, []int{1})
	isPlan(t, x, 0, api.ErrArg, []int{1}, []int{2, -1}, []int{1})
	isPlan(t, x, 0, api.ErrArg, nil, []int{3}, nil)

	// Of a tour each route comes back to its own first stop.
	y := triangle(canon.Tsp)
	isPlan(t, y, 0, api.OK)
	isPlan(t, y, 0, api.OK, []int{1}, nil, []int{2})
	isPlan(t, y, 12, api.OK, []int{0, 1, 2})
	isPlan(t, y, 18, api.OK, []int{1, 2}, []int{0, 1, 2})
	isPlan(t, y, 0, api.ErrArg, []int{1, 2}, []int{0, 1, 3})
}

func TestPlanOfAllSmallOnes(t *testing.T) {
	plans := ahead(ahead([]int{-1, 0, 1, 2, 3}, 2), 2)
	rare := ahead(ahead([]int{0, 1, 2}, 2), 3)
	for _, kind := range kinds {
		for _, x := range []canon.Inst{by(kind, 3, 0, 1, 10, 100, 0, 1000, 10000, 100000, 0), of(kind, metric.Tenth, 1, xy{5, 9}, xy{-100, 7}, xy{44, 44})} {
			well(t, x)
			for _, routes := range plans {
				holdsPlan(t, x, plan.Plan{Routes: routes})
			}
			for _, routes := range rare {
				holdsPlan(t, x, plan.Plan{Routes: routes})
			}
		}
	}
}

// split makes a plan by chance of so many stops below n, in so many routes; some of these are empty.
func split(r *rand.Rand, many, routes, n int) plan.Plan {
	p := plan.Plan{Routes: make([][]int, routes)}
	for range many {
		at := r.Intn(1 + r.Intn(routes))
		p.Routes[at] = append(p.Routes[at], r.Intn(n))
	}
	r.Shuffle(routes, func(i, j int) { p.Routes[i], p.Routes[j] = p.Routes[j], p.Routes[i] })
	return p
}

func TestPlanOfAllInstances(t *testing.T) {
	r := rand.New(rand.NewSource(11))
	for _, kind := range kinds {
		for _, n := range []int{1, 3, 9} {
			for _, x := range all(t, r, kind, n) {
				for _, routes := range []int{1, 2, 5, 60} {
					holdsPlan(t, x, split(r, r.Intn(300), routes, n))
				}
			}
		}
	}
}

func TestPlanOfManyRoutes(t *testing.T) {
	r := rand.New(rand.NewSource(12))
	for _, kind := range kinds {
		x := of(kind, metric.Tenth, 0, points(r, 399, most)...)
		well(t, x)
		for _, routes := range []int{1, 2, 60, 399, 400, 401, 410} {
			for _, many := range []int{0, 1, 399, 2000, 2001, 2100} {
				p := split(r, many, routes, 399)
				holdsPlan(t, x, p)
				if many == 0 {
					continue
				}
				// One wrong stop, in the first route that has one, and in the last one.
				with := func(l []int) bool { return len(l) > 0 }
				first := slices.IndexFunc(p.Routes, with)
				last := first
				for at := range p.Routes {
					if with(p.Routes[at]) {
						last = at
					}
				}
				for _, at := range []int{first, last} {
					k := r.Intn(len(p.Routes[at]))
					was := p.Routes[at][k]
					p.Routes[at][k] = 399
					isPlan(t, x, 0, api.ErrArg, p.Routes...)
					p.Routes[at][k] = was
				}
			}
		}
	}
}

func TestPlanOfTheGreatestLegs(t *testing.T) {
	p := plan.Plan{Routes: slices.Repeat([][]int{{1, 0, 1, 0, 1}}, 410)}
	isPlan(t, by(canon.Cvrp, 2, 0, most, most, 0), 410*6*most, api.OK, p.Routes...)
	isPlan(t, of(canon.Cvrp, metric.Tenth, 0, xy{-most, -most}, xy{most, most}), 410*6*2828427124, api.OK, p.Routes...)
	isPlan(t, by(canon.Tsp, 2, 0, most, most, 0), 410*4*most, api.OK, p.Routes...)
}

func TestPlanOfAStopThatIsNoNode(t *testing.T) {
	r := rand.New(rand.NewSource(13))
	for _, kind := range kinds {
		for _, x := range []canon.Inst{by(kind, 5, matrix(r, 5, 50)...), of(kind, metric.Ceiling, 2, points(r, 5, 5000)...)} {
			well(t, x)
			right := [][]int{{1, 2}, nil, {3}, {4, 0, 4}, {}, {2, 1, 3}}
			holdsPlan(t, x, plan.Plan{Routes: right})
			for at := range right {
				for k := range len(right[at]) {
					for _, stop := range append([]int{5, 6, 25}, far...) {
						wrong := slices.Clone(right)
						wrong[at] = slices.Clone(right[at])
						wrong[at][k] = stop
						isPlan(t, x, 0, api.ErrArg, wrong...)
						isPlan(t, x, 0, api.ErrArg, wrong[at])
						isPlan(t, x, 0, api.ErrArg, append(slices.Clone(wrong), []int{-1})...)
					}
				}
			}
		}
	}
}

// P10.3

// moved tells an instance elsewhere.
func moved(x canon.Inst, dx, dy int) canon.Inst {
	x.Nodes = slices.Clone(x.Nodes)
	for i := range x.Nodes {
		x.Nodes[i].X += dx
		x.Nodes[i].Y += dy
	}
	return x
}

// finer tells an instance ten times as far, in a scale of one more.
func finer(x canon.Inst) canon.Inst {
	x.Nodes = slices.Clone(x.Nodes)
	for i := range x.Nodes {
		x.Nodes[i].X *= 10
		x.Nodes[i].Y *= 10
	}
	x.Scale++
	return x
}

// told are x in each scale in which it fits, and each one also elsewhere, as far as it goes.
func told(x canon.Inst) []canon.Inst {
	var l []canon.Inst
	for y := x; canon.Well(y); y = finer(y) {
		l = append(l, y)
		left, right, low, high := most, -most, most, -most
		for _, n := range y.Nodes {
			left, right, low, high = min(left, n.X), max(right, n.X), min(low, n.Y), max(high, n.Y)
		}
		for _, d := range []xy{
			{1, 0}, {0, -1}, {-77, 123456}, {-most - left, 0}, {most - right, most - high}, {-most - left, -most - low}, {0, most - high}, {most - right, -most - low},
		} {
			if z := moved(y, d.x, d.y); canon.Well(z) {
				l = append(l, z)
			}
		}
	}
	return l
}

func TestSameCostInWhateverScaleAndPlace(t *testing.T) {
	r := rand.New(rand.NewSource(14))
	for _, kind := range kinds {
		for m := metric.Euclid; m <= metric.Tenth; m++ {
			for scale := range 7 {
				for _, size := range []int{3, 99, 50000, most} {
					x := of(kind, m, scale, points(r, 7, size)...)
					well(t, x)
					p := split(r, 30, 4, 7)
					wrong := plan.Plan{Routes: append(slices.Clone(p.Routes), []int{7})}
					want, _ := cost.Plan(x, p)
					length, _ := cost.Route(x, p.Routes[0])
					d, _ := cost.Between(x, 6, 2)
					ways := told(x)
					if len(ways) < 3 || size == 3 && len(ways) < 3*(7-scale) {
						t.Fatalf("%s: told in %d ways", brief(x), len(ways))
					}
					for _, y := range ways {
						isPlan(t, y, want, api.OK, p.Routes...)
						isPlan(t, y, 0, api.ErrArg, wrong.Routes...)
						isRoute(t, y, p.Routes[0], length, api.OK)
						isBetween(t, y, 6, 2, d, api.OK)
						isPlan(t, canon.Norm(y), want, api.OK, p.Routes...)
						if cost.Unit(y) != cost.Unit(x) {
							t.Errorf("Unit of %s: %d", brief(y), cost.Unit(y))
						}
					}
				}
			}
		}
	}
}

// A plan's normal form costs the same: routes without a stop cost nothing.
func TestSameCostInNormalForm(t *testing.T) {
	r := rand.New(rand.NewSource(15))
	for _, kind := range kinds {
		for _, x := range all(t, r, kind, 5) {
			p := split(r, 12, 9, 5)
			want, e := cost.Plan(x, p)
			isPlan(t, x, want, e, plan.Norm(p).Routes...)
		}
	}
}

// R1: of what is not well-formed nothing is said, but that calls end, without a panic; R3: and that
// an answer beside an error is 0.

func TestInstancesThatAreNotWellFormed(t *testing.T) {
	strange := []int{math.MinInt, math.MinInt + 1, -1 << 32, -1, 0, 1, 2, 3, 4, 5, 6, 7, 1 << 31, 1 << 32, math.MaxInt - 1, math.MaxInt}
	ends := func(x canon.Inst) {
		cost.Unit(x)
		for _, i := range append([]int{0, 1, 2, 3}, far...) {
			for _, j := range []int{math.MinInt, -1, 0, 1, 2, 3, math.MaxInt} {
				if n, e := cost.Between(x, i, j); e != api.OK && n != 0 {
					t.Errorf("Between of %v, %d, %d: %d, error %d", x, i, j, n, e)
				}
			}
		}
		for _, l := range ahead([]int{-1, 0, 1, 2}, 3) {
			if n, e := cost.Route(x, l); e != api.OK && n != 0 {
				t.Errorf("Route of %v, %v: %d, error %d", x, l, n, e)
			}
			if n, e := cost.Plan(x, plan.Plan{Routes: [][]int{{0}, l}}); e != api.OK && n != 0 {
				t.Errorf("Plan of %v, %v: %d, error %d", x, l, n, e)
			}
		}
	}
	for _, s := range strange {
		for _, kind := range kinds {
			ends(canon.Inst{Kind: kind, Metric: s})
			ends(canon.Inst{Kind: kind, Metric: s, Nodes: make([]canon.Node, 2)})
			ends(canon.Inst{Kind: kind, Metric: s, Nodes: make([]canon.Node, 2), Matrix: []int{s, 1, s}})
			ends(canon.Inst{Kind: kind, Metric: 1, Scale: s, Nodes: []canon.Node{{}, {X: 3, Y: 4}}})
			ends(canon.Inst{Kind: kind, Metric: 6, Nodes: []canon.Node{{X: s}, {X: 3, Y: 4}, {Y: s}}})
		}
		ends(canon.Inst{Kind: s, Metric: 2, Nodes: make([]canon.Node, 3)})
		ends(canon.Inst{Kind: s, Matrix: []int{1, 2, s}})
		ends(canon.Inst{Kind: s, Nodes: make([]canon.Node, 3), Matrix: make([]int, 8)})
	}
}

// With more nodes than an instance may have, all else holds.
func TestMoreNodesThanMayBe(t *testing.T) {
	r := rand.New(rand.NewSource(16))
	for _, kind := range kinds {
		x := of(kind, metric.Manhattan, 1, points(r, 420, 5000)...)
		holdsBetween(t, x, 419, 0)
		holdsBetween(t, x, 0, 420)
		holdsRoute(t, x, r.Perm(420))
		holdsRoute(t, x, []int{419, 420})
	}
}

// R4, R5: what is handed in stays as it was, also behind a list's end, and the same is answered again.

func TestWhatIsHandedInStays(t *testing.T) {
	r := rand.New(rand.NewSource(17))
	for _, kind := range kinds {
		for _, x := range all(t, r, kind, 5) {
			x.Nodes = append(x.Nodes, canon.Node{X: 77})[:5]
			x.Matrix = append(x.Matrix, 88)[:len(x.Matrix)]
			p := split(r, 20, 6, 5)
			for at, l := range p.Routes {
				p.Routes[at] = append(l, 99)[:len(l)]
			}
			p.Routes = append(p.Routes, []int{66})[:6]
			wrong := append([]int{1, 2, 5}, 55)[:3]

			was := fmt.Sprint(x, x.Nodes[:6], x.Matrix[:len(x.Matrix)+1], p.Routes[:7], wrong[:4], behind(p))
			said := answers(x, p, wrong)
			if now := fmt.Sprint(x, x.Nodes[:6], x.Matrix[:len(x.Matrix)+1], p.Routes[:7], wrong[:4], behind(p)); now != was {
				t.Errorf("%s, %s: changed: %s", brief(x), short(p), now)
			}
			if again := answers(x, p, wrong); again != said {
				t.Errorf("%s, %s: %s, and then %s", brief(x), short(p), said, again)
			}
		}
	}
}

// behind tells what stands one place behind the end of each route.
func behind(p plan.Plan) []int {
	var l []int
	for _, r := range p.Routes {
		l = append(l, r[:len(r)+1][len(r)])
	}
	return l
}

// answers tells what all calls answer.
func answers(x canon.Inst, p plan.Plan, wrong []int) string {
	a, e := cost.Between(x, 1, 2)
	b, f := cost.Between(x, 1, 5)
	c, g := cost.Route(x, p.Routes[0])
	d, h := cost.Route(x, wrong)
	i, j := cost.Plan(x, p)
	return fmt.Sprint(a, b, c, d, e, f, g, h, i, j, cost.Unit(x))
}
