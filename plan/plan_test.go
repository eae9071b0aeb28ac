package plan_test

import (
	"fmt"
	"math"
	"math/rand"
	"slices"
	"testing"

	"entrepot/api"
	"entrepot/plan"
)

// far are numbers that no instance has as a node, some of which come to one where bits are lost.
var far = []int{
	math.MinInt, math.MinInt + 1, -1 << 32, 1 - 1<<32, -65536, -401, -400, -399, -256, -2, -1,
	400, 401, 402, 511, 512, 655, 65536, 1 << 31, 1 << 32, 1<<32 + 1, 1<<32 + 399, 1 << 62, math.MaxInt - 1, math.MaxInt,
}

// of makes a plan of these routes.
func of(routes ...[]int) plan.Plan { return plan.Plan{Routes: routes} }

// text tells a plan or a list; of lists without elements the same as of nil ones.
func text(x any) string { return fmt.Sprint(x) }

// copied makes a plan that shares nothing with p.
func copied(p plan.Plan) plan.Plan {
	var q plan.Plan
	for _, r := range p.Routes {
		q.Routes = append(q.Routes, append([]int(nil), r...))
	}
	return q
}

// flat tells all stops of a plan, in order.
func flat(p plan.Plan) []int { return slices.Concat(p.Routes...) }

// brief tells a plan that may be a long one.
func brief(p plan.Plan) string {
	s := text(p.Routes)
	if len(s) > 200 {
		return fmt.Sprintf("%d routes of %d stops", len(p.Routes), len(flat(p)))
	}
	return s
}

// ahead are lists of up to many of these elements.
func ahead[E any](elements []E, many int) [][]E {
	all := [][]E{nil}
	last := all
	for range many {
		var next [][]E
		for _, l := range last {
			for _, e := range elements {
				next = append(next, append(slices.Clone(l), e))
			}
		}
		all, last = append(all, next...), next
	}
	return all
}

// small are all plans of up to three routes of up to two of these stops.
func small(stops ...int) []plan.Plan {
	var l []plan.Plan
	for _, routes := range ahead(ahead(stops, 2), 3) {
		l = append(l, of(routes...))
	}
	return l
}

// some are plans by chance, with stops from least to greatest: some routes are empty, and some
// plans are just as long as they may be, or longer.
func some(seed int64, many, least, greatest int) []plan.Plan {
	r := rand.New(rand.NewSource(seed))
	var l []plan.Plan
	for k := range many {
		p := of(make([][]int, []int{0, 1, 2, 5, 60, 399, 400, 401, 410}[k%9])...)
		for i := range p.Routes {
			if r.Intn(4) == 0 {
				continue
			}
			for range r.Intn(1 + 4200/len(p.Routes)) {
				p.Routes[i] = append(p.Routes[i], least+r.Intn(greatest-least+1))
			}
		}
		l = append(l, p)
	}
	return l
}

// split makes a plan of so many stops in so many routes, as even as it goes; where there are more
// routes than stops, those behind are empty. The stops rise from 0 to 399, again and again.
func split(stops, routes int) plan.Plan {
	p := of(make([][]int, routes)...)
	for k := range stops {
		i := k % routes
		p.Routes[i] = append(p.Routes[i], k%400)
	}
	return p
}

// shapes are plans without a wrong stop of all kinds of lengths that count.
func shapes() []plan.Plan {
	l := []plan.Plan{
		{}, of([][]int{}...), of(nil), of([]int{}), of(nil, []int{}, nil), of([]int{0}), of([]int{399}), of([]int{3, 1}, nil, []int{2}),
		of(nil, nil, []int{1, 2, 1}), of([]int{1}, nil), of(nil, []int{0}, nil), of([]int{5, 5, 5}, nil, nil, []int{5}),
	}
	for _, stops := range []int{0, 1, 2, 399, 400, 401, 1000, 1999, 2000, 2001, 2100} {
		for _, routes := range []int{1, 2, 3, 7, 60, 399, 400, 401, 410} {
			l = append(l, split(stops, routes))
		}
	}
	return l
}

// P9.1: Check

// check tells what P9.1 says of Check, by its words.
func check(p plan.Plan) api.Errno {
	all := flat(p)
	if len(p.Routes) > 400 || len(all) > 2000 {
		return api.ErrFull
	}
	if len(all) > 0 && (slices.Min(all) < 0 || slices.Max(all) > 399) {
		return api.ErrArg
	}
	return api.OK
}

func checks(t *testing.T, p plan.Plan, want api.Errno) {
	t.Helper()
	if e := plan.Check(p); e != want {
		t.Errorf("Check of %s: error %d, want %d", brief(p), e, want)
	}
}

func TestCheckOfRoutesWithoutStops(t *testing.T) {
	checks(t, plan.Plan{}, api.OK)
	for n := range 411 {
		want := api.OK
		if n > 400 {
			want = api.ErrFull
		}
		checks(t, of(make([][]int, n)...), want)
		full := of(make([][]int, n)...)
		for i := range full.Routes {
			full.Routes[i] = []int{}
		}
		checks(t, full, want)
	}
}

func TestCheckOfManyRoutes(t *testing.T) {
	for _, n := range []int{1, 2, 399, 400, 401, 402, 410} {
		want := api.OK
		if n > 400 {
			want = api.ErrFull
		}
		checks(t, split(n, n), want)
		// Empty ones count, wherever they stand.
		for _, at := range []int{0, n / 2, n - 1} {
			one := of(make([][]int, n)...)
			one.Routes[at] = []int{7}
			checks(t, one, want)
			others := split(n, n)
			others.Routes[at] = nil
			checks(t, others, want)
		}
	}
}

func TestCheckOfManyStops(t *testing.T) {
	for _, stops := range []int{0, 1, 2, 1998, 1999, 2000, 2001, 2002, 2100} {
		want := api.OK
		if stops > 2000 {
			want = api.ErrFull
		}
		for _, routes := range []int{1, 2, 3, 4, 5, 7, 100, 399, 400} {
			checks(t, split(stops, routes), want)
		}
		// All in one route among empty ones: the first, a middle, and the last one.
		for _, at := range []int{0, 200, 399} {
			p := of(make([][]int, 400)...)
			p.Routes[at] = make([]int, stops)
			checks(t, p, want)
		}
	}
}

func TestCheckOfOneStopTooMany(t *testing.T) {
	for at := range 5 {
		p := split(2000, 5)
		checks(t, p, api.OK)
		p.Routes[at] = append(p.Routes[at], 0)
		checks(t, p, api.ErrFull)
	}
	checks(t, of(make([]int, 2000), nil, []int{0}), api.ErrFull)
	checks(t, of([]int{0}, nil, make([]int, 2000)), api.ErrFull)
	checks(t, of(make([]int, 2000), nil, nil), api.OK)
}

func TestCheckOfAllStops(t *testing.T) {
	for stop := -450; stop <= 850; stop++ {
		want := api.ErrArg
		if 0 <= stop && stop <= 399 {
			want = api.OK
		}
		checks(t, of([]int{stop}), want)
		checks(t, of(nil, []int{3, 1}, nil, []int{2, stop}), want)
	}
	for _, stop := range far {
		checks(t, of([]int{stop}), api.ErrArg)
	}
}

// put makes a copy of p, where the k-th stop of all is another one.
func put(p plan.Plan, k, stop int) plan.Plan {
	q := copied(p)
	for i := range q.Routes {
		if k < len(q.Routes[i]) {
			q.Routes[i][k] = stop
			return q
		}
		k -= len(q.Routes[i])
	}
	panic("no such stop")
}

func TestCheckOfOneStopAmongMany(t *testing.T) {
	plans := []plan.Plan{
		of([]int{1, 2, 3}), of([]int{1}, []int{2}, []int{3}), of(nil, []int{1, 2}, nil, []int{3, 4, 5}, nil), split(60, 7), split(2000, 1), split(2000, 400), split(399, 400),
	}
	for _, p := range plans {
		n := len(flat(p))
		for _, k := range []int{0, 1, n / 2, n - 2, n - 1} {
			for _, stop := range []int{0, 1, 398, 399} {
				checks(t, put(p, k, stop), api.OK)
			}
			for _, stop := range far {
				checks(t, put(p, k, stop), api.ErrArg)
			}
		}
	}
}

// R2: what is too many is told ahead of a stop that may not be, wherever that one stands.
func TestCheckOfTooManyAndAWrongStop(t *testing.T) {
	for _, p := range []plan.Plan{split(2001, 1), split(2001, 2), split(2001, 400), split(1, 401), split(401, 401), split(2100, 410)} {
		n := len(flat(p))
		for _, k := range []int{0, n / 2, n - 1} {
			for _, stop := range []int{-1, 400, math.MinInt, math.MaxInt} {
				checks(t, put(p, k, stop), api.ErrFull)
			}
		}
	}
	checks(t, of([]int{-1}, make([]int, 2000)), api.ErrFull)
	checks(t, of(make([]int, 2000), []int{-1}), api.ErrFull)
	checks(t, of([]int{-1}, make([]int, 1999)), api.ErrArg)
}

func TestCheckOfAllSmallPlans(t *testing.T) {
	for _, p := range small(-1, 0, 399, 400) {
		checks(t, p, check(p))
	}
}

func TestCheckOfChance(t *testing.T) {
	found := map[api.Errno]int{}
	for _, bounds := range [][2]int{{0, 399}, {0, 399}, {-1, 399}, {0, 400}} {
		for _, p := range some(int64(bounds[1]-bounds[0]), 90, bounds[0], bounds[1]) {
			checks(t, p, check(p))
			found[check(p)]++
		}
	}
	for _, e := range []api.Errno{api.OK, api.ErrArg, api.ErrFull} {
		if found[e] < 9 {
			t.Errorf("error %d comes %d times alone", e, found[e])
		}
	}
}

// P9.1: Norm

func norms(t *testing.T, p, want plan.Plan) {
	t.Helper()
	if q := plan.Norm(p); text(q) != text(want) {
		t.Errorf("Norm of %s: %s, want %s", brief(p), brief(q), brief(want))
	}
}

// norm tells what P9.1 says of Norm, by its words.
func norm(p plan.Plan) plan.Plan {
	q := copied(p)
	q.Routes = slices.DeleteFunc(q.Routes, func(r []int) bool { return len(r) == 0 })
	return q
}

func TestNorm(t *testing.T) {
	none := []int{}
	for _, x := range []struct{ p, want plan.Plan }{
		{of([]int{3, 1}, nil, []int{2}), of([]int{3, 1}, []int{2})},
		{plan.Plan{}, plan.Plan{}},
		{of(nil), plan.Plan{}},
		{of(none, nil, none), plan.Plan{}},
		{of(make([][]int, 400)...), plan.Plan{}},
		{of(nil, []int{1}), of([]int{1})},
		{of([]int{1}, none), of([]int{1})},
		{of(none, nil, []int{2, 1}, nil, none, []int{3}, nil, nil), of([]int{2, 1}, []int{3})},
		{of([]int{2}, []int{1}), of([]int{2}, []int{1})},
		{of([]int{0}, nil, []int{0, 0}), of([]int{0}, []int{0, 0})},
		{of([]int{1, 1}, nil, []int{1, 1}), of([]int{1, 1}, []int{1, 1})},
		{of([]int{-1}, nil, []int{400, math.MinInt}), of([]int{-1}, []int{400, math.MinInt})},
	} {
		norms(t, x.p, x.want)
	}
}

func TestNormOfAllSmallPlans(t *testing.T) {
	for _, p := range small(0, 1, 7) {
		norms(t, p, norm(p))
	}
}

// Plans that Check does not take have a normal form, too.
func TestNormOfLongPlans(t *testing.T) {
	for _, p := range append(shapes(), some(9, 90, -5, 405)...) {
		norms(t, p, norm(p))
	}
	full := split(401, 401)
	norms(t, full, full)
}

// P9.1: Same

func sames(t *testing.T, a, b plan.Plan, want bool) {
	t.Helper()
	if plan.Same(a, b) != want || plan.Same(b, a) != want {
		t.Errorf("Same of %s and %s: not %t", brief(a), brief(b), want)
	}
}

func TestSame(t *testing.T) {
	p := of([]int{3, 1}, nil, []int{2})
	sames(t, p, p, true)
	sames(t, p, of([]int{3, 1}, []int{}, []int{2}), true)
	sames(t, plan.Plan{}, of([][]int{}...), true)
	for _, other := range []plan.Plan{
		{}, of(nil), of(nil, nil, nil), of([]int{3, 1}, nil), of([]int{3, 1}, nil, nil), of([]int{3, 1}, nil, []int{2}, nil), of(nil, []int{3, 1}, nil, []int{2}),
		of([]int{3, 1}, []int{2}), of([]int{3, 1}, []int{2}, nil), of(nil, []int{3, 1}, []int{2}), of([]int{2}, nil, []int{3, 1}),
		of([]int{1, 3}, nil, []int{2}), of([]int{3}, []int{1}, []int{2}), of([]int{3, 1, 2}, nil, nil), of([]int{3, 1}, []int{2}, []int{}),
		of([]int{3}, nil, []int{2}), of([]int{3, 1, 1}, nil, []int{2}), of([]int{3, 1}, nil, []int{2, 0}), of([]int{3, 1}, []int{0}, []int{2}),
		of([]int{3, 0}, nil, []int{2}), of([]int{4, 1}, nil, []int{2}), of([]int{3, 1}, nil, []int{-2}), of([]int{3, 1}, nil, []int{2 + 1<<32}),
	} {
		sames(t, p, other, false)
		sames(t, other, copied(other), true)
	}
}

func TestSameOfAllSmallPlans(t *testing.T) {
	plans := small(0, 1)
	for i, a := range plans {
		for k, b := range plans {
			if got := plan.Same(a, b); got != (i == k) {
				t.Errorf("Same of %s and %s: %t", brief(a), brief(b), got)
			}
		}
	}
}

func TestSameOfLongPlans(t *testing.T) {
	for _, p := range []plan.Plan{split(2000, 1), split(2000, 400), split(399, 400), split(2100, 410), split(60, 7)} {
		sames(t, p, copied(p), true)
		n := len(flat(p))
		for _, k := range []int{0, 1, n / 2, n - 2, n - 1} {
			for _, stop := range far {
				sames(t, p, put(p, k, stop), false)
				sames(t, put(p, k, stop), put(p, k, stop), true)
			}
		}
		more := copied(p)
		more.Routes = append(more.Routes, nil)
		sames(t, p, more, false)
		for i := range p.Routes {
			longer := copied(p)
			longer.Routes[i] = append(longer.Routes[i], 0)
			sames(t, p, longer, false)
		}
	}
}

// Where one route ends and the next one begins makes another plan, of the same stops.
func TestSameWhereRoutesEnd(t *testing.T) {
	all := flat(split(60, 1))
	for a := range 61 {
		for b := range 61 {
			sames(t, of(all[:a], all[a:]), of(all[:b], all[b:]), a == b)
		}
	}
}

// P9.1: Many

func TestMany(t *testing.T) {
	for _, x := range []struct {
		p    plan.Plan
		want int
	}{
		{plan.Plan{}, 0}, {of(nil), 0}, {of(make([][]int, 401)...), 0}, {of([]int{0}), 1}, {of([]int{3, 1}, nil, []int{2}), 3}, {of(nil, []int{2, 2, 2}, nil), 3},
		{of([]int{-1, 400}, []int{math.MinInt}), 3}, {split(2000, 1), 2000}, {split(2001, 3), 2001}, {split(2100, 410), 2100}, {split(3, 400), 3},
	} {
		if got := plan.Many(x.p); got != x.want {
			t.Errorf("Many of %s: %d, want %d", brief(x.p), got, x.want)
		}
	}
	for _, p := range slices.Concat(shapes(), small(-1, 0, 7), some(5, 90, -5, 405)) {
		if got := plan.Many(p); got != len(flat(p)) {
			t.Errorf("Many of %s: %d", brief(p), got)
		}
	}
}

// P9.2: Count

// count tells what P9.2 says of Count, by its words.
func count(p plan.Plan, n int) []int {
	if n < 1 || n > 400 {
		return nil
	}
	often := map[int]int{}
	for _, stop := range flat(p) {
		often[stop]++
	}
	var l []int
	for k := range n {
		l = append(l, often[k])
	}
	return l
}

func counts(t *testing.T, p plan.Plan, n int, want []int) {
	t.Helper()
	if got := plan.Count(p, n); !slices.Equal(got, want) {
		t.Errorf("Count of %s, %d: %v, want %v", brief(p), n, got, want)
	}
}

func TestCount(t *testing.T) {
	p := of([]int{3, 1}, nil, []int{2, 3, 3, -1, 400}, []int{1, 5})
	counts(t, p, 1, []int{0})
	counts(t, p, 2, []int{0, 2})
	counts(t, p, 3, []int{0, 2, 1})
	counts(t, p, 4, []int{0, 2, 1, 3})
	counts(t, p, 5, []int{0, 2, 1, 3, 0})
	counts(t, p, 6, []int{0, 2, 1, 3, 0, 1})
	counts(t, p, 7, []int{0, 2, 1, 3, 0, 1, 0})
	counts(t, plan.Plan{}, 3, []int{0, 0, 0})
	counts(t, of(nil, nil), 1, []int{0})
	counts(t, of([]int{0}, nil, []int{0, 0}), 1, []int{3})
}

func TestCountOfEveryN(t *testing.T) {
	for _, p := range append(shapes()[:40], of([]int{0, 398, 399, 400, -1}, []int{399})) {
		for _, n := range []int{1, 2, 3, 60, 398, 399, 400} {
			counts(t, p, n, count(p, n))
		}
	}
	p := of([]int{3, 1, 399}, nil, []int{2, 3, 400})
	for n := -450; n <= 850; n++ {
		counts(t, p, n, count(p, n))
	}
}

func TestCountOfNoSuchN(t *testing.T) {
	for _, p := range []plan.Plan{{}, of(nil), of([]int{0, 1, 2}), of([]int{-1}, []int{400, 401}), split(2000, 400), split(2100, 410)} {
		counts(t, p, 0, nil)
		for _, n := range far {
			// 400 is no stop, but it is how many nodes an instance may have.
			if n != 400 {
				counts(t, p, n, nil)
			}
		}
	}
}

// Stops below 0, and from n on, are not counted.
func TestCountOfOtherStops(t *testing.T) {
	for _, n := range []int{1, 2, 5, 399, 400} {
		nothing := make([]int, n)
		counts(t, of(slices.Clone(far), nil, []int{-n, -1, 400}), n, nothing)
		counts(t, of([]int{n}, []int{n + 1, 2 * n}), n, nothing)
		last := make([]int, n)
		last[n-1] = 2
		counts(t, of([]int{n - 1}, far, []int{n, n - 1}), n, last)
		first := make([]int, n)
		first[0] = 2
		counts(t, of([]int{0}, far, []int{-1, 0}), n, first)
	}
}

func TestCountOfAllSmallPlans(t *testing.T) {
	for _, p := range small(-1, 0, 1, 2) {
		for n := -1; n <= 4; n++ {
			counts(t, p, n, count(p, n))
		}
	}
}

func TestCountOfManyStops(t *testing.T) {
	for _, routes := range []int{1, 3, 400, 410} {
		p := split(2100, routes)
		for i := range p.Routes {
			for k := range p.Routes[i] {
				p.Routes[i][k] = 7
			}
		}
		want := make([]int, 9)
		want[7] = 2100
		counts(t, p, 9, want)
	}
	for _, p := range some(3, 90, -5, 405) {
		counts(t, p, 400, count(p, 400))
		counts(t, p, 77, count(p, 77))
	}
}

// P9.2: Find

// find tells what P9.2 says of Find, by its words.
func find(p plan.Plan, stop int) (int, int, bool) {
	for i, r := range p.Routes {
		if k := slices.Index(r, stop); k >= 0 {
			return i, k, true
		}
	}
	return 0, 0, false
}

func finds(t *testing.T, p plan.Plan, stop, route, at int, is bool) {
	t.Helper()
	if i, k, got := plan.Find(p, stop); i != route || k != at || got != is {
		t.Errorf("Find of %s, %d: %d, %d, %t, want %d, %d, %t", brief(p), stop, i, k, got, route, at, is)
	}
}

func TestFind(t *testing.T) {
	p := of(nil, []int{3, 1, 3}, nil, nil, []int{2, 3, 1, 5, 5}, nil, []int{5, 0})
	finds(t, p, 3, 1, 0, true)
	finds(t, p, 1, 1, 1, true)
	finds(t, p, 2, 4, 0, true)
	finds(t, p, 5, 4, 3, true)
	finds(t, p, 0, 6, 1, true)
	finds(t, p, 4, 0, 0, false)
	finds(t, p, 6, 0, 0, false)
	finds(t, of([]int{0}), 0, 0, 0, true)
	for _, stop := range append([]int{0, 1, 399}, far...) {
		finds(t, plan.Plan{}, stop, 0, 0, false)
		finds(t, of(nil, []int{}, nil), stop, 0, 0, false)
		finds(t, of([]int{2, 3}, nil, []int{4}), stop, 0, 0, false)
	}
}

// What is a stop is found, also where Check does not take it.
func TestFindOfStopsThatMayNotBe(t *testing.T) {
	p := of(nil, []int{7}, far)
	for k, stop := range far {
		finds(t, p, stop, 2, k, true)
	}
	finds(t, p, 0, 0, 0, false)
	finds(t, p, 1, 0, 0, false)
	finds(t, p, 399, 0, 0, false)
}

func TestFindOfAllSmallPlans(t *testing.T) {
	for _, p := range small(-1, 0, 1, 2) {
		for stop := -2; stop <= 4; stop++ {
			route, at, is := find(p, stop)
			finds(t, p, stop, route, at, is)
		}
	}
}

func TestFindOfLongPlans(t *testing.T) {
	for _, p := range []plan.Plan{split(2000, 1), split(2000, 400), split(2100, 410), split(399, 400), split(60, 7)} {
		n := len(flat(p))
		for _, k := range []int{0, 1, n / 2, n - 2, n - 1} {
			one := put(p, k, 555)
			route, at, _ := find(one, 555)
			finds(t, one, 555, route, at, true)
			// A second one behind it changes nothing.
			finds(t, put(one, n-1, 555), 555, route, at, true)
			finds(t, p, 555, 0, 0, false)
		}
	}
	for _, p := range some(4, 90, -5, 405) {
		for stop := -7; stop <= 407; stop += 3 {
			route, at, is := find(p, stop)
			finds(t, p, stop, route, at, is)
		}
	}
}

// P9.3

func TestNormHasTheSameStops(t *testing.T) {
	for _, p := range slices.Concat(shapes(), small(-1, 0, 7), some(6, 90, -5, 405)) {
		q := plan.Norm(p)
		if !slices.Equal(flat(q), flat(p)) || plan.Many(q) != plan.Many(p) || !slices.Equal(plan.Count(q, 400), plan.Count(p, 400)) {
			t.Errorf("the normal form of %s has other stops: %s", brief(p), brief(q))
		}
		if !plan.Same(plan.Norm(q), q) {
			t.Errorf("the normal form of %s is not its own", brief(p))
		}
		if plan.Check(p) == api.OK && plan.Check(q) != api.OK {
			t.Errorf("the normal form of %s is not taken", brief(p))
		}
		if plan.Same(p, q) != (len(p.Routes) == len(q.Routes)) {
			t.Errorf("Same of %s and its normal form %s", brief(p), brief(q))
		}
	}
}

func TestCountsGoByFind(t *testing.T) {
	for _, p := range append(shapes(), some(7, 45, 0, 399)...) {
		for stop, often := range plan.Count(p, 400) {
			route, at, is := plan.Find(p, stop)
			if is != (often > 0) || is && p.Routes[route][at] != stop {
				t.Errorf("%s: %d is a stop %d times, and Find tells %d, %d, %t", brief(p), stop, often, route, at, is)
			}
		}
	}
}

// R4

// roomy is p with room behind its lists, in which stand other things.
func roomy(p plan.Plan) plan.Plan {
	q := copied(p)
	for i, r := range q.Routes {
		q.Routes[i] = append(slices.Clone(r), 77, 78)[:len(r)]
	}
	q.Routes = append(q.Routes, []int{79}, nil)[:len(q.Routes)]
	return q
}

// behind tells all that p has, with what stands in the room behind its lists.
func behind(p plan.Plan) string {
	s := text(len(p.Routes))
	for _, r := range p.Routes[:cap(p.Routes)] {
		s += text(len(r)) + text(r[:cap(r)])
	}
	return s
}

// plans are some that the calls are to leave as they were.
func plans() []plan.Plan {
	return []plan.Plan{
		{}, of(nil), of([]int{}, nil), of([]int{3, 1}, nil, []int{2, 3}), of([]int{3, 1}, []int{2}), of([]int{-1, 400}, nil), split(60, 7), split(2001, 3), split(5, 401),
	}
}

func TestHandedInStays(t *testing.T) {
	for _, p := range plans() {
		for _, other := range plans() {
			a, b := roomy(p), roomy(other)
			was, wasOther := behind(a), behind(b)
			plan.Check(a)
			plan.Norm(a)
			plan.Same(a, b)
			plan.Same(a, a)
			plan.Many(a)
			for _, n := range []int{-1, 0, 1, 4, 400, 401} {
				plan.Count(a, n)
				plan.Find(a, n)
			}
			if behind(a) != was || behind(b) != wasOther {
				t.Errorf("%s and %s are changed", brief(p), brief(other))
			}
		}
	}
}

// scribble writes over all that p has, and behind it.
func scribble(p plan.Plan) {
	for _, r := range p.Routes[:cap(p.Routes)] {
		r = r[:cap(r)]
		for k := range r {
			r[k] = -99
		}
	}
	clear(p.Routes[:cap(p.Routes)])
}

func TestNormSharesNothing(t *testing.T) {
	for _, p := range plans() {
		in := roomy(p)
		was, want := behind(in), text(norm(p))
		first, second := plan.Norm(in), plan.Norm(in)
		scribble(first)
		if behind(in) != was || text(second) != want || text(plan.Norm(in)) != want {
			t.Errorf("writing over the normal form of %s changes another thing", brief(p))
		}
		scribble(in)
		if text(second) != want {
			t.Errorf("writing over %s changes its normal form", brief(p))
		}
	}
}

// No two routes of a normal form share anything, also where those of the plan do.
func TestRoutesOfNormShareNothing(t *testing.T) {
	all := []int{4, 5, 6, 7}
	for _, p := range []plan.Plan{of(all, all), of(all[:2], all[2:]), of(all[:2], all[1:3], nil, all[:1]), of(all[:1], all[:1], all)} {
		want := text(norm(p))
		for i := range norm(p).Routes {
			q := plan.Norm(p)
			kept := copied(q)
			r := append(q.Routes[i], -98, -98)
			for k := range r {
				r[k] = -99
			}
			clear(q.Routes[i][:cap(q.Routes[i])])
			q.Routes[i] = kept.Routes[i]
			if text(q) != want || text(plan.Norm(p)) != want {
				t.Errorf("writing over route %d of the normal form of %s changes another thing: %s", i, brief(p), brief(q))
			}
		}
	}
}

func TestCountSharesNothing(t *testing.T) {
	for _, p := range plans() {
		for _, n := range []int{1, 4, 400} {
			in := roomy(p)
			was, want := behind(in), count(p, n)
			first, second := plan.Count(in, n), plan.Count(in, n)
			first = first[:cap(first)]
			for k := range first {
				first[k] = -99
			}
			if behind(in) != was || !slices.Equal(second, want) || !slices.Equal(plan.Count(in, n), want) {
				t.Errorf("writing over the counts of %s changes another thing", brief(p))
			}
			scribble(in)
			if !slices.Equal(second, want) {
				t.Errorf("writing over %s changes its counts", brief(p))
			}
		}
	}
}

// R5: what a call answers hangs on its arguments alone, not on what was asked ahead of it.
func TestCallsAreAlike(t *testing.T) {
	ask := func() string {
		var s string
		for _, p := range plans() {
			i, k, is := plan.Find(p, 3)
			s += text(plan.Check(p)) + text(plan.Norm(p)) + text(plan.Many(p)) + text(plan.Count(p, 9)) + text([]any{i, k, is})
		}
		return s
	}
	first := ask()
	plan.Check(split(2100, 410))
	plan.Count(split(9, 3), math.MaxInt)
	plan.Find(split(9, 3), 8)
	plan.Find(plan.Plan{}, math.MinInt)
	if first != ask() {
		t.Error("answers change")
	}
}
