package metric_test

import (
	"math"
	"math/big"
	"math/rand"
	"slices"
	"strings"
	"testing"

	"entrepot/api"
	"entrepot/metric"
)

const most = 200000000 // the greatest dx and dy of which a distance is told

// keywords are the metrics' keywords, as the chapter has them.
var keywords = []string{"EXPLICIT", "EUC_2D", "CEIL_2D", "MAN_2D", "MAX_2D", "ATT"}

// names are the metrics of which distances are told.
var names = map[int]string{
	metric.Euclid: "Euclid", metric.Ceiling: "Ceiling", metric.Manhattan: "Manhattan",
	metric.Maximum: "Maximum", metric.Att: "Att", metric.Tenth: "Tenth",
}

// strange are numbers that are no metric and no scale.
var strange = []int{math.MinInt, math.MinInt + 1, -1 << 32, -256, -7, -6, -2, -1, 7, 8, 9, 10, 64, 256, 1 << 31, 1 << 32, 1<<32 + 1, math.MaxInt - 1, math.MaxInt}

// P6.1

func TestNumbersOfMetrics(t *testing.T) {
	for want, got := range []int{metric.Explicit, metric.Euclid, metric.Ceiling, metric.Manhattan, metric.Maximum, metric.Att, metric.Tenth} {
		if got != want {
			t.Errorf("metric %d has the number %d", want, got)
		}
	}
}

func TestKnown(t *testing.T) {
	for m := -300; m <= 300; m++ {
		if got, want := metric.Known(m), 0 <= m && m <= 6; got != want {
			t.Errorf("Known(%d) = %v", m, got)
		}
	}
	for _, m := range strange {
		if metric.Known(m) {
			t.Errorf("Known(%d)", m)
		}
	}
}

func TestKeyword(t *testing.T) {
	for m := -300; m <= 300; m++ {
		want := ""
		if 0 <= m && m < len(keywords) {
			want = keywords[m]
		}
		if got := metric.Keyword(m); got != want {
			t.Errorf("Keyword(%d) = %q, want %q", m, got, want)
		}
	}
	for _, m := range strange {
		if got := metric.Keyword(m); got != "" {
			t.Errorf("Keyword(%d) = %q", m, got)
		}
	}
}

func TestOf(t *testing.T) {
	for want, k := range keywords {
		if got, is := metric.Of(k); got != want || !is {
			t.Errorf("Of(%q) = %d, %v", k, got, is)
		}
	}
}

// none holds that no metric has the keyword, unless it is one.
func none(t *testing.T, keyword string) {
	t.Helper()
	if slices.Contains(keywords, keyword) {
		return
	}
	if got, is := metric.Of(keyword); got != 0 || is {
		t.Errorf("Of(%q) = %d, %v", keyword, got, is)
	}
}

func TestOfOtherTexts(t *testing.T) {
	for _, s := range []string{
		"", " ", "\x00", "0", "1", "6", "_", "_2D", "2D", "EUC", "EUC_3D", "CEIL", "MAN", "MAX", "GEO", "XRAY1", "SPECIAL",
		"TENTH", "Tenth", "TENTH_2D", "EXACT_2D", "FLOOR_2D", "EXPLICIT EUC_2D", "EXPLICITEUC_2D", "EUC_2D:", "é", "\xff",
	} {
		none(t, s)
	}
}

func TestOfTextsThatAreNearlyOne(t *testing.T) {
	for _, k := range keywords {
		none(t, strings.ToLower(k))
		none(t, k+k)
		for at := range len(k) + 1 {
			none(t, k[:at])
			none(t, k[at:])
			none(t, k[:at]+" "+k[at:])
			for b := range 256 {
				none(t, k[:at]+string([]byte{byte(b)})+k[at:])
				if at < len(k) {
					none(t, k[:at]+string([]byte{byte(b)})+k[at+1:])
				}
			}
			if at < len(k) {
				none(t, k[:at]+k[at+1:])
				none(t, k[:at]+strings.ToLower(k[at:at+1])+k[at+1:])
			}
		}
	}
}

// P6.2: what the promise says of distances, in wide numbers

// product multiplies numbers whose product may be wide.
func product(l ...int) *big.Int {
	p := big.NewInt(1)
	for _, x := range l {
		p.Mul(p, big.NewInt(int64(x)))
	}
	return p
}

// sum adds wide numbers.
func sum(l ...*big.Int) *big.Int {
	s := new(big.Int)
	for _, x := range l {
		s.Add(s, x)
	}
	return s
}

// atMost tells whether x is y at most.
func atMost(x, y *big.Int) bool { return x.Cmp(y) <= 0 }

// ten tells 10 to the scale.
func ten(scale int) int {
	return []int{1, 10, 100, 1000, 10000, 100000, 1000000}[scale]
}

// plain tells a number without its sign.
func plain(n int) int {
	if n < 0 {
		return -n
	}
	return n
}

// isNearest tells whether q is the nearest whole number to a divided by t, of two that are as near the
// greater one: whether a is no further below q than a half, and further below q + 1.
func isNearest(q, a, t int) bool {
	from := func(q int) *big.Int { return sum(product(2, q, t), product(-1, t)) }
	return atMost(from(q), product(2, a)) && !atMost(from(q+1), product(2, a))
}

// isDist tells whether q is what P6.2 says of a distance, by the squares of q and its neighbours.
func isDist(kind, scale, dx, dy, q int) bool {
	t := ten(scale)
	d := sum(product(dx, dx), product(dy, dy))
	square := func(x int) *big.Int { return product(x, x, t, t) }
	switch kind {
	case metric.Euclid:
		fours := sum(d, d, d, d)
		return (q == 0 || q > 0 && atMost(square(2*q-1), fours)) && !atMost(square(2*q+1), fours)
	case metric.Ceiling:
		return atMost(d, square(q)) && (q == 0 || q > 0 && !atMost(d, square(q-1)))
	case metric.Manhattan:
		return isNearest(q, plain(dx)+plain(dy), t)
	case metric.Maximum:
		return isNearest(q, max(plain(dx), plain(dy)), t)
	case metric.Att:
		tens := func(x int) *big.Int { return product(10, x, x, t, t) }
		return atMost(d, tens(q)) && (q == 0 || q > 0 && !atMost(d, tens(q-1)))
	case metric.Tenth:
		hundreds := new(big.Int).Mul(d, big.NewInt(100))
		return q >= 0 && atMost(square(q), hundreds) && !atMost(square(q+1), hundreds)
	}
	return false
}

// dist tells a distance that is to be told without an error.
func dist(t *testing.T, kind, scale, dx, dy int) int {
	t.Helper()
	q, e := metric.Dist(kind, scale, dx, dy)
	if e != api.OK {
		t.Fatalf("%s, scale %d, of %d, %d: error %d", names[kind], scale, dx, dy, e)
	}
	return q
}

// holds holds the distance of each metric against what the promise says of it.
func holds(t *testing.T, scale, dx, dy int) {
	t.Helper()
	for kind := range names {
		if q := dist(t, kind, scale, dx, dy); !isDist(kind, scale, dx, dy, q) {
			t.Fatalf("%s, scale %d, of %d, %d: %d", names[kind], scale, dx, dy, q)
		}
	}
}

// signs holds the same of both signs of dx and dy, and of both ways round, where a distance is told.
func signs(t *testing.T, scale, dx, dy int) {
	t.Helper()
	if plain(dx) > most || plain(dy) > most {
		return
	}
	for _, p := range [][2]int{{dx, dy}, {dx, -dy}, {-dx, dy}, {-dx, -dy}, {dy, dx}} {
		holds(t, scale, p[0], p[1])
	}
}

// P6.2: distances that are told

type example struct {
	name          string
	scale, dx, dy int
	want          map[int]int
}

func check(t *testing.T, l []example) {
	t.Helper()
	for _, x := range l {
		for kind, want := range x.want {
			if got, e := metric.Dist(kind, x.scale, x.dx, x.dy); got != want || e != api.OK {
				t.Errorf("%s: %s, scale %d, of %d, %d: %d, error %d, want %d", x.name, names[kind], x.scale, x.dx, x.dy, got, e, want)
			}
		}
	}
}

// each makes a table of what all metrics tell, from Euclid on.
func each(euclid, ceiling, manhattan, maximum, att, tenth int) map[int]int {
	return map[int]int{
		metric.Euclid: euclid, metric.Ceiling: ceiling, metric.Manhattan: manhattan,
		metric.Maximum: maximum, metric.Att: att, metric.Tenth: tenth,
	}
}

func TestDistances(t *testing.T) {
	check(t, []example{
		{"the document's example", 0, 3, 5, each(6, 6, 8, 5, 2, 58)},
		{"the same, the other way round", 0, -3, -5, each(6, 6, 8, 5, 2, 58)},
		{"the same, with the other dx", 0, -3, 5, each(6, 6, 8, 5, 2, 58)},
		{"the same, with the other dy", 0, 3, -5, each(6, 6, 8, 5, 2, 58)},
		{"the same, turned", 0, -5, 3, each(6, 6, 8, 5, 2, 58)},
		{"the same, of scale 1", 1, 30, 50, each(6, 6, 8, 5, 2, 58)},
		{"the same, of scale 6", 6, 3000000, -5000000, each(6, 6, 8, 5, 2, 58)},
		{"nought", 0, 0, 0, each(0, 0, 0, 0, 0, 0)},
		{"nought, of scale 6", 6, 0, 0, each(0, 0, 0, 0, 0, 0)},
		{"one, by x", 0, 1, 0, each(1, 1, 1, 1, 1, 10)},
		{"one, by y, back", 0, 0, -1, each(1, 1, 1, 1, 1, 10)},
		{"one and one", 0, 1, 1, each(1, 2, 2, 1, 1, 14)},
		{"a whole root", 0, 3, 4, each(5, 5, 7, 4, 2, 50)},
		{"a whole root of tens", 0, 6, 2, each(6, 7, 8, 6, 2, 63)},
		{"one more than that", 0, 4, 5, each(6, 7, 9, 5, 3, 64)},
		{"the least, of scale 6", 6, 1, 0, each(0, 1, 0, 0, 1, 0)},
		{"the least both, of scale 6", 6, -1, -1, each(0, 1, 0, 0, 1, 0)},
		{"the greatest by x alone", 0, most, 0, each(200000000, 200000000, 200000000, 200000000, 63245554, 2000000000)},
		{"the greatest by y alone, back", 0, 0, -most, each(200000000, 200000000, 200000000, 200000000, 63245554, 2000000000)},
		{"the greatest of all", 0, most, most, each(282842712, 282842713, 400000000, 200000000, 89442720, 2828427124)},
		{"the greatest of all, back", 0, -most, -most, each(282842712, 282842713, 400000000, 200000000, 89442720, 2828427124)},
		{"the greatest by x alone, of scale 6", 6, -most, 0, each(200, 200, 200, 200, 64, 2000)},
		{"the greatest of all at once", 6, most, -most, each(283, 283, 400, 200, 90, 2828)},
	})
}

func TestDistancesOfQuotients(t *testing.T) {
	check(t, []example{
		{"half way between 0 and 1", 1, 5, 0, each(1, 1, 1, 1, 1, 5)},
		{"one below it", 1, 4, 0, each(0, 1, 0, 0, 1, 4)},
		{"half way, back", 1, 0, -5, each(1, 1, 1, 1, 1, 5)},
		{"half way between 1 and 2", 1, 15, 0, each(2, 2, 2, 2, 1, 15)},
		{"one below it", 1, 14, 0, each(1, 2, 1, 1, 1, 14)},
		{"one above it", 1, 16, 0, each(2, 2, 2, 2, 1, 16)},
		{"half way, back", 1, -15, 0, each(2, 2, 2, 2, 1, 15)},
		{"whole", 1, 20, 0, each(2, 2, 2, 2, 1, 20)},
		{"one above it", 1, 21, 0, each(2, 3, 2, 2, 1, 21)},
		{"one below it", 1, 19, 0, each(2, 2, 2, 2, 1, 19)},
		{"half way as a root: 9, 12", 1, 9, 12, each(2, 2, 2, 1, 1, 15)},
		{"beside it: 9, 11", 1, 9, 11, each(1, 2, 2, 1, 1, 14)},
		{"halves that make a whole", 1, 5, -5, each(1, 1, 1, 1, 1, 7)},
		{"parts that are rounded together, not one by one", 1, 4, 4, each(1, 1, 1, 0, 1, 5)},
		{"half way together", 1, 7, 8, each(1, 2, 2, 1, 1, 10)},
		{"half way between 1 and 2, of scale 2", 2, 150, 20, each(2, 2, 2, 2, 1, 15)},
		{"one below it, of scale 2", 2, 149, 20, each(2, 2, 2, 1, 1, 15)},
		{"half way, of scale 6", 6, 500000, 0, each(1, 1, 1, 1, 1, 5)},
		{"one below it, of scale 6", 6, 499999, 0, each(0, 1, 0, 0, 1, 4)},
		{"the greatest half way, of scale 6", 6, 199500000, 0, each(200, 200, 200, 200, 64, 1995)},
		{"one below it, of scale 6", 6, 0, -199499999, each(199, 200, 199, 199, 64, 1994)},
		{"the greatest half way of both, of scale 6", 6, 199500000, most, each(282, 283, 400, 200, 90, 2824)},
		{"one below it, of scale 6", 6, 199499999, -most, each(282, 283, 399, 200, 90, 2824)},
		{"the root of a tenth is whole", 1, 60, 20, each(6, 7, 8, 6, 2, 63)},
		{"one above it", 1, 60, 21, each(6, 7, 8, 6, 3, 63)},
		{"one below it", 1, 60, 19, each(6, 7, 8, 6, 2, 62)},
		{"whole tenths", 2, 30, 40, each(1, 1, 1, 0, 1, 5)},
		{"one below it", 2, 30, 39, each(0, 1, 1, 0, 1, 4)},
		{"tenths, to be rounded down, not to the nearest", 2, 0, 59, each(1, 1, 1, 1, 1, 5)},
	})
}

func TestSmallDistances(t *testing.T) {
	for scale := range api.MaxScale + 1 {
		for dx := -25; dx <= 25; dx++ {
			for dy := -25; dy <= 25; dy++ {
				holds(t, scale, dx, dy)
			}
		}
	}
	for dx := range 130 {
		for dy := range 130 {
			signs(t, 1, dx, dy)
		}
	}
}

func TestDistancesBesideHalvesAndWholes(t *testing.T) {
	for scale := range api.MaxScale + 1 {
		half := max(ten(scale)/2, 1)
		for n := 0; n*half <= most; n += 1 + n/5 {
			for i := -2; i <= 2; i++ {
				a := n*half + i
				signs(t, scale, a, 0)
				signs(t, scale, a, 1)
				signs(t, scale, a, a)
				signs(t, scale, a, half)
				signs(t, scale, a/3, a-a/3) // together a: the quotient of their sum is beside one
				signs(t, scale, 3*a/5, 4*a/5)
				signs(t, scale, 3*a, a) // the root of a tenth of whose squares is a
			}
		}
	}
}

func TestGreatDistances(t *testing.T) {
	for scale := range api.MaxScale + 1 {
		for i := range 20 {
			for j := range 20 {
				signs(t, scale, most-i, most-j)
				signs(t, scale, most-i, j)
				signs(t, scale, most-i, most/2-j)
			}
		}
	}
}

// chance goes through n pairs of numbers of all sizes and signs up to most, the same ones each time.
func chance(n, most int, use func(scale, dx, dy int)) {
	r := rand.New(rand.NewSource(6))
	one := func() int { return (r.Intn(2*most+1) - most) / (1 << r.Intn(28)) }
	for range n {
		use(r.Intn(api.MaxScale+1), one(), one())
	}
}

func TestDistancesOfAllSizes(t *testing.T) {
	chance(50000, most, func(scale, dx, dy int) { holds(t, scale, dx, dy) })
}

// P6.2: errors

// fails holds that a distance is not told, but that error, and 0 with it (R3).
func fails(t *testing.T, want api.Errno, kind, scale, dx, dy int) {
	t.Helper()
	if q, e := metric.Dist(kind, scale, dx, dy); q != 0 || e != want {
		t.Errorf("metric %d, scale %d, of %d, %d: %d, error %d, want error %d", kind, scale, dx, dy, q, e, want)
	}
}

// far are differences of coordinates that are too great.
var far = []int{most + 1, -most - 1, most + 2, 2 * most, -2 * most, 1 << 31, -1 << 31, 1 << 32, 1<<32 + 1, -1 << 32, 1 << 62, math.MaxInt, math.MinInt, math.MinInt + 1}

func TestNoMetric(t *testing.T) {
	for _, kind := range append([]int{metric.Explicit}, strange...) {
		for scale := range api.MaxScale + 1 {
			fails(t, api.ErrArg, kind, scale, 0, 0)
			fails(t, api.ErrArg, kind, scale, 3, 5)
			fails(t, api.ErrArg, kind, scale, -most, most)
		}
	}
}

func TestNoScale(t *testing.T) {
	for kind := range names {
		for _, scale := range strange {
			fails(t, api.ErrArg, kind, scale, 0, 0)
			fails(t, api.ErrArg, kind, scale, 3, 5)
			fails(t, api.ErrArg, kind, scale, most, -most)
		}
	}
}

func TestTooFar(t *testing.T) {
	for kind := range names {
		for scale := range api.MaxScale + 1 {
			for _, a := range far {
				for _, b := range []int{0, 1, -1, most, -most} {
					fails(t, api.ErrFull, kind, scale, a, b)
					fails(t, api.ErrFull, kind, scale, b, a)
				}
				for _, b := range far {
					fails(t, api.ErrFull, kind, scale, a, b)
				}
			}
		}
	}
}

// R2: of several errors the first one named is told.
func TestFirstError(t *testing.T) {
	for _, a := range far {
		for _, kind := range append([]int{metric.Explicit}, strange...) {
			fails(t, api.ErrArg, kind, 0, a, 0)
			fails(t, api.ErrArg, kind, 6, 0, a)
			for _, scale := range strange {
				fails(t, api.ErrArg, kind, scale, 0, 0)
				fails(t, api.ErrArg, kind, scale, a, a)
			}
		}
		for kind := range names {
			for _, scale := range strange {
				fails(t, api.ErrArg, kind, scale, a, 0)
				fails(t, api.ErrArg, kind, scale, 0, a)
				fails(t, api.ErrArg, kind, scale, a, a)
			}
		}
	}
}

// P6.3

func TestTheOtherWayRound(t *testing.T) {
	chance(50000, most, func(scale, dx, dy int) {
		for kind := range names {
			want := dist(t, kind, scale, dx, dy)
			for _, p := range [][2]int{{-dx, -dy}, {-dx, dy}, {dx, -dy}, {dy, dx}} {
				if got := dist(t, kind, scale, p[0], p[1]); got != want {
					t.Fatalf("%s, scale %d, of %d, %d: %d, but of %d, %d: %d", names[kind], scale, dx, dy, want, p[0], p[1], got)
				}
			}
		}
	})
}

func TestAnyScale(t *testing.T) {
	same := func(scale, dx, dy int) {
		for kind := range names {
			want := dist(t, kind, scale, dx, dy)
			for more := 1; scale+more <= api.MaxScale && max(plain(dx), plain(dy))*ten(more) <= most; more++ {
				if got := dist(t, kind, scale+more, dx*ten(more), dy*ten(more)); got != want {
					t.Fatalf("%s, of %d, %d: %d in scale %d, but %d in scale %d", names[kind], dx, dy, want, scale, got, scale+more)
				}
			}
		}
	}
	for scale := range api.MaxScale {
		for dx := range 40 {
			for dy := range 40 {
				same(scale, dx, -dy)
			}
		}
		same(scale, most/10, most/10)
		same(scale, 0, -most/10)
	}
	chance(50000, most/10, same)
}

// R5: what a call answers hangs on its arguments alone, not on what was asked ahead of it.

func TestCallsAreAlike(t *testing.T) {
	ask := func() []int {
		var l []int
		chance(1000, most, func(scale, dx, dy int) {
			for kind := metric.Euclid; kind <= metric.Tenth; kind++ {
				l = append(l, dist(t, kind, scale, dx, dy))
			}
		})
		return l
	}
	first := ask()
	metric.Dist(metric.Explicit, 0, 1, 1)
	metric.Dist(metric.Tenth, 6, math.MinInt, math.MaxInt)
	metric.Of("")
	if !slices.Equal(first, ask()) {
		t.Error("distances change")
	}
}
