package root_test

import (
	"math"
	"math/big"
	"math/rand"
	"testing"

	"entrepot/root"
)

const (
	most  = 80000000000000000 // the greatest n of which anything is promised
	wide  = 1000000           // the greatest d
	least = math.MinInt
)

// divisors are numbers by which is divided: small ones, odd and even ones, those that distances have
// (powers of ten), and some beside them.
var divisors = []int{1, 2, 3, 4, 7, 10, 11, 16, 99, 100, 101, 1000, 4096, 10000, 65537, 99999, 100000, 999999, wide}

// product multiplies numbers whose product may be wide.
func product(l ...int) *big.Int {
	p := big.NewInt(1)
	for _, x := range l {
		p.Mul(p, big.NewInt(int64(x)))
	}
	return p
}

// above tells whether x is above y.
func above(x, y *big.Int) bool { return x.Cmp(y) > 0 }

// isFloor tells whether q is what P5.1 says of Floor.
func isFloor(q, n int) bool {
	return q >= 0 && !above(product(q, q), product(n)) && above(product(q+1, q+1), product(n))
}

// isNear tells whether q is what P5.2 says of Near.
func isNear(q, n, d int) bool {
	may := func(q int) bool { return q == 0 || !above(product(2*q-1, 2*q-1, d, d), product(4, n)) }
	return q >= 0 && may(q) && !may(q+1)
}

// isDown tells whether q is what P5.2 says of Down.
func isDown(q, n, m, d int) bool {
	may := func(q int) bool { return !above(product(q, q, d, d), product(m, m, n)) }
	return q >= 0 && may(q) && !may(q+1)
}

// isCeil tells whether q is what P5.2 says of Ceil.
func isCeil(q, n, k, d int) bool {
	may := func(q int) bool { return !above(product(n), product(k, q, q, d, d)) }
	return q >= 0 && may(q) && (q == 0 || !may(q-1))
}

// floor, near, down, ceil and all hold what the calls tell against what the promises say of it.

func floor(t *testing.T, n int) {
	t.Helper()
	if q := root.Floor(n); !isFloor(q, n) {
		t.Fatalf("Floor(%d) = %d", n, q)
	}
}

func near(t *testing.T, n, d int) {
	t.Helper()
	if q := root.Near(n, d); !isNear(q, n, d) {
		t.Fatalf("Near(%d, %d) = %d", n, d, q)
	}
}

func down(t *testing.T, n, m, d int) {
	t.Helper()
	if q := root.Down(n, m, d); !isDown(q, n, m, d) {
		t.Fatalf("Down(%d, %d, %d) = %d", n, m, d, q)
	}
}

func ceil(t *testing.T, n, k, d int) {
	t.Helper()
	if q := root.Ceil(n, k, d); !isCeil(q, n, k, d) {
		t.Fatalf("Ceil(%d, %d, %d) = %d", n, k, d, q)
	}
}

func all(t *testing.T, n, d int) {
	t.Helper()
	near(t, n, d)
	for f := 1; f <= 10; f++ {
		down(t, n, f, d)
		ceil(t, n, f, d)
	}
}

// beside goes through those numbers from by below n to by above it that are promised.
func beside(n *big.Int, by int, use func(n int)) {
	for i := -by; i <= by; i++ {
		x := new(big.Int).Add(n, big.NewInt(int64(i)))
		if x.Sign() >= 0 && !above(x, big.NewInt(most)) {
			use(int(x.Int64()))
		}
	}
}

// quotients goes through quotients of all sizes, for a divisor of d: small ones, round ones, and the
// greatest there are of numbers of times as much as the greatest n.
func quotients(d, times int, use func(q int)) {
	greatest := int(new(big.Int).Sqrt(product(times, most)).Int64()) / d
	for q := range min(greatest, 30) + 1 {
		use(q)
		use(greatest - q)
	}
	for q := 32; q < greatest; q += q/3 + 1 {
		use(q)
	}
	for q := 100; q < greatest; q *= 10 {
		use(q - 1)
		use(q)
		use(q + 1)
	}
}

// chance goes through n numbers of all sizes from 0 to most, the same ones each time.
func chance(n int, use func(n int)) {
	r := rand.New(rand.NewSource(5))
	for range n {
		use(r.Intn(most+1) >> r.Intn(57))
	}
}

// P5.1

func TestFloor(t *testing.T) {
	for _, x := range []struct {
		name    string
		n, want int
	}{
		{"nought", 0, 0},
		{"one", 1, 1},
		{"one above one", 2, 1},
		{"one below four", 3, 1},
		{"four", 4, 2},
		{"one above four", 5, 2},
		{"one below nine", 8, 2},
		{"nine", 9, 3},
		{"one below a hundred", 99, 9},
		{"a hundred", 100, 10},
		{"the square of MaxNum", 10000000000000000, 100000000},
		{"one below the square of MaxNum", 9999999999999999, 99999999},
		{"one above the square of MaxNum", 10000000000000001, 100000000},
		{"2 to the 52", 1 << 52, 1 << 26},
		{"one below 2 to the 54, which a float takes for it", 1<<54 - 1, 1<<27 - 1},
		{"one below 2 to the 56", 1<<56 - 1, 1<<28 - 1},
		{"2 to the 56", 1 << 56, 1 << 28},
		{"2 to the 53, no square", 1 << 53, 94906265},
		{"the greatest square", 282842712 * 282842712, 282842712},
		{"one below the greatest square", 282842712*282842712 - 1, 282842711},
		{"one below the greatest number", most - 1, 282842712},
		{"the greatest number", most, 282842712},
	} {
		if got := root.Floor(x.n); got != x.want {
			t.Errorf("%s: Floor(%d) = %d, want %d", x.name, x.n, got, x.want)
		}
	}
}

func TestFloorOfSmallNumbers(t *testing.T) {
	want := 0
	for n := range 1000000 {
		if (want+1)*(want+1) == n {
			want++
		}
		if got := root.Floor(n); got != want {
			t.Fatalf("Floor(%d) = %d, want %d", n, got, want)
		}
	}
}

func TestFloorBesideSquares(t *testing.T) {
	// Every square up to some, and then ever further apart ones up to the greatest there is.
	for q := 0; q <= 282842712; q += 1 + q/5000 {
		beside(product(q, q), 2, func(n int) { floor(t, n) })
	}
	for q := 282842712; q > 282842000; q-- {
		beside(product(q, q), 2, func(n int) { floor(t, n) })
	}
	for bit := range 29 {
		beside(product(1<<bit, 1<<bit), 3, func(n int) { floor(t, n) })
	}
}

func TestFloorOfAllSizes(t *testing.T) {
	for bit := range 57 {
		beside(product(1<<bit), 3, func(n int) { floor(t, n) })
	}
	beside(product(most), 1000, func(n int) { floor(t, n) })
	chance(100000, func(n int) { floor(t, n) })
}

// P5.2: Near

func TestNear(t *testing.T) {
	for _, x := range []struct {
		name       string
		n, d, want int
	}{
		{"the chapter's example", 2, 1, 1},
		{"nought", 0, 1, 0},
		{"nought, divided by the greatest", 0, wide, 0},
		{"one", 1, 1, 1},
		{"below a half above one", 2, 1, 1},
		{"above a half above one", 3, 1, 2},
		{"a square", 4, 1, 2},
		{"below a half above two", 6, 1, 2},
		{"above a half above two", 7, 1, 3},
		{"three less a bit", 8, 1, 3},
		{"three and a bit", 10, 1, 3},
		{"5.83, of the document's example", 34, 1, 6},
		{"a half, by two", 1, 2, 1},
		{"one, by two", 4, 2, 1},
		{"one and a half, by two", 9, 2, 2},
		{"one below the square of one and a half", 8, 2, 1},
		{"two and a half, by two", 25, 2, 3},
		{"one below the square of two and a half", 24, 2, 2},
		{"one above the square of two and a half", 26, 2, 3},
		{"a half, by ten", 25, 10, 1},
		{"one below the square of a half, by ten", 24, 10, 0},
		{"one and a half, by ten", 225, 10, 2},
		{"one below the square of one and a half, by ten", 224, 10, 1},
		{"one above the square of one and a half, by ten", 226, 10, 2},
		{"a quotient that is whole, by ten", 100, 10, 1},
		{"no half way by an odd number: below it", 2, 3, 0},
		{"no half way by an odd number: above it", 3, 3, 1},
		{"one, by the greatest", 1, wide, 0},
		{"a half, by the greatest", 250000000000, wide, 1},
		{"one below the square of a half, by the greatest", 249999999999, wide, 0},
		{"the greatest quotient half way, by the greatest", 79806250000000000, wide, 283},
		{"one below its square", 79806249999999999, wide, 282},
		{"the greatest number", most, 1, 282842712},
		{"the greatest root of a half way, from below", 79999999737744656, 1, 282842712},
		{"the greatest root of a half way, from further below", 79999999737744656 - 282842712, 1, 282842712},
		{"the greatest number, by two", most, 2, 141421356},
		{"the greatest of all at once", most, wide, 283},
	} {
		if got := root.Near(x.n, x.d); got != x.want {
			t.Errorf("%s: Near(%d, %d) = %d, want %d", x.name, x.n, x.d, got, x.want)
		}
	}
}

func TestNearOfHalfWays(t *testing.T) {
	// The square of a half way is a whole number of even divisors, and a quarter above one of odd ones.
	for _, d := range divisors {
		quotients(d, 1, func(q int) {
			fours := product(2*q-1, 2*q-1, d, d)
			beside(fours.Rsh(fours, 2), 2, func(n int) { near(t, n, d) })
		})
	}
}

// P5.2: Down

func TestDown(t *testing.T) {
	for _, x := range []struct {
		name          string
		n, m, d, want int
	}{
		{"nought", 0, 1, 1, 0},
		{"nought, times ten", 0, 10, 1, 0},
		{"nought, by the greatest", 0, 10, wide, 0},
		{"one", 1, 1, 1, 1},
		{"one, times ten", 1, 10, 1, 10},
		{"two", 2, 1, 1, 1},
		{"two, times two", 2, 2, 1, 2},
		{"two, times three", 2, 3, 1, 4},
		{"two, times ten", 2, 10, 1, 14},
		{"5.83, in tenths, of the document's example", 34, 10, 1, 58},
		{"the same, of a scale of one", 3400, 10, 10, 58},
		{"the same, of the greatest scale", 34000000000000, 10, wide, 58},
		{"times as much as it is divided by", 50, 7, 7, 7},
		{"a quotient that is whole", 400, 1, 10, 2},
		{"one below its square", 399, 1, 10, 1},
		{"one above its square", 401, 1, 10, 2},
		{"a quotient that is half way", 225, 1, 10, 1},
		{"a whole quotient, times three", 4, 3, 2, 3},
		{"less than one", 1, 1, 2, 0},
		{"one, by the greatest", 1, 10, wide, 0},
		{"one, of the greatest divisor", 10000000000, 10, wide, 1},
		{"one below its square, of the greatest divisor", 9999999999, 10, wide, 0},
		{"the greatest number", most, 1, 1, 282842712},
		{"the greatest number, times nine", most, 9, 1, 2545584412},
		{"the greatest number, times ten", most, 10, 1, 2828427124},
		{"the greatest number, by the greatest", most, 1, wide, 282},
		{"the greatest of all at once", most, 10, wide, 2828},
	} {
		if got := root.Down(x.n, x.m, x.d); got != x.want {
			t.Errorf("%s: Down(%d, %d, %d) = %d, want %d", x.name, x.n, x.m, x.d, got, x.want)
		}
	}
}

func TestDownOfWholeQuotients(t *testing.T) {
	for m := 1; m <= 10; m++ {
		for _, d := range divisors {
			quotients(d, m*m, func(q int) {
				square := product(q, q, d, d)
				beside(square.Quo(square, product(m, m)), 2, func(n int) { down(t, n, m, d) })
			})
		}
	}
}

// P5.2: Ceil

func TestCeil(t *testing.T) {
	for _, x := range []struct {
		name          string
		n, k, d, want int
	}{
		{"the chapter's example", 2, 1, 1, 2},
		{"nought", 0, 1, 1, 0},
		{"nought, by ten and the greatest", 0, 10, wide, 0},
		{"one", 1, 1, 1, 1},
		{"one, by ten", 1, 10, 1, 1},
		{"a square", 4, 1, 1, 2},
		{"one below a square", 8, 1, 1, 3},
		{"one above a square", 10, 1, 1, 4},
		{"the document's example", 34, 1, 1, 6},
		{"the document's example, of tens", 34, 10, 1, 2},
		{"a square of ten times as much", 40, 10, 1, 2},
		{"one above it", 41, 10, 1, 3},
		{"one below it", 39, 10, 1, 2},
		{"a hundred tens", 1000, 10, 1, 10},
		{"one above a hundred tens", 1001, 10, 1, 11},
		{"nine above a hundred tens", 1009, 10, 1, 11},
		{"a square of thrice as much", 48, 3, 1, 4},
		{"one above it", 49, 3, 1, 5},
		{"a quotient that is whole", 400, 1, 10, 2},
		{"one above its square", 401, 1, 10, 3},
		{"one below its square", 399, 1, 10, 2},
		{"a quotient that is half way", 225, 1, 10, 2},
		{"a whole quotient of sevens", 7 * 36, 7, 3, 2},
		{"one above it", 7*36 + 1, 7, 3, 3},
		{"less than one", 1, 1, 2, 1},
		{"one, by the greatest", 1, 1, wide, 1},
		{"one, by ten and the greatest", 1, 10, wide, 1},
		{"the greatest number", most, 1, 1, 282842713},
		{"the greatest number, by two, a square", most, 2, 1, 200000000},
		{"one below it", most - 1, 2, 1, 200000000},
		{"the greatest number, by eight", most, 8, 1, 100000000},
		{"one above the square of MaxNum, by seven", 70000000000000001, 7, 1, 100000001},
		{"the greatest number, by ten", most, 10, 1, 89442720},
		{"the greatest number, by the greatest", most, 1, wide, 283},
		{"the greatest of all at once", most, 10, wide, 90},
	} {
		if got := root.Ceil(x.n, x.k, x.d); got != x.want {
			t.Errorf("%s: Ceil(%d, %d, %d) = %d, want %d", x.name, x.n, x.k, x.d, got, x.want)
		}
	}
}

func TestCeilOfWholeQuotients(t *testing.T) {
	for k := 1; k <= 10; k++ {
		for _, d := range divisors {
			quotients(d, 1, func(q int) {
				beside(product(k, q, q, d, d), k+1, func(n int) { ceil(t, n, k, d) })
			})
		}
	}
}

// P5.2: all three

func TestQuotientsOfSmallNumbers(t *testing.T) {
	for n := range 900 {
		for d := 1; d <= 12; d++ {
			all(t, n, d)
		}
	}
}

func TestQuotientsOfGreatNumbers(t *testing.T) {
	for _, d := range divisors {
		beside(product(most), 3, func(n int) { all(t, n, d) })
		beside(product(most/2), 3, func(n int) { all(t, n, d) })
	}
	chance(5000, func(n int) {
		for _, d := range []int{1, n%wide + 1, n%1000 + 1, wide} {
			all(t, n, d)
		}
	})
}

// P5.3

func TestRoundingRises(t *testing.T) {
	rises := func(n, d int) {
		low, middle, high := root.Down(n, 1, d), root.Near(n, d), root.Ceil(n, 1, d)
		if low > middle || middle > high || high > low+1 {
			t.Fatalf("the root of %d, divided by %d: down %d, nearest %d, up %d", n, d, low, middle, high)
		}
		// Where the quotient is whole, and there alone, nothing is rounded.
		if whole := product(low, low, d, d).Cmp(product(n)) == 0; whole != (low == high) {
			t.Fatalf("the root of %d, divided by %d, is whole: %v, but down %d, up %d", n, d, whole, low, high)
		}
	}
	for n := range 3000 {
		for d := 1; d <= 20; d++ {
			rises(n, d)
		}
	}
	for _, d := range divisors {
		quotients(d, 1, func(q int) {
			beside(product(q, q, d, d), 1, func(n int) { rises(n, d) })
		})
		quotients(d, 1, func(q int) {
			fours := product(2*q-1, 2*q-1, d, d)
			beside(fours.Rsh(fours, 2), 1, func(n int) { rises(n, d) })
		})
		chance(10000, func(n int) { rises(n, d) })
		rises(most, d)
	}
}

func TestFloorIsDownOfOne(t *testing.T) {
	chance(10000, func(n int) {
		if f, d := root.Floor(n), root.Down(n, 1, 1); f != d {
			t.Fatalf("Floor(%d) = %d, Down = %d", n, f, d)
		}
	})
}

// R1: of numbers outside of what the chapter names nothing is said, but that calls end without a panic.

func TestStrangeNumbers(t *testing.T) {
	strange := []int{
		least, least + 1, least / 2, -most, -wide, -11, -2, -1, 0, 1, 2, 10, 11, wide, wide + 1, 1 << 31, 1 << 32,
		most, most + 1, 100 * most, 1 << 61, 1<<61 - 1, 1 << 62, 1<<62 - 1, math.MaxInt - 1, math.MaxInt,
	}
	for _, n := range strange {
		root.Floor(n)
		for _, d := range strange {
			root.Near(n, d)
			for _, f := range strange {
				root.Down(n, f, d)
				root.Ceil(n, f, d)
			}
		}
	}
}

// R5: what a call answers hangs on its arguments alone, not on what was asked ahead of it.

func TestCallsAreAlike(t *testing.T) {
	first, again := map[int]int{}, map[int]int{}
	ask := func(to map[int]int) func(n int) {
		return func(n int) { to[n] = root.Floor(n) + root.Near(n, 10) + root.Down(n, 10, 3) + root.Ceil(n, 10, 7) }
	}
	chance(1000, ask(first))
	root.Floor(most)
	root.Ceil(-1, 0, 0)
	chance(1000, ask(again))
	for n, q := range first {
		if again[n] != q {
			t.Errorf("of %d: %d, and then %d", n, q, again[n])
		}
	}
}
