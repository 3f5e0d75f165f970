package exact_test

import (
	"math"
	"math/big"
	"testing"

	"landaid/api"
	"landaid/exact"
)

// dividends are the limits of the range of dividends, and numbers near them, near 0, and beyond.
var dividends = []int{
	math.MinInt, math.MinInt + 1, -api.MaxNumber - 1, -api.MaxNumber, -api.MaxNumber + 1,
	-api.MaxTotal - 1, -api.MaxTotal, -api.MaxTotal + 1, -1 << 32, -1000, -7, -4, -3, -2, -1,
	0, 1, 2, 3, 4, 7, 1000, 1 << 32, api.MaxTotal - 1, api.MaxTotal, api.MaxTotal + 1,
	api.MaxNumber - 1, api.MaxNumber, api.MaxNumber + 1, math.MaxInt - 1, math.MaxInt,
}

// divisors are the same for the range of divisors.
var divisors = []int{
	math.MinInt, -api.MaxTotal, -2, -1, 0, 1, 2, 3, 4, 5, 6, 365, 1 << 20,
	api.MaxTotal/2 - 1, api.MaxTotal / 2, api.MaxTotal - 1, api.MaxTotal, api.MaxTotal + 1, math.MaxInt,
}

func isFraction(a, b int) bool {
	return -api.MaxNumber <= a && a <= api.MaxNumber && 1 <= b && b <= api.MaxTotal
}

// bigFloor returns a / b, rounded to the next lower integer; Div of package big does that for positive b.
func bigFloor(a, b *big.Int) int { return int(new(big.Int).Div(a, b).Int64()) }

// P1.1: ordinary quotients, exact halves, and the limits of the ranges.
func TestP11Quotients(t *testing.T) {
	for _, c := range []struct{ a, b, down, up, half int }{
		{0, 1, 0, 0, 0},
		{8, 4, 2, 2, 2},
		{-8, 4, -2, -2, -2},
		{9, 4, 2, 3, 2},
		{-9, 4, -3, -2, -2},
		{11, 4, 2, 3, 3},
		{-11, 4, -3, -2, -3},
		{1, 2, 0, 1, 1},
		{-1, 2, -1, 0, 0},
		{3, 2, 1, 2, 2},
		{-3, 2, -2, -1, -1},
		{10, 4, 2, 3, 3},
		{-10, 4, -3, -2, -2},
		{api.MaxNumber, 1, api.MaxNumber, api.MaxNumber, api.MaxNumber},
		{-api.MaxNumber, 1, -api.MaxNumber, -api.MaxNumber, -api.MaxNumber},
		{api.MaxNumber - 1, 2, 1<<49 - 1, 1 << 49, 1 << 49},
		{1 - api.MaxNumber, 2, -1 << 49, 1 - 1<<49, 1 - 1<<49},
		{1, api.MaxTotal, 0, 1, 0},
		{-1, api.MaxTotal, -1, 0, 0},
		{api.MaxTotal/2 - 1, api.MaxTotal, 0, 1, 0},
		{api.MaxTotal / 2, api.MaxTotal, 0, 1, 1},
		{-api.MaxTotal / 2, api.MaxTotal, -1, 0, 0},
		{-api.MaxTotal/2 - 1, api.MaxTotal, -1, 0, -1},
	} {
		down, up, half := exact.Down(c.a, c.b), exact.Up(c.a, c.b), exact.Half(c.a, c.b)
		if down != c.down || up != c.up || half != c.half {
			t.Errorf("%d / %d: %d, %d, %d; want %d, %d, %d", c.a, c.b, down, up, half, c.down, c.up, c.half)
		}
	}
}

// P1.1: arguments out of range, each one alone with a good one beside it.
func TestP11QuotientsOutOfRange(t *testing.T) {
	for _, c := range []struct{ a, b int }{
		{api.MaxNumber + 1, 1},
		{-api.MaxNumber - 1, 1},
		{math.MaxInt, 1},
		{math.MinInt, 1},
		{math.MinInt, -1},
		{5, 0},
		{5, -1},
		{-5, -1},
		{api.MaxNumber, api.MaxTotal + 1},
		{api.MaxNumber, math.MinInt},
		{api.MaxNumber, math.MaxInt},
	} {
		down, up, half := exact.Down(c.a, c.b), exact.Up(c.a, c.b), exact.Half(c.a, c.b)
		if down != 0 || up != 0 || half != 0 {
			t.Errorf("%d / %d: %d, %d, %d; want 0, 0, 0", c.a, c.b, down, up, half)
		}
	}
}

// P1.1: all pairs of numbers near the limits, against numbers without limits.
func TestP11QuotientsAgainstBig(t *testing.T) {
	one, two := big.NewInt(1), big.NewInt(2)
	for _, a := range dividends {
		for _, b := range divisors {
			var down, up, half int
			if isFraction(a, b) {
				x, y := big.NewInt(int64(a)), big.NewInt(int64(b))
				down = bigFloor(x, y)
				above := new(big.Int).Add(x, y)
				up = bigFloor(above.Sub(above, one), y)
				twice := new(big.Int).Mul(x, two)
				half = bigFloor(twice.Add(twice, y), new(big.Int).Mul(y, two))
			}
			if n := exact.Down(a, b); n != down {
				t.Errorf("Down(%d, %d): %d, want %d", a, b, n, down)
			}
			if n := exact.Up(a, b); n != up {
				t.Errorf("Up(%d, %d): %d, want %d", a, b, n, up)
			}
			if n := exact.Half(a, b); n != half {
				t.Errorf("Half(%d, %d): %d, want %d", a, b, n, half)
			}
			if isFraction(a, b) && exact.Down(-a, b) != -exact.Up(a, b) {
				t.Errorf("Down(%d, %d) is not -Up(%d, %d)", -a, b, a, b)
			}
		}
	}
}

// P1.1: fractions in order, equal ones, and such that differ only in the last bits of 90.
func TestP11Less(t *testing.T) {
	for _, c := range []struct {
		a, b, c, d int
		want       bool
	}{
		{1, 3, 1, 2, true},
		{1, 2, 1, 3, false},
		{2, 4, 1, 2, false},
		{1, 2, 2, 4, false},
		{-2, 4, -1, 2, false},
		{-1, 2, -1, 3, true},
		{-1, 3, -1, 2, false},
		{-1, 2, 0, 9, true},
		{0, 9, -1, 2, false},
		{0, 9, 0, 2, false},
		{0, 2, 1, 9, true},
		{1, 9, 0, 2, false},
		{-5, 1, 5, 1, true},
		{5, 1, -5, 1, false},
		{api.MaxNumber, api.MaxTotal, api.MaxNumber, api.MaxTotal - 1, true},
		{api.MaxNumber, api.MaxTotal - 1, api.MaxNumber, api.MaxTotal, false},
		{api.MaxNumber - 1, api.MaxTotal, api.MaxNumber, api.MaxTotal, true},
		{-api.MaxNumber, api.MaxTotal - 1, -api.MaxNumber, api.MaxTotal, true},
		{-api.MaxNumber, api.MaxTotal, -api.MaxNumber, api.MaxTotal - 1, false},
		{-api.MaxNumber, 1, api.MaxNumber, 1, true},
		{1<<49 - 1, api.MaxTotal - 1, 1 << 49, api.MaxTotal - 1, true},
	} {
		if got := exact.Less(c.a, c.b, c.c, c.d); got != c.want {
			t.Errorf("%d / %d < %d / %d: %v", c.a, c.b, c.c, c.d, got)
		}
	}
}

// P1.1: each argument of Less out of range, where the fractions would be less.
func TestP11LessOutOfRange(t *testing.T) {
	for _, c := range []struct{ a, b, c, d int }{
		{-api.MaxNumber - 1, 1, 0, 1},
		{math.MinInt, 1, 0, 1},
		{api.MaxNumber + 1, api.MaxTotal, api.MaxNumber, 1},
		{0, 0, 1, 1},
		{1, -1, 1, 1},
		{0, api.MaxTotal + 1, 1, 1},
		{0, math.MaxInt, 1, 1},
		{0, 1, api.MaxNumber + 1, 1},
		{0, 1, math.MaxInt, 1},
		{-api.MaxNumber, 1, -api.MaxNumber - 1, api.MaxTotal},
		{0, 1, 1, 0},
		{-2, 1, 1, -1},
		{0, 1, 1, api.MaxTotal + 1},
		{0, 1, 1, math.MaxInt},
	} {
		if exact.Less(c.a, c.b, c.c, c.d) {
			t.Errorf("%d / %d < %d / %d: true", c.a, c.b, c.c, c.d)
		}
	}
}

// P1.1: all pairs of fractions near the limits, against numbers without limits.
func TestP11LessAgainstBig(t *testing.T) {
	for _, a := range dividends {
		for _, b := range divisors {
			for _, c := range dividends {
				for _, d := range divisors {
					want := isFraction(a, b) && isFraction(c, d) &&
						big.NewRat(int64(a), int64(b)).Cmp(big.NewRat(int64(c), int64(d))) < 0
					if got := exact.Less(a, b, c, d); got != want {
						t.Fatalf("%d / %d < %d / %d: %v", a, b, c, d, got)
					}
				}
			}
		}
	}
}
