package exact_test

import (
	"math"
	"math/big"
	"testing"

	"landaid/api"
	"landaid/exact"
)

// P1.2: parts, rounded down, up to the greatest result that is permitted.
func TestP12Part(t *testing.T) {
	for _, c := range []struct{ total, part, whole, want int }{
		{10, 3, 4, 7},
		{10, 1, 3, 3},
		{20, 1, 3, 6},
		{10, 5, 4, 12},
		{0, 7, 3, 0},
		{7, 0, 3, 0},
		{0, 0, 1, 0},
		{1, 1, 2, 0},
		{api.MaxTotal, api.MaxTotal, api.MaxTotal, api.MaxTotal},
		{api.MaxTotal - 1, api.MaxTotal - 1, api.MaxTotal, api.MaxTotal - 2},
		{api.MaxTotal, api.MaxTotal - 1, api.MaxTotal, api.MaxTotal - 1},
		{api.MaxTotal, 1, api.MaxTotal, 1},
		{api.MaxTotal - 1, 1, api.MaxTotal, 0},
		{api.MaxTotal, 1 << 10, 1, api.MaxNumber},
		{1 << 10, api.MaxTotal, 1, api.MaxNumber},
		{api.MaxTotal, api.MaxTotal, 1 << 30, api.MaxNumber},
		// The product is 2^51 + 1, so that only rounding leads to the greatest result.
		{1<<17 + 1, 1<<34 - 1<<17 + 1, 2, api.MaxNumber},
	} {
		if n, e := exact.Part(c.total, c.part, c.whole); n != c.want || e != api.OK {
			t.Errorf("Part(%d, %d, %d): %d, %d; want %d", c.total, c.part, c.whole, n, e, c.want)
		}
	}
}

// P1.2: each argument out of range alone, and results that are too great.
func TestP12PartErrors(t *testing.T) {
	for _, c := range []struct{ total, part, whole int }{
		{-1, 1, 1},
		{math.MinInt, 0, 1},
		{api.MaxTotal + 1, 0, 1},
		{math.MaxInt, 0, 1},
		{1, -1, 1},
		{0, math.MinInt, 1},
		{0, api.MaxTotal + 1, 1},
		{0, math.MaxInt, 1},
		{-1, -1, 1},
		{0, 0, 0},
		{0, 0, -1},
		{0, 0, math.MinInt},
		{0, 0, api.MaxTotal + 1},
		{0, 0, math.MaxInt},
		// The product is 2^50 + 1, the least result that is too great.
		{1025, (1<<50 + 1) / 1025, 1},
		{api.MaxTotal, 1<<10 + 1, 1},
		{api.MaxTotal, 1 << 24, 1},
		{api.MaxTotal, api.MaxTotal, 1},
		{api.MaxTotal, api.MaxTotal, 1<<30 - 1},
		{api.MaxTotal, api.MaxTotal, 1 << 16},
		{api.MaxTotal, api.MaxTotal, 1<<16 + 1},
	} {
		if n, e := exact.Part(c.total, c.part, c.whole); n != 0 || e != api.ErrRange {
			t.Errorf("Part(%d, %d, %d): %d, %d; want 0, ErrRange", c.total, c.part, c.whole, n, e)
		}
	}
}

// P1.2: all triples of numbers near the limits, against numbers without limits.
func TestP12PartAgainstBig(t *testing.T) {
	inTotal := func(n int) bool { return 0 <= n && n <= api.MaxTotal }
	most := big.NewInt(api.MaxNumber)
	for _, total := range dividends {
		for _, part := range dividends {
			for _, whole := range divisors {
				want, wantErr := 0, api.ErrRange
				if inTotal(total) && inTotal(part) && inTotal(whole) && whole > 0 {
					n := new(big.Int).Mul(big.NewInt(int64(total)), big.NewInt(int64(part)))
					n.Div(n, big.NewInt(int64(whole)))
					if n.Cmp(most) <= 0 {
						want, wantErr = int(n.Int64()), api.OK
					}
				}
				if n, e := exact.Part(total, part, whole); n != want || e != wantErr {
					t.Fatalf("Part(%d, %d, %d): %d, %d; want %d, %d", total, part, whole, n, e, want, wantErr)
				}
			}
		}
	}
}
