package exact_test

import (
	"math"
	"math/big"
	"math/rand"
	"slices"
	"testing"

	"landaid/api"
	"landaid/exact"
)

// alike returns a list of n equal numbers.
func alike(n, value int) []int { return slices.Repeat([]int{value}, n) }

// with returns a list in which a number stands at an index.
func with(l []int, index, value int) []int {
	l[index] = value
	return l
}

// wantShares divides a total without limits: one unit after the other goes to the greatest remainder.
func wantShares(total int, weights []int) []int {
	sum := new(big.Int)
	for _, weight := range weights {
		sum.Add(sum, big.NewInt(int64(weight)))
	}
	shares := make([]int, len(weights))
	if sum.Sign() == 0 {
		return shares
	}
	remainders := make([]*big.Int, len(weights))
	left := total
	for i, weight := range weights {
		product := new(big.Int).Mul(big.NewInt(int64(total)), big.NewInt(int64(weight)))
		quotient, remainder := product.DivMod(product, sum, new(big.Int))
		shares[i], remainders[i] = int(quotient.Int64()), remainder
		left -= shares[i]
	}
	for ; left > 0; left-- {
		best := 0
		for i := range remainders {
			if remainders[i].Cmp(remainders[best]) > 0 {
				best = i
			}
		}
		shares[best]++
		remainders[best] = big.NewInt(-1)
	}
	return shares
}

// P1.3: what is left over goes to the greatest remainders, of equal ones to the lesser index.
func TestP13Shares(t *testing.T) {
	const most = api.MaxTotal
	for _, c := range []struct {
		total         int
		weights, want []int
	}{
		{10, []int{1, 1, 1}, []int{4, 3, 3}},
		{11, []int{1, 1, 1}, []int{4, 4, 3}},
		{12, []int{1, 1, 1}, []int{4, 4, 4}},
		{10, []int{1, 2, 3}, []int{2, 3, 5}},
		{10, []int{3, 2, 1}, []int{5, 3, 2}},
		{1, []int{1, 2}, []int{0, 1}},
		{1, []int{2, 1}, []int{1, 0}},
		{1, []int{1, 1}, []int{1, 0}},
		{1, []int{0, 5, 5}, []int{0, 1, 0}},
		{2, []int{0, 1, 0, 1, 0, 1}, []int{0, 1, 0, 1, 0, 0}},
		{6, []int{2, 1, 2, 1, 2}, []int{2, 1, 1, 1, 1}},
		{100, []int{7}, []int{100}},
		{0, []int{1, 2, 3}, []int{0, 0, 0}},
		{most, []int{most}, []int{most}},
		{most, []int{1, most}, []int{1, most - 1}},
		{most, alike(64, most), alike(64, 1<<34)},
		{most - 63, alike(64, most), with(alike(64, 1<<34-1), 0, 1<<34)},
		{most - 63, with(alike(64, most-1), 63, most), with(alike(64, 1<<34-1), 63, 1<<34)},
		{most - 1, alike(64, most), with(alike(64, 1<<34), 63, 1<<34-1)},
	} {
		if shares, e := exact.Shares(c.total, c.weights); !slices.Equal(shares, c.want) || e != api.OK {
			t.Errorf("Shares(%d, %v): %v, %d; want %v", c.total, c.weights, shares, e, c.want)
		}
	}
}

// P1.3: without a weight that is not 0 nothing is given away, but each weight has its share.
func TestP13SharesOfNoWeight(t *testing.T) {
	for _, n := range []int{0, 1, 2, 63, api.MaxWeights} {
		for _, total := range []int{0, 1, 5, api.MaxTotal} {
			if shares, e := exact.Shares(total, make([]int, n)); !slices.Equal(shares, make([]int, n)) || e != api.OK {
				t.Errorf("Shares(%d, %d times 0): %v, %d", total, n, shares, e)
			}
		}
	}
	if shares, e := exact.Shares(5, nil); len(shares) != 0 || e != api.OK {
		t.Errorf("Shares(5, nil): %v, %d", shares, e)
	}
}

// P1.3: the number of weights comes before the ranges, and there are no shares with an error.
func TestP13SharesErrors(t *testing.T) {
	const most = api.MaxTotal
	for _, c := range []struct {
		total   int
		weights []int
		want    api.Errno
	}{
		{1, alike(64, 1), api.OK},
		{1, alike(65, 1), api.ErrLimit},
		{1, alike(1000, 0), api.ErrLimit},
		{-1, alike(65, 1), api.ErrLimit},
		{most + 1, alike(65, 1), api.ErrLimit},
		{1, alike(65, -1), api.ErrLimit},
		{1, with(alike(65, 1), 0, most+1), api.ErrLimit},
		{-1, nil, api.ErrRange},
		{most + 1, nil, api.ErrRange},
		{math.MinInt, []int{0}, api.ErrRange},
		{math.MaxInt, []int{0}, api.ErrRange},
		{-1, []int{1}, api.ErrRange},
		{most + 1, []int{1}, api.ErrRange},
		{0, []int{-1}, api.ErrRange},
		{0, []int{most + 1}, api.ErrRange},
		{1, []int{math.MinInt, 1}, api.ErrRange},
		{1, []int{1, math.MaxInt}, api.ErrRange},
		{1, []int{1, -1}, api.ErrRange},
		{1, with(alike(64, 1), 63, -1), api.ErrRange},
		{1, with(alike(64, 1), 63, most+1), api.ErrRange},
		{1, []int{math.MaxInt, math.MaxInt, 2}, api.ErrRange},
	} {
		shares, e := exact.Shares(c.total, c.weights)
		if e != c.want || e != api.OK && len(shares) != 0 {
			t.Errorf("Shares(%d, %v): %v, %d; want error %d", c.total, c.weights, shares, e, c.want)
		}
	}
}

// P1.3: lists of small and of great weights, many of them equal, against numbers without limits.
func TestP13SharesAgainstBig(t *testing.T) {
	random := rand.New(rand.NewSource(1))
	for range 20000 {
		bound := 1 + random.Intn(1<<uint(1+random.Intn(40)))
		weights := make([]int, random.Intn(api.MaxWeights+1))
		for i := range weights {
			weights[i] = random.Intn(bound + 1)
		}
		total := random.Intn(1 + 1<<uint(random.Intn(41)))
		want := wantShares(total, weights)
		if shares, e := exact.Shares(total, weights); !slices.Equal(shares, want) || e != api.OK {
			t.Fatalf("Shares(%d, %v): %v, %d; want %v", total, weights, shares, e, want)
		}
	}
}

// P1.3, its consequences: shares add up to the total, and each one is the part of it, or 1 more.
func TestP13SharesAddUp(t *testing.T) {
	random := rand.New(rand.NewSource(2))
	for range 5000 {
		weights := make([]int, 1+random.Intn(api.MaxWeights))
		sum := 0
		for i := range weights {
			weights[i] = random.Intn(1 << 34)
			sum += weights[i]
		}
		weights[0]++
		sum++
		total := random.Intn(api.MaxTotal + 1)
		shares, _ := exact.Shares(total, weights)
		all := 0
		for i, share := range shares {
			part, e := exact.Part(total, weights[i], sum)
			if e != api.OK || share != part && share != part+1 {
				t.Fatalf("share %d of %d: %d; the part is %d, %d", i, total, share, part, e)
			}
			all += share
		}
		if all != total {
			t.Fatalf("Shares(%d, %v) add up to %d", total, weights, all)
		}
	}
}

// R2 and P1.3: the weights, with their spare capacity, stay as they are, and the shares are new memory each time.
func TestP13SharesKeepArguments(t *testing.T) {
	for _, weights := range [][]int{{3, 2, 1, 9}, {0, 0, 0, 9}} {
		before := slices.Clone(weights)
		first, _ := exact.Shares(10, weights[:3])
		second, _ := exact.Shares(10, weights[:3])
		want := slices.Clone(second)
		for i := range first {
			first[i] = -1
		}
		if !slices.Equal(weights, before) || !slices.Equal(second, want) {
			t.Errorf("weights %v, shares %v; want %v, %v", weights, second, before, want)
		}
	}
}
