package region_test

import (
	"math"
	"math/rand"
	"slices"
	"testing"

	"landaid/api"
	"landaid/region"
)

// P4.3: areas of regions, and 0 for those that are not valid.
func TestP43Area(t *testing.T) {
	for _, c := range []struct {
		a    api.Region
		want int
	}{
		{of(), 0},
		{of(0, 0, 1, 1), 1},
		{of(0, 0, 3, 1, 1, 1, 3, 2), 5},
		{of(2, 3, 7, 10), 35},
		{of(0, 0, 3, 1, 0, 1, 1, 2, 2, 1, 3, 2, 0, 2, 3, 3), 8},
		{of(0, 0, 16384, 16384), 1 << 28},
		{of(0, 0, 16384, 1, 0, 1, 1, 16384), 2*16384 - 1},
		{of(16383, 16383, 16384, 16384), 1},
		{regionOf(columns(120, 0, 3)), 360},
	} {
		if n := region.Area(c.a); n != c.want {
			t.Errorf("Area(%v): %d, want %d", c.a, n, c.want)
		}
	}
	for _, a := range noRegions() {
		if n := region.Area(a); n != 0 {
			t.Errorf("Area(%v): %d, want 0", a, n)
		}
	}
}

// P4.3: squares at the sides of rectangles, within them, outside, and beyond the grid.
func TestP43Has(t *testing.T) {
	a := of(2, 3, 5, 4, 2, 4, 3, 6, 4, 4, 5, 6)
	for _, c := range []struct {
		a    api.Region
		x, y int
		want bool
	}{
		{a, 2, 3, true},
		{a, 4, 3, true},
		{a, 1, 3, false},
		{a, 5, 3, false},
		{a, 2, 2, false},
		{a, 4, 2, false},
		{a, 2, 4, true},
		{a, 3, 4, false},
		{a, 4, 4, true},
		{a, 2, 5, true},
		{a, 4, 5, true},
		{a, 5, 5, false},
		{a, 2, 6, false},
		{a, 4, 6, false},
		{a, 3, 2, false},
		{of(), 0, 0, false},
		{of(0, 0, 1, 1), 0, 0, true},
		{of(0, 0, 1, 1), 0, 1, false},
		{of(0, 0, 1, 1), 1, 0, false},
		{of(0, 0, 16384, 16384), 16383, 16383, true},
		{of(0, 0, 16384, 16384), 16384, 0, false},
		{of(0, 0, 16384, 16384), 0, 16384, false},
		{of(0, 0, 16384, 16384), -1, 0, false},
		{of(0, 0, 16384, 16384), 0, -1, false},
		{of(0, 0, 16384, 16384), math.MinInt, 0, false},
		{of(0, 0, 16384, 16384), 0, math.MaxInt, false},
		{of(0, 0, 16384, 16384), math.MaxInt, math.MinInt, false},
	} {
		if region.Has(c.a, c.x, c.y) != c.want {
			t.Errorf("Has(%v, %d, %d): not %v", c.a, c.x, c.y, c.want)
		}
	}
}

// P4.3: a region that is not valid has no squares, not even those of its rectangles.
func TestP43HasNotValid(t *testing.T) {
	for _, a := range noRegions() {
		for _, r := range append(slices.Clone(a.Rects), api.Rect{}) {
			if region.Has(a, r.Left, r.Low) {
				t.Errorf("Has(%v, %d, %d)", a, r.Left, r.Low)
			}
		}
	}
}

// P4.3: areas and squares of random regions, also in the corners of the grid, against counting.
func TestP43SquaresAgainstNaive(t *testing.T) {
	random := rand.New(rand.NewSource(44))
	for range 400 {
		for _, corner := range corners {
			g := gridOf(corner[0], corner[1], randomRects(random, corner[0], corner[1], random.Intn(7)))
			a, n := g.region(), 0
			for y := -1; y <= 12; y++ {
				for x := -1; x <= 12; x++ {
					want := x >= 0 && y >= 0 && x < 12 && y < 12 && g.has[y][x]
					if want {
						n++
					}
					if region.Has(a, corner[0]+x, corner[1]+y) != want {
						t.Fatalf("Has(%v, %d, %d): not %v", a, corner[0]+x, corner[1]+y, want)
					}
				}
			}
			if region.Area(a) != n {
				t.Fatalf("Area(%v): %d, want %d", a, region.Area(a), n)
			}
		}
	}
}

// P4.3: regions that are apart, touch, overlap, hold each other, are equal, or empty.
func TestP43WithinAndMeets(t *testing.T) {
	big, small := of(0, 0, 3, 3), of(1, 1, 2, 2)
	ring := of(0, 0, 3, 1, 0, 1, 1, 2, 2, 1, 3, 2, 0, 2, 3, 3)
	all := of(0, 0, 16384, 16384)
	for _, c := range []struct {
		a, b          api.Region
		within, meets bool
	}{
		{of(), of(), true, false},
		{of(), big, true, false},
		{big, of(), false, false},
		{big, big, true, true},
		{small, big, true, true},
		{big, small, false, true},
		{small, ring, false, false},
		{ring, small, false, false},
		{ring, big, true, true},
		{big, ring, false, true},
		{of(0, 0, 3, 1), ring, true, true},
		{of(0, 0, 1, 3), ring, true, true},
		{of(0, 0, 2, 2), ring, false, true},
		{of(0, 0, 1, 1), of(1, 0, 2, 1), false, false},
		{of(0, 0, 1, 1), of(0, 1, 1, 2), false, false},
		{of(0, 0, 1, 1), of(1, 1, 2, 2), false, false},
		{of(1, 0, 2, 1), of(0, 1, 1, 2), false, false},
		{of(0, 0, 2, 2), of(1, 1, 3, 3), false, true},
		{of(0, 0, 4, 1), of(2, 0, 6, 1), false, true},
		{of(0, 0, 1, 1, 9, 9, 10, 10), of(5, 5, 10, 10), false, true},
		{of(6, 6, 7, 7, 9, 9, 10, 10), of(5, 5, 10, 10), true, true},
		{all, all, true, true},
		{of(16383, 16383, 16384, 16384), all, true, true},
		{all, of(0, 0, 16384, 16383), false, true},
	} {
		if region.Within(c.a, c.b) != c.within {
			t.Errorf("Within(%v, %v): not %v", c.a, c.b, c.within)
		}
		if region.Meets(c.a, c.b) != c.meets || region.Meets(c.b, c.a) != c.meets {
			t.Errorf("Meets(%v, %v): not %v", c.a, c.b, c.meets)
		}
	}
}

// P4.3: what two regions have in common, or not, may have more rectangles than a region.
func TestP43WithinAndMeetsHaveNoLimit(t *testing.T) {
	upright, lying := regionOf(columns(120, 0, 240)), regionOf(rows(120, 0, 240))
	if region.Within(upright, lying) || !region.Meets(upright, lying) {
		t.Error("a lattice")
	}
	comb := regionOf(columns(61, 0, 3))
	if region.Within(comb, of(0, 1, 300, 2)) || !region.Meets(comb, of(0, 1, 300, 2)) {
		t.Error("a comb, and a row")
	}
	if !region.Within(upright, of(0, 0, 240, 240)) || !region.Within(lying, of(0, 0, 240, 240)) {
		t.Error("a lattice in a square")
	}
	if region.Meets(regionOf(columns(120, 0, 240)), regionOf(moved(columns(120, 0, 240), 1))) {
		t.Error("columns between columns")
	}
}

// P4.3: what is not valid is within nothing, and meets nothing; and nothing is within it.
func TestP43WithinAndMeetsNotValid(t *testing.T) {
	all := of(0, 0, 16384, 16384)
	for _, bad := range noRegions() {
		for _, c := range [][2]api.Region{{bad, all}, {all, bad}, {bad, of()}, {of(), bad}, {bad, bad}} {
			if region.Within(c[0], c[1]) || region.Meets(c[0], c[1]) {
				t.Errorf("%v, %v", c[0], c[1])
			}
		}
	}
}

// P4.3: the same rectangles, in the same order, valid or not.
func TestP43Same(t *testing.T) {
	a := of(0, 0, 3, 1, 1, 1, 3, 2)
	for _, c := range []struct {
		a, b api.Region
		want bool
	}{
		{of(), of(), true},
		{of(), api.Region{Rects: []api.Rect{}}, true},
		{a, of(0, 0, 3, 1, 1, 1, 3, 2), true},
		{a, of(), false},
		{a, of(0, 0, 3, 1), false},
		{a, of(1, 1, 3, 2), false},
		{a, of(0, 0, 3, 1, 1, 1, 3, 2, 1, 2, 3, 3), false},
		{a, of(1, 1, 3, 2, 0, 0, 3, 1), false},
		{a, of(1, 0, 3, 1, 1, 1, 3, 2), false},
		{a, of(0, 0, 3, 1, 1, 1, 4, 2), false},
		{of(0, 0, 2, 2), of(0, 0, 2, 1, 0, 1, 2, 2), false},
		{of(0, 0, 0, 0), of(), false},
		{of(0, 0, 0, 0), of(1, 1, 1, 1), false},
		{of(0, 0, 1, 1), of(0, 0, 1, 2), false},
		{of(0, 0, 1, 1), of(0, -1, 1, 1), false},
	} {
		if region.Same(c.a, c.b) != c.want || region.Same(c.b, c.a) != c.want {
			t.Errorf("Same(%v, %v): not %v", c.a, c.b, c.want)
		}
	}
	for _, bad := range noRegions() {
		if !region.Same(bad, api.Region{Rects: slices.Clone(bad.Rects)}) || region.Same(bad, a) {
			t.Errorf("%v", bad)
		}
	}
}

// R2 and P4.3: regions stay as they are, with their spare capacity.
func TestP43KeepsArguments(t *testing.T) {
	first := rects(0, 0, 2, 1, 0, 1, 1, 2, 7, 7, 8, 8)
	second := rects(0, 0, 5, 5, 7, 7, 8, 8)
	firstBefore, secondBefore := slices.Clone(first), slices.Clone(second)
	a, b := api.Region{Rects: first[:2]}, api.Region{Rects: second[:1]}
	for range 2 {
		if region.Area(a) != 3 || !region.Has(a, 1, 0) || !region.Within(a, b) || !region.Meets(a, b) || region.Same(a, b) {
			t.Errorf("%v, %v", a, b)
		}
	}
	if !slices.Equal(first, firstBefore) || !slices.Equal(second, secondBefore) {
		t.Errorf("%v, %v", first, second)
	}
}
