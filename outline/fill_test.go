package outline_test

import (
	"math/rand"
	"slices"
	"testing"

	"landaid/api"
	"landaid/outline"
	"landaid/region"
)

// P5.2: rings apart, around each other, across each other, with common edges, and equal ones.
func TestP52Fill(t *testing.T) {
	frame := of(0, 0, 4, 1, 0, 1, 1, 3, 3, 1, 4, 3, 0, 3, 4, 4)
	for _, c := range []struct {
		rings [][]api.Point
		want  api.Region
	}{
		{nil, of()},
		{[][]api.Point{square(0, 0, 1)}, of(0, 0, 1, 1)},
		{[][]api.Point{square(0, 0, api.MaxCoord)}, of(0, 0, 16384, 16384)},
		{[][]api.Point{square(16383, 16383, 1)}, of(16383, 16383, 16384, 16384)},
		{[][]api.Point{backwards(square(3, 4, 5))}, of(3, 4, 8, 9)},
		{[][]api.Point{turned(square(3, 4, 5), 3)}, of(3, 4, 8, 9)},
		{[][]api.Point{square(0, 0, 4), square(1, 1, 2)}, frame},
		{[][]api.Point{backwards(square(1, 1, 2)), square(0, 0, 4)}, frame},
		{[][]api.Point{square(0, 0, 6), square(1, 1, 4), square(2, 2, 2)}, of(0, 0, 6, 1, 0, 1, 1, 2, 5, 1, 6, 2, 0, 2, 1, 4, 2, 2, 4, 4, 5, 2, 6, 4, 0, 4, 1, 5, 5, 4, 6, 5, 0, 5, 6, 6)},
		{[][]api.Point{square(0, 0, 4), square(0, 0, 4)}, of()},
		{[][]api.Point{square(0, 0, 4), backwards(square(0, 0, 4))}, of()},
		{[][]api.Point{square(0, 0, 4), square(0, 0, 4), square(0, 0, 4)}, of(0, 0, 4, 4)},
		{[][]api.Point{square(0, 0, 2), square(1, 1, 2)}, of(0, 0, 2, 1, 0, 1, 1, 2, 2, 1, 3, 2, 1, 2, 3, 3)},
		{[][]api.Point{square(0, 0, 1), square(1, 0, 1)}, of(0, 0, 2, 1)},
		{[][]api.Point{square(0, 0, 1), square(0, 1, 1)}, of(0, 0, 1, 2)},
		{[][]api.Point{square(0, 0, 1), square(1, 1, 1)}, of(0, 0, 1, 1, 1, 1, 2, 2)},
		{[][]api.Point{square(0, 0, 1), square(0, 5, 1)}, of(0, 0, 1, 1, 0, 5, 1, 6)},
		{[][]api.Point{points(0, 0, 1, 0, 1, 2, 2, 2, 2, 1, 0, 1)}, of(0, 0, 1, 1, 1, 1, 2, 2)},
		{[][]api.Point{points(0, 0, 2, 0, 2, 1, 0, 1, 0, 0, 2, 0, 2, 1, 0, 1)}, of()},
		{[][]api.Point{points(0, 0, 2, 0, 2, 2, 1, 2, 1, 5, 2, 5, 2, 2, 0, 2)}, of(0, 0, 2, 2, 1, 2, 2, 5)},
	} {
		if a, e := outline.Fill(c.rings); !same(a, c.want) || e != api.OK {
			t.Errorf("Fill(%v): %v, %d; want %v", c.rings, a, e, c.want)
		}
	}
}

// P5.2: random rings, also in the corners of the grid, against the squares that are inside an odd number of them.
func TestP52FillAgainstNaive(t *testing.T) {
	random := rand.New(rand.NewSource(52))
	for range 500 {
		for _, corner := range corners {
			var rings [][]api.Point
			for range random.Intn(5) {
				rings = append(rings, randomRing(random, corner[0], corner[1]))
			}
			a, e := outline.Fill(rings)
			if e != api.OK || !region.Valid(a) {
				t.Fatalf("Fill(%v): %v, %d", rings, a, e)
			}
			squares := 0
			for i := range wide * wide {
				x, y, times := corner[0]+i%wide, corner[1]+i/wide, 0
				for _, r := range rings {
					up, down := crossings(r, x, y)
					times += (up + down) % 2
				}
				if region.Has(a, x, y) != (times%2 == 1) {
					t.Fatalf("Fill(%v): %v; %d times around %d, %d", rings, a, times, x, y)
				}
				squares += times % 2
			}
			if region.Area(a) != squares {
				t.Fatalf("Fill(%v): %v has squares elsewhere", rings, a)
			}
		}
	}
}

// P5.2: as many rings and rectangles as are permitted, and one more; on the way there may be more.
func TestP52AtLimits(t *testing.T) {
	several := func(n int) [][]api.Point {
		var out [][]api.Point
		for i := range n {
			out = append(out, square(2*i, 0, 1))
		}
		return out
	}
	for _, c := range []struct {
		name  string
		rings [][]api.Point
		want  api.Region
		e     api.Errno
	}{
		{"60 rings", several(60), columns(60, 0, 1), api.OK},
		{"61 rings", several(61), of(), api.ErrLimit},
		{"60 equal rings", slices.Repeat([][]api.Point{square(0, 0, 1)}, 60), of(), api.OK},
		{"61 equal rings", slices.Repeat([][]api.Point{square(0, 0, 1)}, 61), of(), api.ErrLimit},
		{"120 rectangles", append([][]api.Point{comb(99, 0, 0)}, comb(19, 0, 4)), api.Region{Rects: append(combRegion(99, 0, 0).Rects, combRegion(19, 0, 4).Rects...)}, api.OK},
		{"121 rectangles", append([][]api.Point{comb(99, 0, 0)}, comb(20, 0, 4)), of(), api.ErrLimit},
		{"121 rectangles, the last one apart", append([][]api.Point{comb(99, 0, 0), comb(19, 0, 4)}, square(0, 9, 1)), of(), api.ErrLimit},
		{"more below, and equal ones", [][]api.Point{comb(100, 0, 0), comb(100, 300, 0), comb(100, 300, 0)}, combRegion(100, 0, 0), api.OK},
		{"many, but each twice", slices.Concat(slices.Repeat([][]api.Point{comb(100, 0, 0)}, 30), slices.Repeat([][]api.Point{comb(100, 100, 1)}, 30)), of(), api.OK},
		{"far too many", [][]api.Point{comb(100, 0, 0), comb(100, 200, 0), comb(100, 400, 0), comb(100, 600, 0)}, of(), api.ErrLimit},
	} {
		if a, e := outline.Fill(c.rings); !same(a, c.want) || e != c.e {
			t.Errorf("%s: %v, %d; want %v, %d", c.name, a, e, c.want, c.e)
		}
	}
}

// P5.2: too many rings, then the error of the first ring that has one, then too many rectangles.
func TestP52Errors(t *testing.T) {
	lean, far, long := points(0, 0, 1, 1, 0, 2, 0, 1), square(-1, 0, 2), comb(101, 0, 0)
	for _, c := range []struct {
		rings [][]api.Point
		want  api.Errno
	}{
		{[][]api.Point{nil}, api.ErrRing},
		{[][]api.Point{lean}, api.ErrRing},
		{[][]api.Point{far}, api.ErrRange},
		{[][]api.Point{long}, api.ErrLimit},
		{[][]api.Point{far, lean, long}, api.ErrRange},
		{[][]api.Point{lean, long, far}, api.ErrRing},
		{[][]api.Point{long, far, lean}, api.ErrLimit},
		{[][]api.Point{square(0, 0, 1), far, nil}, api.ErrRange},
		{[][]api.Point{comb(100, 0, 0), comb(100, 0, 4), far}, api.ErrRange},
		{[][]api.Point{comb(100, 0, 0), comb(100, 0, 4), lean}, api.ErrRing},
		{[][]api.Point{comb(100, 0, 0), comb(100, 0, 4)}, api.ErrLimit},
		{slices.Repeat([][]api.Point{far}, 60), api.ErrRange},
		{slices.Repeat([][]api.Point{far}, 61), api.ErrLimit},
		{slices.Repeat([][]api.Point{nil}, 61), api.ErrLimit},
	} {
		if a, e := outline.Fill(c.rings); len(a.Rects) != 0 || e != c.want {
			t.Errorf("Fill(%v): %v, %d; want %d", c.rings, a, e, c.want)
		}
	}
}

// P5.2: rings with as many corners as are permitted are filled fast, be there many sides in a row or many rows.
func TestP52Large(t *testing.T) {
	var wide, high [][]api.Point
	for i := range api.MaxRings {
		var stairs []api.Point
		for k := range api.MaxCorners/2 - 1 {
			stairs = append(stairs, points(k, k+i*200, k+1, k+i*200)...)
		}
		stairs = append(stairs, points(199, 199+i*200, 0, 199+i*200)...)
		wide, high = append(wide, comb(100, 200*i, 0)), append(high, stairs)
	}
	for _, rings := range [][][]api.Point{wide, high} {
		if a, e := outline.Fill(rings); len(a.Rects) != 0 || e != api.ErrLimit {
			t.Errorf("%d rectangles, %d", len(a.Rects), e)
		}
		again := slices.Concat(rings[:30], rings[:30])
		if a, e := outline.Fill(again); len(a.Rects) != 0 || e != api.OK {
			t.Errorf("%d rectangles, %d", len(a.Rects), e)
		}
	}
}

// R2 and P5.2: rings stay as they are, with their spare capacity, and share no memory with the result.
func TestP52KeepsArguments(t *testing.T) {
	ring := append(backwards(square(0, 0, 2)), points(7, 7, 8, 8)...)
	rings := [][]api.Point{ring[:4], ring[:4], ring[:4], square(9, 9, 1)}
	ringBefore, lastBefore := slices.Clone(ring), slices.Clone(rings[3])
	a, e := outline.Fill(rings[:3])
	if !same(a, of(0, 0, 2, 2)) || e != api.OK {
		t.Errorf("%v, %d", a, e)
	}
	if !slices.Equal(ring, ringBefore) || len(rings[0]) != 4 || !slices.Equal(rings[3], lastBefore) {
		t.Errorf("%v, %v", ring, rings)
	}
}
