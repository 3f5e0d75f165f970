package shape_test

import (
	"math"
	"math/rand"
	"slices"
	"testing"

	"landaid/api"
	"landaid/region"
	"landaid/shape"
)

// squaresAround calls a function for all squares that are at most some columns and rows away, within the grid or not, until it returns false.
func squaresAround(x, y, by int, each func(u, v int) bool) bool {
	for u := x - by; u <= x+by; u++ {
		for v := y - by; v <= y+by; v++ {
			if !each(u, v) {
				return false
			}
		}
	}
	return true
}

// naiveGrow returns a region in the part of the grid with a lower left corner, grown square by square.
func naiveGrow(corner [2]int, a api.Region, by int) api.Region {
	return canonical(partAt(corner, by), func(x, y int) bool {
		return !squaresAround(x, y, by, func(u, v int) bool { return !has(a, u, v) })
	})
}

// naiveShrink returns such a region shrunk.
func naiveShrink(corner [2]int, a api.Region, by int) api.Region {
	return canonical(partAt(corner, 0), func(x, y int) bool {
		return squaresAround(x, y, by, func(u, v int) bool { return has(a, u, v) })
	})
}

// P6.2: some regions grown and shrunk.
func TestP62GrowAndShrink(t *testing.T) {
	for _, c := range []struct {
		a           api.Region
		by          int
		grown, less api.Region
	}{
		{of(), 0, of(), of()},
		{of(), 64, of(), of()},
		{of(5, 5, 6, 6), 0, of(5, 5, 6, 6), of(5, 5, 6, 6)},
		{of(5, 5, 6, 6), 1, of(4, 4, 7, 7), of()},
		{of(5, 5, 8, 9), 1, of(4, 4, 9, 10), of(6, 6, 7, 8)},
		{of(5, 5, 8, 8), 2, of(3, 3, 10, 10), of()},
		{of(100, 100, 101, 101), 64, of(36, 36, 165, 165), of()},
		{of(100, 100, 228, 229), 64, of(36, 36, 292, 293), of()},
		{of(100, 100, 229, 229), 64, of(36, 36, 293, 293), of(164, 164, 165, 165)},
		{of(100, 100, 230, 231), 64, of(36, 36, 294, 295), of(164, 164, 166, 167)},
		// at the border of the grid
		{of(0, 0, 3, 3), 1, of(0, 0, 4, 4), of(1, 1, 2, 2)},
		{of(0, 5, 3, 8), 1, of(0, 4, 4, 9), of(1, 6, 2, 7)},
		{of(5, 0, 8, 3), 1, of(4, 0, 9, 4), of(6, 1, 7, 2)},
		{of(1, 1, 2, 2), 2, of(0, 0, 4, 4), of()},
		{of(16381, 16381, 16384, 16384), 1, of(16380, 16380, 16384, 16384), of(16382, 16382, 16383, 16383)},
		{of(16382, 16382, 16383, 16383), 2, of(16380, 16380, 16384, 16384), of()},
		{of(0, 0, 16384, 16384), 0, of(0, 0, 16384, 16384), of(0, 0, 16384, 16384)},
		{of(0, 0, 16384, 16384), 1, of(0, 0, 16384, 16384), of(1, 1, 16383, 16383)},
		{of(0, 0, 16384, 16384), 64, of(0, 0, 16384, 16384), of(64, 64, 16320, 16320)},
		{of(63, 63, 16321, 16321), 64, of(0, 0, 16384, 16384), of(127, 127, 16257, 16257)},
		{of(65, 65, 16319, 16319), 64, of(1, 1, 16383, 16383), of(129, 129, 16255, 16255)},
		// what becomes one, touches, stays apart
		{of(10, 10, 11, 11, 12, 10, 13, 11), 1, of(9, 9, 14, 12), of()},
		{of(10, 10, 11, 11, 13, 10, 14, 11), 1, of(9, 9, 15, 12), of()},
		{of(10, 10, 11, 11, 14, 10, 15, 11), 1, of(9, 9, 12, 12, 13, 9, 16, 12), of()},
		{of(10, 10, 11, 11, 10, 13, 11, 14), 1, of(9, 9, 12, 15), of()},
		{of(10, 10, 11, 11, 10, 14, 11, 15), 1, of(9, 9, 12, 12, 9, 13, 12, 16), of()},
		{of(10, 10, 11, 11, 13, 13, 14, 14), 1, of(9, 9, 12, 12, 12, 12, 15, 15), of()},
		// a square without one in a corner, and one with a corner in common with another one
		{of(11, 10, 17, 11, 10, 11, 17, 17), 1, of(10, 9, 18, 10, 9, 10, 18, 18), of(12, 11, 16, 12, 11, 12, 16, 16)},
		{of(10, 10, 13, 13, 13, 13, 16, 16), 1, of(9, 9, 14, 12, 9, 12, 17, 14, 12, 14, 17, 17), of(11, 11, 12, 12, 14, 14, 15, 15)},
		// a hole in the middle
		{of(10, 10, 15, 12, 10, 12, 12, 13, 13, 12, 15, 13, 10, 13, 15, 15), 1, of(9, 9, 16, 16), of()},
		{
			of(10, 10, 19, 14, 10, 14, 14, 15, 15, 14, 19, 15, 10, 15, 19, 19), 1, of(9, 9, 20, 20),
			of(11, 11, 18, 13, 11, 13, 13, 16, 16, 13, 18, 16, 11, 16, 18, 18),
		},
		// a hole that grows smaller, but stays
		{
			of(10, 10, 17, 11, 10, 11, 11, 16, 16, 11, 17, 16, 10, 16, 17, 17), 1,
			of(9, 9, 18, 12, 9, 12, 12, 15, 15, 12, 18, 15, 9, 15, 18, 18), of(),
		},
		// rows of a region that are shrunk by those above and below it
		{of(10, 10, 20, 13, 13, 13, 16, 16), 1, of(9, 9, 21, 14, 12, 14, 17, 17), of(11, 11, 19, 12, 14, 12, 15, 15)},
	} {
		if a, e := shape.Grow(c.a, c.by); !same(a, c.grown) || e != api.OK {
			t.Errorf("Grow(%v, %d): %v, %d; want %v", c.a, c.by, a, e, c.grown)
		}
		if a, e := shape.Shrink(c.a, c.by); !same(a, c.less) || e != api.OK {
			t.Errorf("Shrink(%v, %d): %v, %d; want %v", c.a, c.by, a, e, c.less)
		}
	}
}

// P6.2: random regions, also in the corners of the grid, square by square.
func TestP62AgainstNaive(t *testing.T) {
	random := rand.New(rand.NewSource(62))
	for i := range 400 {
		for _, corner := range corners {
			a, by := randomRegion(random, corner, 9, 3+i%10), random.Intn(4)
			grown, e := shape.Grow(a, by)
			if want := naiveGrow(corner, a, by); !same(grown, want) || e != api.OK {
				t.Fatalf("Grow(%v, %d): %v, %d; want %v", a, by, grown, e, want)
			}
			less, e := shape.Shrink(a, by)
			if want := naiveShrink(corner, a, by); !same(less, want) || e != api.OK {
				t.Fatalf("Shrink(%v, %d): %v, %d; want %v", a, by, less, e, want)
			}
			// What is left lies in the region, and the region in what it grows to.
			if !region.Within(less, a) || !region.Within(a, grown) {
				t.Fatalf("%v, grown and shrunk by %d: %v, %v", a, by, grown, less)
			}
		}
	}
}

// P6.2: every set of 4 by 4 squares, away from the border, grown and shrunk by one.
func TestP62AllSmallSets(t *testing.T) {
	for bits := range 1 << 16 {
		a, e := shape.Move(regionOfBits(4, 4, bits), 5, 7)
		if e != api.OK {
			t.Fatalf("%v, %d", a, e)
		}
		grown, e := shape.Grow(a, 1)
		back, g := shape.Shrink(grown, 1)
		if e != api.OK || g != api.OK || !region.Within(a, back) {
			t.Fatalf("%v grows to %v, %d, and this shrinks to %v, %d", a, grown, e, back, g)
		}
		less, e := shape.Shrink(a, 1)
		back, g = shape.Grow(less, 1)
		if e != api.OK || g != api.OK || !region.Within(back, a) {
			t.Fatalf("%v shrinks to %v, %d, and this grows to %v, %d", a, less, e, back, g)
		}
		// Just the squares around which there are nine of the region are left.
		want := canonical(api.Rect{Left: 5, Low: 7, Right: 9, High: 11}, func(x, y int) bool {
			return squaresAround(x, y, 1, func(u, v int) bool { return has(a, u, v) })
		})
		if !same(less, want) {
			t.Fatalf("Shrink(%v, 1): %v; want %v", a, less, want)
		}
	}
}

// P6.2: growing, or shrinking, by a number and then by another one is the same as by both together.
func TestP62OneAfterTheOther(t *testing.T) {
	random := rand.New(rand.NewSource(621))
	for range 1000 {
		for _, corner := range corners {
			a := randomRegion(random, corner, 6, 12)
			by, then := random.Intn(33), random.Intn(33)
			if random.Intn(2) == 0 {
				by, then = random.Intn(4), random.Intn(4)
			}
			for _, f := range []func(api.Region, int) (api.Region, api.Errno){shape.Grow, shape.Shrink} {
				one, e := f(a, by)
				two, g := f(one, then)
				both, h := f(a, by+then)
				if !same(two, both) || e != api.OK || g != api.OK || h != api.OK {
					t.Fatalf("%v by %d and %d: %v, %d, %v, %d; by both: %v, %d", a, by, then, one, e, two, g, both, h)
				}
			}
		}
	}
}

// steps returns squares far from each other, in two rows: grown by one they are twice as many rectangles.
func steps(n int) api.Region {
	return together(columns(n, 10, 10, 10, 11), columns(n, 15, 10, 11, 12))
}

// P6.2: results of as many rectangles as are permitted, and one more.
func TestP62GrowAtLimits(t *testing.T) {
	for _, c := range []struct {
		name string
		a    api.Region
		by   int
		size int
		e    api.Errno
	}{
		{"two rows that become three", steps(30), 1, 120, api.OK},
		{"the same and another square", together(steps(30), of(10, 99, 11, 100)), 1, 0, api.ErrLimit},
		{"the same, not grown", together(steps(30), of(10, 99, 11, 100)), 0, 61, api.OK},
		{"the same, grown until they touch", together(steps(30), of(10, 99, 11, 100)), 5, 4, api.OK},
		{"120 squares", columns(120, 10, 10, 10, 11), 4, 120, api.OK},
		{"120 squares that become one", columns(120, 10, 10, 10, 11), 5, 1, api.OK},
		{"120 squares in two rows", steps(60), 1, 0, api.ErrLimit},
		{"121 squares", columns(121, 10, 10, 10, 11), 4, 0, api.ErrRegion},
	} {
		a, e := shape.Grow(c.a, c.by)
		if len(a.Rects) != c.size || e != c.e || !region.Valid(a) {
			t.Errorf("%s: %d rectangles, %d; want %d, %d", c.name, len(a.Rects), e, c.size, c.e)
		}
	}
}

// holes returns the rectangles of a field with holes of a square in two rows: shrunk by one it has 2 n + 5 of them.
func holes(n int) api.Region {
	low := of(0, 0, 3000, 10)
	from := 0
	for i := range n / 2 {
		low.Rects = append(low.Rects, api.Rect{Left: from, Low: 10, Right: 10 + 10*i, High: 11})
		from = 11 + 10*i
	}
	low.Rects = append(low.Rects, api.Rect{Left: from, Low: 10, Right: 3000, High: 11})
	from = 0
	for i := range n - n/2 {
		low.Rects = append(low.Rects, api.Rect{Left: from, Low: 11, Right: 15 + 10*i, High: 12})
		from = 16 + 10*i
	}
	return together(low, of(from, 11, 3000, 12, 0, 12, 3000, 20))
}

// P6.2: results of as many rectangles as are permitted, and one more; on the way there are more.
func TestP62ShrinkAtLimits(t *testing.T) {
	field := of(500, 1000, 510, 1010)
	bars := of()
	for i := range 60 {
		bars.Rects = append(bars.Rects, of(500+10*(i%2), 2*i, 600, 2*i+1, 700, 2*i, 800, 2*i+1).Rects...)
	}
	for _, c := range []struct {
		name string
		a    api.Region
		by   int
		size int
		e    api.Errno
	}{
		{"57 holes", holes(57), 1, 119, api.OK},
		{"57 holes and a field", together(holes(57), field), 1, 120, api.OK},
		{"57 holes and a field that becomes too small", together(holes(57), field), 5, 2, api.OK},
		{"57 holes and two fields", together(holes(57), field, of(500, 2000, 510, 2010)), 1, 0, api.ErrLimit},
		{"58 holes", holes(58), 1, 0, api.ErrLimit},
		{"58 holes, not shrunk", holes(58), 0, 62, api.OK},
		{"119 columns and a field", together(columns(119, 0, 2, 3, 50), field), 4, 1, api.OK},
		{"119 columns and a field with all its squares", together(columns(119, 0, 2, 3, 50), field), 0, 120, api.OK},
		{"120 bars", bars, 1, 0, api.OK},
		{"120 bars with all their squares", bars, 0, 120, api.OK},
		{"121 columns", columns(121, 0, 2, 3, 50), 1, 0, api.ErrRegion},
	} {
		a, e := shape.Shrink(c.a, c.by)
		if len(a.Rects) != c.size || e != c.e || !region.Valid(a) {
			t.Errorf("%s: %d rectangles, %d; want %d, %d", c.name, len(a.Rects), e, c.size, c.e)
		}
	}
}

// P6.2: a region that is not valid comes first, then the number, then the rectangles of the result.
func TestP62Errors(t *testing.T) {
	for _, f := range []func(api.Region, int) (api.Region, api.Errno){shape.Grow, shape.Shrink} {
		for _, by := range []int{math.MinInt, -65, -64, -1, 65, 66, 1 << 32, math.MaxInt} {
			for _, a := range []api.Region{{}, of(5, 5, 6, 6), of(0, 0, 16384, 16384), steps(60), holes(58)} {
				if b, e := f(a, by); b.Rects != nil || e != api.ErrRange {
					t.Errorf("%v by %d: %v, %d", a, by, b, e)
				}
			}
		}
		for _, by := range []int{math.MinInt, -1, 0, 1, 64, 65, math.MaxInt} {
			for _, bad := range noRegions() {
				if b, e := f(bad, by); b.Rects != nil || e != api.ErrRegion {
					t.Errorf("%v by %d: %v, %d", bad, by, b, e)
				}
			}
		}
	}
	if b, e := shape.Grow(steps(60), 1); b.Rects != nil || e != api.ErrLimit {
		t.Errorf("%v, %d", b, e)
	}
	if b, e := shape.Shrink(holes(58), 1); b.Rects != nil || e != api.ErrLimit {
		t.Errorf("%v, %d", b, e)
	}
}

// R2 and P6.2: regions stay as they are, with their spare capacity, and share no memory with results.
func TestP62KeepsArguments(t *testing.T) {
	for _, by := range []int{0, 1} {
		for _, f := range []func(api.Region, int) (api.Region, api.Errno){shape.Grow, shape.Shrink} {
			a, all := spare(of(10, 10, 20, 20, 13, 20, 20, 30, 9, 30, 19, 40))
			before := slices.Clone(all)
			first, e := f(a, by)
			second, _ := f(a, by)
			if e != api.OK || len(first.Rects) == 0 || !slices.Equal(all, before) {
				t.Errorf("by %d: %v, %d, %v", by, first, e, all)
			}
			first.Rects[0] = api.Rect{}
			first.Rects = append(first.Rects, api.Rect{})
			if third, _ := f(a, by); !slices.Equal(all, before) || !same(second, third) {
				t.Errorf("by %d: %v, %v, %v", by, second, third, all)
			}
		}
	}
}
