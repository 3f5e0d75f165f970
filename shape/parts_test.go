package shape_test

import (
	"math/rand"
	"slices"
	"testing"

	"landaid/api"
	"landaid/region"
	"landaid/shape"
)

// sameList reports whether two lists of regions are equal.
func sameList(a, b []api.Region) bool { return slices.EqualFunc(a, b, same) }

// naiveParts returns the parts of a region in a part of the grid, square by square.
func naiveParts(part api.Rect, a api.Region) []api.Region {
	number := map[api.Point]int{}
	var spread func(x, y, n int)
	spread = func(x, y, n int) {
		p := api.Point{X: x, Y: y}
		if !has(a, x, y) || number[p] > 0 {
			return
		}
		number[p] = n
		spread(x-1, y, n)
		spread(x+1, y, n)
		spread(x, y-1, n)
		spread(x, y+1, n)
	}
	n := 0
	for y := part.Low; y < part.High; y++ {
		for x := part.Left; x < part.Right; x++ {
			if has(a, x, y) && number[api.Point{X: x, Y: y}] == 0 {
				n++
				spread(x, y, n)
			}
		}
	}
	var out []api.Region
	for i := range n {
		out = append(out, canonical(part, func(x, y int) bool { return number[api.Point{X: x, Y: y}] == i+1 }))
	}
	return out
}

// P6.1: the parts of some regions.
func TestP61Parts(t *testing.T) {
	cup := of(0, 0, 1, 1, 2, 0, 3, 1, 0, 1, 3, 2)
	for _, c := range []struct {
		a    api.Region
		want []api.Region
	}{
		{of(), nil},
		{of(0, 0, 1, 1), []api.Region{of(0, 0, 1, 1)}},
		{of(0, 0, 16384, 16384), []api.Region{of(0, 0, 16384, 16384)}},
		{of(16383, 16383, 16384, 16384), []api.Region{of(16383, 16383, 16384, 16384)}},
		// squares that have only a corner in common
		{of(0, 0, 1, 1, 1, 1, 2, 2), []api.Region{of(0, 0, 1, 1), of(1, 1, 2, 2)}},
		{of(1, 0, 2, 1, 0, 1, 1, 2), []api.Region{of(1, 0, 2, 1), of(0, 1, 1, 2)}},
		// rows that have an edge in common, at an end of both
		{of(0, 0, 2, 1, 1, 1, 3, 2), []api.Region{of(0, 0, 2, 1, 1, 1, 3, 2)}},
		{of(1, 0, 3, 1, 0, 1, 2, 2), []api.Region{of(1, 0, 3, 1, 0, 1, 2, 2)}},
		// a row between them, or a column
		{of(0, 0, 2, 1, 0, 2, 2, 3), []api.Region{of(0, 0, 2, 1), of(0, 2, 2, 3)}},
		{of(0, 0, 1, 2, 2, 0, 3, 2), []api.Region{of(0, 0, 1, 2), of(2, 0, 3, 2)}},
		// the order is that of the first squares: by y, then x
		{of(5, 0, 6, 1, 0, 1, 1, 2), []api.Region{of(5, 0, 6, 1), of(0, 1, 1, 2)}},
		{of(0, 0, 1, 1, 4, 0, 5, 1, 4, 1, 5, 2), []api.Region{of(0, 0, 1, 1), of(4, 0, 5, 2)}},
		{of(9, 3, 10, 4, 0, 4, 1, 9, 2, 4, 3, 9), []api.Region{of(9, 3, 10, 4), of(0, 4, 1, 9), of(2, 4, 3, 9)}},
		// what is joined only above, or only below
		{cup, []api.Region{cup}},
		{of(0, 0, 3, 1, 0, 1, 1, 2, 2, 1, 3, 2), []api.Region{of(0, 0, 3, 1, 0, 1, 1, 2, 2, 1, 3, 2)}},
		// a ring, and a square in its hole
		{
			of(0, 0, 5, 1, 0, 1, 1, 2, 4, 1, 5, 2, 0, 2, 1, 3, 2, 2, 3, 3, 4, 2, 5, 3, 0, 3, 1, 4, 4, 3, 5, 4, 0, 4, 5, 5),
			[]api.Region{of(0, 0, 5, 1, 0, 1, 1, 4, 4, 1, 5, 4, 0, 4, 5, 5), of(2, 2, 3, 3)},
		},
		// bands that are apart only by another part
		{of(0, 0, 1, 1, 0, 1, 1, 2, 2, 1, 3, 2, 0, 2, 1, 3), []api.Region{of(0, 0, 1, 3), of(2, 1, 3, 2)}},
	} {
		if l, e := shape.Parts(c.a); !sameList(l, c.want) || e != api.OK {
			t.Errorf("Parts(%v): %v, %d; want %v", c.a, l, e, c.want)
		}
	}
}

// P6.1: the parts of every set of 4 by 4 squares.
func TestP61PartsOfAllSmallSets(t *testing.T) {
	for bits := range 1 << 16 {
		a := regionOfBits(4, 4, bits)
		want := naiveParts(api.Rect{Right: 4, High: 4}, a)
		if l, e := shape.Parts(a); !sameList(l, want) || e != api.OK {
			t.Fatalf("Parts(%v): %v, %d; want %v", a, l, e, want)
		}
	}
}

// P6.1: the parts of random regions; they are disjoint, do not touch, and together are the region.
func TestP61PartsAgainstNaive(t *testing.T) {
	random := rand.New(rand.NewSource(61))
	for range 300 {
		for _, corner := range corners {
			a := randomRegion(random, corner, 16, 4)
			want := naiveParts(partAt(corner, 0), a)
			l, e := shape.Parts(a)
			if !sameList(l, want) || e != api.OK {
				t.Fatalf("Parts(%v): %v, %d; want %v", a, l, e, want)
			}
			var all api.Region
			for i, p := range l {
				for _, q := range l[:i] {
					if n, e := shape.Touch(p, q); n != 0 || e != api.OK {
						t.Fatalf("Touch(%v, %v): %d, %d", p, q, n, e)
					}
				}
				all = union(all, p)
			}
			if !same(all, a) {
				t.Fatalf("the parts of %v are together %v", a, all)
			}
		}
	}
}

// P6.1: as many parts, and as many rectangles of one part, as are permitted; and a rectangle more.
func TestP61PartsAtLimits(t *testing.T) {
	want := slices.Collect(func(yield func(api.Region) bool) {
		for i := range 120 {
			if !yield(of(2*i, 3, 2*i+1, 5)) {
				return
			}
		}
	})
	if l, e := shape.Parts(columns(120, 0, 2, 3, 5)); !sameList(l, want) || e != api.OK {
		t.Errorf("120 columns: %v, %d", l, e)
	}
	if l, e := shape.Parts(columns(121, 0, 2, 3, 5)); l != nil || e != api.ErrRegion {
		t.Errorf("121 columns: %v, %d", l, e)
	}
	comb := together(columns(119, 0, 2, 3, 5), of(0, 5, 237, 6))
	if l, e := shape.Parts(comb); !sameList(l, []api.Region{comb}) || e != api.OK {
		t.Errorf("a comb: %v, %d", l, e)
	}
	if l, e := shape.Parts(together(columns(120, 0, 2, 3, 5), of(0, 5, 239, 6))); l != nil || e != api.ErrRegion {
		t.Errorf("a comb with a rectangle more: %v, %d", l, e)
	}
	var stairs api.Region
	for i := range 120 {
		stairs.Rects = append(stairs.Rects, api.Rect{Left: 119 - i, Low: i, Right: 121 - i, High: i + 1})
	}
	if l, e := shape.Parts(stairs); !sameList(l, []api.Region{stairs}) || e != api.OK {
		t.Errorf("stairs: %v, %d", l, e)
	}
}

// P6.1: the edges between some regions.
func TestP61Touch(t *testing.T) {
	cup := of(0, 0, 1, 1, 2, 0, 3, 1, 0, 1, 3, 2)
	frame := of(0, 0, 5, 1, 0, 1, 1, 4, 4, 1, 5, 4, 0, 4, 5, 5)
	for _, c := range []struct {
		a, b api.Region
		want int
		e    api.Errno
	}{
		{of(), of(), 0, api.OK},
		{of(0, 0, 1, 1), of(), 0, api.OK},
		// beside each other and above each other, with more and with fewer squares
		{of(0, 0, 2, 1), of(2, 0, 3, 1), 1, api.OK},
		{of(0, 0, 2, 5), of(2, 0, 3, 5), 5, api.OK},
		{of(0, 0, 2, 5), of(2, 3, 3, 9), 2, api.OK},
		{of(0, 3, 2, 9), of(2, 0, 3, 5), 2, api.OK},
		{of(0, 0, 2, 9), of(2, 3, 3, 5), 2, api.OK},
		{of(0, 0, 2, 1), of(0, 1, 2, 2), 2, api.OK},
		{of(0, 0, 9, 1), of(7, 1, 30, 2), 2, api.OK},
		{of(3, 0, 9, 1), of(0, 1, 5, 2), 2, api.OK},
		{of(0, 0, 9, 1), of(3, 1, 5, 2), 2, api.OK},
		// with just a corner, or nothing, in common
		{of(0, 0, 1, 1), of(1, 1, 2, 2), 0, api.OK},
		{of(1, 0, 2, 1), of(0, 1, 1, 2), 0, api.OK},
		{of(0, 0, 1, 1), of(2, 0, 3, 1), 0, api.OK},
		{of(0, 0, 1, 1), of(0, 2, 1, 3), 0, api.OK},
		{of(0, 0, 1, 1), of(1, 2, 2, 3), 0, api.OK},
		{of(0, 0, 1, 1), of(2, 1, 3, 2), 0, api.OK},
		// around each other
		{of(1, 0, 2, 1), cup, 3, api.OK},
		{of(1, 1, 4, 4), frame, 12, api.OK},
		{of(1, 1, 2, 2, 3, 1, 4, 2), frame, 4, api.OK},
		{of(2, 2, 3, 3), frame, 0, api.OK},
		{of(0, 0, 16384, 8000), of(0, 8000, 16384, 16384), 16384, api.OK},
		// common squares
		{cup, of(1, 1, 2, 2), 0, api.ErrOverlap},
		{cup, cup, 0, api.ErrOverlap},
		{of(0, 0, 2, 2), of(1, 1, 3, 3), 0, api.ErrOverlap},
		{of(0, 0, 1, 1, 5, 0, 6, 1), of(5, 0, 9, 1), 0, api.ErrOverlap},
	} {
		if n, e := shape.Touch(c.a, c.b); n != c.want || e != c.e {
			t.Errorf("Touch(%v, %v): %d, %d; want %d, %d", c.a, c.b, n, e, c.want, c.e)
		}
		if n, e := shape.Touch(c.b, c.a); n != c.want || e != c.e {
			t.Errorf("Touch(%v, %v): %d, %d; want %d, %d", c.b, c.a, n, e, c.want, c.e)
		}
	}
}

// P6.1: a region that is not valid comes before common squares, whichever of both it is.
func TestP61TouchNotValid(t *testing.T) {
	for _, bad := range noRegions() {
		for _, b := range []api.Region{{}, of(0, 0, 1, 1), of(0, 0, 16384, 16384), bad} {
			if n, e := shape.Touch(bad, b); n != 0 || e != api.ErrRegion {
				t.Errorf("Touch(%v, %v): %d, %d", bad, b, n, e)
			}
			if n, e := shape.Touch(b, bad); n != 0 || e != api.ErrRegion {
				t.Errorf("Touch(%v, %v): %d, %d", b, bad, n, e)
			}
		}
	}
}

// P6.1: the edges between random regions, edge by edge.
func TestP61TouchAgainstNaive(t *testing.T) {
	random := rand.New(rand.NewSource(611))
	overlaps := 0
	for range 400 {
		for _, corner := range corners {
			a := randomRegion(random, corner, 4, 5)
			b := randomRegion(random, corner, 4, 5)
			if random.Intn(4) > 0 {
				b, _ = region.Without(b, a)
			}
			want, e := 0, api.OK
			part := partAt(corner, 0)
			for y := part.Low; y < part.High; y++ {
				for x := part.Left; x < part.Right; x++ {
					for _, d := range [][2]int{{1, 0}, {-1, 0}, {0, 1}, {0, -1}} {
						if has(a, x, y) && has(b, x+d[0], y+d[1]) {
							want++
						}
					}
					if has(a, x, y) && has(b, x, y) {
						e = api.ErrOverlap
					}
				}
			}
			if e != api.OK {
				want = 0
				overlaps++
			}
			if n, got := shape.Touch(a, b); n != want || got != e {
				t.Fatalf("Touch(%v, %v): %d, %d; want %d, %d", a, b, n, got, want, e)
			}
		}
	}
	if overlaps < 100 || overlaps > 1000 {
		t.Errorf("%d overlaps", overlaps)
	}
}

// P6.1: two regions of as many rectangles as are permitted.
func TestP61TouchAtLimits(t *testing.T) {
	a, b := columns(120, 0, 2, 0, 5), columns(120, 1, 2, 1, 4)
	if n, e := shape.Touch(a, b); n != 3*239 || e != api.OK {
		t.Errorf("%d, %d", n, e)
	}
	if n, e := shape.Touch(a, columns(121, 1, 2, 1, 4)); n != 0 || e != api.ErrRegion {
		t.Errorf("%d, %d", n, e)
	}
}

// P6.1: the bounds of some regions.
func TestP61Bounds(t *testing.T) {
	for _, c := range []struct {
		a    api.Region
		want api.Rect
		ok   bool
	}{
		{of(), api.Rect{}, false},
		{api.Region{Rects: []api.Rect{}}, api.Rect{}, false},
		{of(0, 0, 1, 1), api.Rect{Left: 0, Low: 0, Right: 1, High: 1}, true},
		{of(3, 4, 5, 6), api.Rect{Left: 3, Low: 4, Right: 5, High: 6}, true},
		{of(0, 0, 16384, 16384), api.Rect{Left: 0, Low: 0, Right: 16384, High: 16384}, true},
		// the least and greatest columns in the first, a middle, or the last rectangle
		{of(1, 0, 2, 1, 0, 5, 1, 6), api.Rect{Left: 0, Low: 0, Right: 2, High: 6}, true},
		{of(0, 0, 9, 1, 3, 1, 4, 2), api.Rect{Left: 0, Low: 0, Right: 9, High: 2}, true},
		{of(5, 2, 6, 3, 3, 3, 8, 4, 5, 4, 6, 5), api.Rect{Left: 3, Low: 2, Right: 8, High: 5}, true},
		{of(7, 2, 8, 3, 9, 2, 10, 3, 8, 3, 12, 7), api.Rect{Left: 7, Low: 2, Right: 12, High: 7}, true},
		{columns(120, 5, 2, 7, 9), api.Rect{Left: 5, Low: 7, Right: 244, High: 9}, true},
	} {
		if r, ok := shape.Bounds(c.a); r != c.want || ok != c.ok {
			t.Errorf("Bounds(%v): %v, %v; want %v, %v", c.a, r, ok, c.want, c.ok)
		}
	}
}

// P6.1: the bounds of random regions are the least rectangle with all their squares.
func TestP61BoundsAgainstNaive(t *testing.T) {
	random := rand.New(rand.NewSource(612))
	for range 1000 {
		for _, corner := range corners {
			a := randomRegion(random, corner, 5, 4)
			var xs, ys []int
			for _, r := range a.Rects {
				xs, ys = append(xs, r.Left, r.Right), append(ys, r.Low, r.High)
			}
			var want api.Rect
			if len(xs) > 0 {
				want = api.Rect{Left: slices.Min(xs), Low: slices.Min(ys), Right: slices.Max(xs), High: slices.Max(ys)}
			}
			if r, ok := shape.Bounds(a); r != want || ok != (len(xs) > 0) {
				t.Fatalf("Bounds(%v): %v, %v; want %v", a, r, ok, want)
			}
		}
	}
}

// P6.1: regions that are not valid have no parts and no bounds.
func TestP61NotValid(t *testing.T) {
	for _, bad := range noRegions() {
		if l, e := shape.Parts(bad); l != nil || e != api.ErrRegion {
			t.Errorf("Parts(%v): %v, %d", bad, l, e)
		}
		if r, ok := shape.Bounds(bad); r != (api.Rect{}) || ok {
			t.Errorf("Bounds(%v): %v, %v", bad, r, ok)
		}
	}
}

// R2 and P6.1: regions stay as they are, with their spare capacity, and share no memory with parts.
func TestP61KeepsArguments(t *testing.T) {
	for _, a := range []api.Region{
		of(0, 0, 9, 9),
		of(0, 0, 1, 1, 2, 0, 3, 1, 0, 1, 1, 2),
		of(0, 0, 1, 1, 2, 0, 3, 1, 0, 1, 3, 2),
		of(0, 0, 2, 1, 5, 0, 6, 1, 0, 1, 1, 2, 5, 1, 7, 2),
	} {
		b, all := spare(a)
		before := slices.Clone(all)
		first, _ := shape.Parts(b)
		shape.Touch(b, of(100, 100, 101, 101))
		shape.Touch(of(100, 100, 101, 101), b)
		shape.Bounds(b)
		if !slices.Equal(all, before) {
			t.Errorf("%v became %v", before, all)
		}
		second, _ := shape.Parts(b)
		for i := range first {
			for j := range first[i].Rects {
				first[i].Rects[j] = api.Rect{Left: -9}
			}
			first[i].Rects = append(first[i].Rects, api.Rect{})
		}
		if third, _ := shape.Parts(a); !slices.Equal(all, before) || !sameList(second, third) {
			t.Errorf("the parts of %v share its memory: %v", before, all)
		}
	}
}
