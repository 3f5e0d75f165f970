package region_test

import (
	"math/rand"
	"slices"
	"testing"

	"landaid/api"
	"landaid/region"
)

// operation is a function of two regions, and the squares that it keeps.
type operation struct {
	name string
	of   func(a, b api.Region) (api.Region, api.Errno)
	keep func(inA, inB bool) bool
}

// operations returns the functions of P4.2.
func operations() []operation {
	return []operation{
		{"Union", region.Union, func(inA, inB bool) bool { return inA || inB }},
		{"Both", region.Both, func(inA, inB bool) bool { return inA && inB }},
		{"Without", region.Without, func(inA, inB bool) bool { return inA && !inB }},
	}
}

// combined returns the squares that are kept, of those of two sets.
func combined(a, b grid, keep func(inA, inB bool) bool) grid {
	out := grid{left: a.left, low: a.low}
	for y := range a.has {
		for x := range a.has[y] {
			out.has[y][x] = keep(a.has[y][x], b.has[y][x])
		}
	}
	return out
}

// P4.2: sets that are apart, touch, overlap, hold each other, are equal, or empty.
func TestP42Sets(t *testing.T) {
	big, small, beside := of(0, 0, 3, 3), of(1, 1, 2, 2), of(1, 1, 4, 4)
	ring := of(0, 0, 3, 1, 0, 1, 1, 2, 2, 1, 3, 2, 0, 2, 3, 3)
	all := of(0, 0, 16384, 16384)
	for _, c := range []struct{ a, b, union, both, without api.Region }{
		{of(), of(), of(), of(), of()},
		{big, of(), big, of(), big},
		{of(), big, big, of(), of()},
		{big, big, big, big, of()},
		{big, small, big, small, ring},
		{small, big, big, small, of()},
		{ring, small, big, of(), ring},
		{small, ring, big, of(), small},
		{big, ring, big, ring, small},
		{big, beside, of(0, 0, 3, 1, 0, 1, 4, 3, 1, 3, 4, 4), of(1, 1, 3, 3), of(0, 0, 3, 1, 0, 1, 1, 3)},
		{beside, big, of(0, 0, 3, 1, 0, 1, 4, 3, 1, 3, 4, 4), of(1, 1, 3, 3), of(3, 1, 4, 3, 1, 3, 4, 4)},
		{of(0, 0, 1, 1), of(1, 0, 2, 1), of(0, 0, 2, 1), of(), of(0, 0, 1, 1)},
		{of(0, 0, 1, 1), of(0, 1, 1, 2), of(0, 0, 1, 2), of(), of(0, 0, 1, 1)},
		{of(0, 0, 1, 1), of(1, 1, 2, 2), of(0, 0, 1, 1, 1, 1, 2, 2), of(), of(0, 0, 1, 1)},
		{of(0, 0, 1, 1), of(5, 0, 6, 1), of(0, 0, 1, 1, 5, 0, 6, 1), of(), of(0, 0, 1, 1)},
		{of(0, 5, 1, 6), of(0, 0, 1, 1), of(0, 0, 1, 1, 0, 5, 1, 6), of(), of(0, 5, 1, 6)},
		{of(0, 0, 1, 2, 2, 0, 3, 2), of(1, 0, 2, 2), of(0, 0, 3, 2), of(), of(0, 0, 1, 2, 2, 0, 3, 2)},
		{of(0, 0, 2, 4), of(0, 1, 2, 3), of(0, 0, 2, 4), of(0, 1, 2, 3), of(0, 0, 2, 1, 0, 3, 2, 4)},
		{all, of(0, 0, 1, 1), all, of(0, 0, 1, 1), of(1, 0, 16384, 1, 0, 1, 16384, 16384)},
		{all, all, all, all, of()},
	} {
		wants := []api.Region{c.union, c.both, c.without}
		for i, o := range operations() {
			if got, e := o.of(c.a, c.b); !same(got, wants[i]) || e != api.OK {
				t.Errorf("%s(%v, %v): %v, %d; want %v", o.name, c.a, c.b, got, e, wants[i])
			}
		}
	}
}

// P4.2: all pairs of sets of 3 by 3 squares, against their squares; Within and Meets (P4.3) too.
func TestP42AllSmallSets(t *testing.T) {
	var sets []api.Region
	for bits := range 1 << 9 {
		sets = append(sets, gridOfBits(3, 3, bits).region())
	}
	for i, a := range sets {
		for j, b := range sets {
			wants := []api.Region{sets[i|j], sets[i&j], sets[i&^j]}
			for k, o := range operations() {
				if got, e := o.of(a, b); !same(got, wants[k]) || e != api.OK {
					t.Fatalf("%s(%v, %v): %v, %d; want %v", o.name, a, b, got, e, wants[k])
				}
			}
			if region.Within(a, b) != (i&^j == 0) || region.Meets(a, b) != (i&j != 0) {
				t.Fatalf("%v, %v: within %v, meets %v", a, b, region.Within(a, b), region.Meets(a, b))
			}
		}
	}
}

// P4.2: random sets, also in the corners of the grid, against their squares; and the laws of sets.
func TestP42AgainstNaive(t *testing.T) {
	random := rand.New(rand.NewSource(43))
	for range 2000 {
		for _, corner := range corners {
			p := gridOf(corner[0], corner[1], randomRects(random, corner[0], corner[1], random.Intn(7)))
			q := gridOf(corner[0], corner[1], randomRects(random, corner[0], corner[1], random.Intn(7)))
			a, b := p.region(), q.region()
			for _, o := range operations() {
				want := combined(p, q, o.keep).region()
				got, e := o.of(a, b)
				if !same(got, want) || e != api.OK {
					t.Fatalf("%s(%v, %v): %v, %d; want %v", o.name, a, b, got, e, want)
				}
			}
			union, _ := region.Union(a, b)
			both, _ := region.Both(a, b)
			left, _ := region.Without(a, b)
			right, _ := region.Without(b, a)
			if region.Area(union)+region.Area(both) != region.Area(a)+region.Area(b) || region.Area(union) != region.Area(left)+region.Area(both)+region.Area(right) {
				t.Fatalf("the areas of %v and %v", a, b)
			}
			if again, e := region.Union(left, b); !same(again, union) || e != api.OK {
				t.Fatalf("Union(%v, %v): %v, %d; want %v", left, b, again, e, union)
			}
			if !region.Within(a, union) || !region.Within(both, a) || !region.Within(left, a) || region.Meets(left, b) || region.Meets(left, right) {
				t.Fatalf("the laws of %v and %v", a, b)
			}
		}
	}
}

// P4.2: results with as many rectangles as are permitted, and with one more.
func TestP42AtLimits(t *testing.T) {
	row := of(0, 1, 300, 2)
	for _, c := range []struct {
		name string
		of   func(a, b api.Region) (api.Region, api.Errno)
		a, b api.Region
		size int
		want api.Errno
	}{
		{"a union of 120", region.Union, regionOf(columns(60, 0, 1)), regionOf(columns(60, 2, 3)), 120, api.OK},
		{"a union of 121", region.Union, regionOf(columns(61, 0, 1)), regionOf(columns(60, 2, 3)), 0, api.ErrLimit},
		{"a union of 240", region.Union, regionOf(columns(120, 0, 1)), regionOf(columns(120, 2, 3)), 0, api.ErrLimit},
		{"a union of 120 with an empty one", region.Union, regionOf(columns(120, 0, 1)), of(), 120, api.OK},
		{"a union of 1", region.Union, regionOf(columns(120, 0, 3)), of(0, 0, 300, 3), 1, api.OK},
		{"a common part of 120", region.Both, regionOf(columns(12, 0, 20)), regionOf(rows(10, 0, 24)), 120, api.OK},
		{"a common part of 121", region.Both, regionOf(columns(11, 0, 22)), regionOf(rows(11, 0, 22)), 0, api.ErrLimit},
		{"a common part of 14400", region.Both, regionOf(columns(120, 0, 240)), regionOf(rows(120, 0, 240)), 0, api.ErrLimit},
		{"a rest of 120", region.Without, regionOf(columns(60, 0, 3)), row, 120, api.OK},
		{"a rest of 122", region.Without, regionOf(columns(61, 0, 3)), row, 0, api.ErrLimit},
		{"a rest of 120 in a row", region.Without, of(0, 0, 239, 1), regionOf(moved(columns(119, 0, 1), 1)), 120, api.OK},
		{"a rest of 121 in a row", region.Without, of(0, 0, 241, 1), regionOf(moved(columns(120, 0, 1), 1)), 0, api.ErrLimit},
		{"no rest", region.Without, regionOf(columns(120, 0, 3)), of(0, 0, 300, 3), 0, api.OK},
	} {
		got, e := c.of(c.a, c.b)
		if e != c.want || len(got.Rects) != c.size || e != api.OK && got.Rects != nil {
			t.Errorf("%s: %d rectangles, %d; want %d, %d", c.name, len(got.Rects), e, c.size, c.want)
		}
		if !region.Valid(got) {
			t.Errorf("%s: not valid", c.name)
		}
	}
}

// moved returns rectangles farther to the right.
func moved(l []api.Rect, by int) []api.Rect {
	out := slices.Clone(l)
	for i := range out {
		out[i].Left += by
		out[i].Right += by
	}
	return out
}

// P4.2: a region that is not valid comes first, be it the one, the other, or both, and also if the result would be too large.
func TestP42Errors(t *testing.T) {
	many, others := regionOf(columns(120, 0, 1)), regionOf(columns(120, 2, 3))
	back := api.Region{Rects: slices.Clone(many.Rects)}
	slices.Reverse(back.Rects)
	for _, o := range operations() {
		for _, bad := range append(noRegions(), back) {
			for _, c := range [][2]api.Region{{bad, of()}, {of(), bad}, {bad, bad}, {bad, of(0, 0, 5, 5)}, {of(0, 0, 5, 5), bad}, {bad, others}, {others, bad}} {
				if got, e := o.of(c[0], c[1]); e != api.ErrRegion || got.Rects != nil {
					t.Errorf("%s(%v, %v): %v, %d", o.name, c[0], c[1], got, e)
				}
			}
		}
	}
}

// R2 and P4.2: regions stay as they are, with their spare capacity, and share no memory with the result.
func TestP42KeepsArguments(t *testing.T) {
	for _, o := range operations() {
		first := rects(0, 0, 2, 1, 0, 1, 1, 2, 7, 7, 8, 8)
		second := rects(5, 0, 6, 1, 7, 7, 8, 8)
		firstBefore, secondBefore := slices.Clone(first), slices.Clone(second)
		for _, c := range [][2]api.Region{
			{{Rects: first[:2]}, {Rects: second[:1]}},
			{{Rects: first[:2]}, {}},
			{{}, {Rects: first[:2]}},
			{{Rects: first[:2]}, {Rects: first[:2]}},
		} {
			got, _ := o.of(c[0], c[1])
			for i := range got.Rects {
				got.Rects[i] = api.Rect{Left: -1}
			}
			got.Rects = append(got.Rects, api.Rect{Left: -1})
			if !slices.Equal(first, firstBefore) || !slices.Equal(second, secondBefore) {
				t.Fatalf("%s: %v, %v", o.name, first, second)
			}
		}
	}
}
