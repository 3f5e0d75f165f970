package overlay_test

import (
	"math"
	"math/rand"
	"slices"
	"testing"

	"landaid/api"
	"landaid/overlay"
	"landaid/region"
)

// empty returns empty faces with the sets 1, 2, and so on.
func empty(n int) []api.Face {
	var out []api.Face
	for i := range n {
		out = append(out, api.Face{Set: i + 1})
	}
	return out
}

// facesOf returns faces with the sets 1, 2, and so on.
func facesOf(l ...api.Region) []api.Face {
	out := empty(len(l))
	for i := range out {
		out[i].Region = l[i]
	}
	return out
}

// beyond returns numbers that are no sets, since they are not from 0 to 4095.
func beyond() []int {
	return []int{math.MinInt, math.MinInt + 1, -4096, -4095, -2, -1, 4096, 4097, 8191, 1 << 20, 1<<20 | 1, 1 << 32, 1<<62 | 3, math.MaxInt}
}

// randomFaces returns up to some faces in a part of the grid, which may overlap, with any sets.
func randomFaces(random *rand.Rand, corner api.Point, most int) []api.Face {
	var out []api.Face
	set := 0
	for range random.Intn(most + 1) {
		set += 1 + random.Intn(5)
		out = append(out, api.Face{Set: set, Region: randomRegion(random, corner, 3)})
	}
	return out
}

// naiveCommon returns the squares of all faces whose sets have all bits of a set, square by square.
func naiveCommon(corner api.Point, l []api.Face, set int) api.Region {
	var squares []api.Point
	for _, p := range squaresOf(corner) {
		if slices.ContainsFunc(l, func(f api.Face) bool { return set&^f.Set == 0 && region.Has(f.Region, p.X, p.Y) }) {
			squares = append(squares, p)
		}
	}
	return regionWith(squares)
}

// P7.2: the squares of some faces, by their sets, and their areas.
func TestP72Common(t *testing.T) {
	l := []api.Face{{Set: 1, Region: of(0, 0, 1, 1)}, {Set: 2, Region: of(2, 0, 4, 1)}, {Set: 3, Region: of(1, 0, 2, 1)}, {Set: 12}, {Set: 4095, Region: of(0, 5, 9, 6)}}
	last := of(0, 5, 9, 6)
	for _, c := range []struct {
		l    []api.Face
		set  int
		want api.Region
	}{
		{l, 0, of(0, 0, 4, 1, 0, 5, 9, 6)},
		{l, 1, of(0, 0, 2, 1, 0, 5, 9, 6)},
		{l, 2, of(1, 0, 4, 1, 0, 5, 9, 6)},
		{l, 3, of(1, 0, 2, 1, 0, 5, 9, 6)},
		{l, 4, last},
		{l, 5, last},
		{l, 12, last},
		{l, 2048, last},
		{l, 4094, last},
		{l, 4095, last},
		{l[:4], 0, of(0, 0, 4, 1)},
		{l[:4], 4, of()},
		{l[:4], 8, of()},
		{l[:4], 2048, of()},
		{l[:4], 4095, of()},
		{nil, 0, of()},
		{nil, 1, of()},
		// faces that overlap, touch, or are equal
		{[]api.Face{{Set: 5, Region: of(0, 0, 3, 3)}, {Set: 7, Region: of(1, 1, 4, 4)}}, 5, of(0, 0, 3, 1, 0, 1, 4, 3, 1, 3, 4, 4)},
		{[]api.Face{{Set: 5, Region: of(0, 0, 3, 3)}, {Set: 7, Region: of(1, 1, 4, 4)}}, 6, of(1, 1, 4, 4)},
		{[]api.Face{{Set: 1, Region: of(0, 2, 3, 3)}, {Set: 9, Region: of(0, 0, 3, 2)}}, 1, of(0, 0, 3, 3)},
		{[]api.Face{{Set: 1, Region: of(0, 2, 3, 3)}, {Set: 9, Region: of(0, 0, 3, 2)}}, 8, of(0, 0, 3, 2)},
		{[]api.Face{{Set: 1, Region: last}, {Set: 3, Region: last}}, 1, last},
		{[]api.Face{{Set: 1, Region: of(0, 0, 16384, 16384)}, {Set: 3, Region: last}}, 1, of(0, 0, 16384, 16384)},
	} {
		if a, e := overlay.Common(c.l, c.set); !same(a, c.want) || e != api.OK {
			t.Errorf("Common(%v, %d): %v, %d; want %v", c.l, c.set, a, e, c.want)
		}
	}
	for _, set := range beyond() {
		if a, e := overlay.Common(l, set); len(a.Rects) != 0 || e != api.OK {
			t.Errorf("Common(%v, %d): %v, %d", l, set, a, e)
		}
	}
}

// P7.2: each face has its set and its area, also an empty one, and one that overlaps another one.
func TestP72Areas(t *testing.T) {
	all, bands := of(0, 0, 16384, 16384), of(0, 0, 3, 1, 1, 1, 3, 2)
	for _, c := range []struct {
		l    []api.Face
		want [][2]int
	}{
		{nil, nil},
		{empty(3), [][2]int{{1, 0}, {2, 0}, {3, 0}}},
		{[]api.Face{{Set: 7, Region: bands}}, [][2]int{{7, 5}}},
		{[]api.Face{{Set: 1, Region: bands}, {Set: 12}, {Set: 4095, Region: all}}, [][2]int{{1, 5}, {12, 0}, {4095, 1 << 28}}},
		{[]api.Face{{Set: 4, Region: bands}, {Set: 5, Region: bands}}, [][2]int{{4, 5}, {5, 5}}},
	} {
		if l, e := overlay.Areas(c.l); !slices.Equal(l, c.want) || e != api.OK {
			t.Errorf("Areas(%v): %v, %d; want %v", c.l, l, e, c.want)
		}
	}
}

// P7.2: faces that need not come from regions, with any sets, square by square.
func TestP72AgainstNaive(t *testing.T) {
	random := rand.New(rand.NewSource(72))
	for range 150 {
		for _, corner := range corners {
			l := randomFaces(random, corner, 12)
			for set := range 16 {
				want := naiveCommon(corner, l, set)
				if a, e := overlay.Common(l, set); !same(a, want) || e != api.OK {
					t.Fatalf("Common(%v, %d): %v, %d; want %v", l, set, a, e, want)
				}
			}
			var want [][2]int
			for _, f := range l {
				squares := 0
				for _, p := range squaresOf(corner) {
					if region.Has(f.Region, p.X, p.Y) {
						squares++
					}
				}
				want = append(want, [2]int{f.Set, squares})
			}
			if areas, e := overlay.Areas(l); !slices.Equal(areas, want) || e != api.OK {
				t.Fatalf("Areas(%v): %v, %d; want %v", l, areas, e, want)
			}
		}
	}
}

// P7.2: for the faces of regions, Common returns what the regions of a set have in common, and what they are together for 0.
func TestP72OfFaces(t *testing.T) {
	random := rand.New(rand.NewSource(721))
	for range 300 {
		l := randomRegions(random, corners[4], 5)
		faces, _ := overlay.Faces(l)
		var union api.Region
		for _, a := range l {
			union, _ = region.Union(union, a)
		}
		for set := range 1 << len(l) {
			want := union
			for i, a := range l {
				if set>>i&1 == 1 {
					want, _ = region.Both(want, a)
				}
			}
			if a, e := overlay.Common(faces, set); !same(a, want) || e != api.OK {
				t.Fatalf("Common of the faces of %v, %d: %v, %d; want %v", l, set, a, e, want)
			}
		}
	}
}

// P7.2: as many faces, and as many rectangles of a result, as are permitted, and one more.
func TestP72AtLimits(t *testing.T) {
	halves := facesOf(columns(60, 0, 0, 1), columns(60, 0, 2, 3))
	more := slices.Concat(halves, []api.Face{{Set: 3, Region: of(500, 9, 501, 10)}})
	crossed := facesOf(columns(60, 0, 0, 3), of(0, 1, 118, 2), of(118, 1, 119, 2))
	for _, c := range []struct {
		name string
		l    []api.Face
		set  int
		size int
		e    api.Errno
	}{
		{"200 faces", empty(200), 0, 0, api.OK},
		{"201 faces", empty(201), 0, 0, api.ErrLimit},
		{"201 faces, none of them with a set", empty(201), 2048, 0, api.ErrLimit},
		{"201 faces, and no set", empty(201), -1, 0, api.ErrLimit},
		{"120 columns", facesOf(columns(120, 0, 0, 1)), 0, 120, api.OK},
		{"120 rows", facesOf(rows(120, 0, 0, 1)), 1, 120, api.OK},
		{"twice 120 columns", facesOf(columns(120, 0, 0, 1), columns(120, 0, 0, 1)), 0, 120, api.OK},
		{"twice 60 columns", halves, 0, 120, api.OK},
		{"twice 60 columns and a square", more, 0, 0, api.ErrLimit},
		{"60 columns and a square", more, 1, 61, api.OK},
		{"60 columns and a square, in the second bit", more, 2, 61, api.OK},
		{"twice 60 columns and a square, but no set", more, 1 << 12, 0, api.OK},
		{"120 columns and one", facesOf(columns(120, 0, 0, 1), of(240, 0, 241, 1)), 0, 0, api.ErrLimit},
		{"120 columns and one that touches them", facesOf(columns(120, 0, 0, 1), of(239, 0, 240, 1)), 0, 120, api.OK},
		{"120 rows and one", facesOf(rows(120, 0, 0, 1), of(0, 240, 1, 241)), 0, 0, api.ErrLimit},
		{"120 rows and one that touches them", facesOf(rows(120, 0, 0, 1), of(0, 239, 1, 240)), 0, 120, api.OK},
		{"60 columns and a row from one end to the other", crossed, 0, 121, api.ErrLimit},
		{"59 columns and a row across", facesOf(columns(59, 0, 0, 3), of(0, 1, 200, 2)), 0, 119, api.OK},
		{"the same and a square", facesOf(columns(59, 0, 0, 3), of(0, 1, 200, 2), of(500, 9, 501, 10)), 0, 120, api.OK},
		{"the same and two squares", facesOf(columns(59, 0, 0, 3), of(0, 1, 200, 2), of(500, 9, 501, 10, 502, 9, 503, 10)), 0, 0, api.ErrLimit},
	} {
		a, e := overlay.Common(c.l, c.set)
		if size := len(a.Rects); e != c.e || e == api.OK && size != c.size || e != api.OK && a.Rects != nil || !region.Valid(a) {
			t.Errorf("%s: %d rectangles, %d; want %d, %d", c.name, size, e, c.size, c.e)
		}
	}
	if l, e := overlay.Areas(empty(200)); len(l) != 200 || e != api.OK {
		t.Errorf("%v, %d", l, e)
	}
	if l, e := overlay.Areas(empty(201)); l != nil || e != api.ErrLimit {
		t.Errorf("%v, %d", l, e)
	}
}

// P7.2: faces with many rectangles on the way to a few, and such with many millions together.
func TestP72ManyRectangles(t *testing.T) {
	var full, lattice []api.Face
	for i := range 20 {
		full = append(full, api.Face{Set: 2*i + 1, Region: columns(120, 240*(i/2)+i%2, 0, 16384)}, api.Face{Set: 2*i + 2, Region: rows(120, 240*i, 0, 2400)})
	}
	for i := range 100 {
		lattice = append(lattice, api.Face{Set: 2*i + 1, Region: columns(120, 160*i, 0, 16384)}, api.Face{Set: 2*i + 2, Region: rows(120, 160*i, 0, 16384)})
	}
	if a, e := overlay.Common(full, 0); !same(a, of(0, 0, 2400, 16384)) || e != api.OK {
		t.Errorf("%v, %d", a, e)
	}
	if a, e := overlay.Common(lattice, 0); a.Rects != nil || e != api.ErrLimit {
		t.Errorf("%v, %d", a, e)
	}
}

// P7.2: too many faces come first, then regions that are not valid, then sets, then the rectangles of the result.
func TestP72Errors(t *testing.T) {
	check := func(name string, l []api.Face, want api.Errno) {
		t.Helper()
		for _, set := range []int{0, 1, 4095, -1, math.MaxInt} {
			if a, e := overlay.Common(l, set); a.Rects != nil || e != want {
				t.Errorf("%s, %d: %v, %d; want %d", name, set, a, e, want)
			}
		}
		if areas, e := overlay.Areas(l); areas != nil || e != want {
			t.Errorf("%s: %v, %d; want %d", name, areas, e, want)
		}
	}
	square := of(0, 0, 1, 1)
	tooMany := []api.Face{{Set: 4094, Region: columns(120, 0, 0, 1)}, {Set: 4095, Region: of(0, 9, 1, 10)}}
	for _, sets := range [][]int{{0}, {-1}, {math.MinInt}, {4096}, {math.MaxInt}, {0, 1}, {-1, 1}, {1, 1}, {4095, 4095}, {2, 1}, {1, 3, 2}, {3, 1, 2}, {1, 2, 2}, {1, 0}, {1, 4096}, {4095, 4096}, {1, -1}, {1, math.MinInt}, {1, math.MaxInt}} {
		var l, bad []api.Face
		for _, set := range sets {
			l = append(l, api.Face{Set: set, Region: square})
			bad = append(bad, api.Face{Set: set})
		}
		check("sets that do not ascend, or are out of range", l, api.ErrInvalid)
		check("the same before too many rectangles", slices.Concat(l, tooMany), api.ErrInvalid)
		check("the same behind too many rectangles", slices.Concat(tooMany, l), api.ErrInvalid)
		check("the same, 201 faces", slices.Concat(bad, empty(201-len(bad))), api.ErrLimit)
		bad[len(bad)-1].Region = of(0, 0, 1, 0)
		check("the same, the last region not valid", bad, api.ErrRegion)
	}
	for _, no := range noRegions() {
		bad := api.Face{Set: 1, Region: no}
		check("a region that is not valid", []api.Face{bad}, api.ErrRegion)
		check("the first of 200", slices.Concat([]api.Face{bad}, make([]api.Face, 199)), api.ErrRegion)
		check("the last of 200", slices.Concat(make([]api.Face, 199), []api.Face{bad}), api.ErrRegion)
		check("the first of 201", slices.Concat([]api.Face{bad}, make([]api.Face, 200)), api.ErrLimit)
		check("the last of 201", slices.Concat(make([]api.Face, 200), []api.Face{bad}), api.ErrLimit)
		check("before too many rectangles", slices.Concat([]api.Face{bad}, tooMany), api.ErrRegion)
		check("behind too many rectangles", slices.Concat(tooMany, []api.Face{bad}), api.ErrRegion)
	}
	if a, e := overlay.Common(tooMany, 4094); a.Rects != nil || e != api.ErrLimit {
		t.Errorf("%v, %d", a, e)
	}
}

// R2 and P7.2: faces stay as they are, with the spare capacity of their regions, and share no memory with a result.
func TestP72KeepsArguments(t *testing.T) {
	a, all := spare(of(0, 0, 4, 1, 0, 1, 3, 2))
	b, more := spare(of(5, 0, 6, 5))
	before, moreBefore := slices.Clone(all), slices.Clone(more)
	l := []api.Face{{Set: 1, Region: a}, {Set: 2}, {Set: 3, Region: b}, {Set: 9}}
	kept := slices.Clone(l)
	for _, faces := range [][]api.Face{l[:1], l[:2], l[:3], l[1:3]} {
		for _, set := range []int{0, 1, 2, 3} {
			first, e := overlay.Common(faces, set)
			second, _ := overlay.Common(faces, set)
			for i := range first.Rects {
				first.Rects[i] = api.Rect{Left: -9}
			}
			first.Rects = append(first.Rects, api.Rect{Left: -9})
			third, _ := overlay.Common(faces, set)
			if e != api.OK || !same(second, third) || !slices.Equal(all, before) || !slices.Equal(more, moreBefore) {
				t.Errorf("%v, %d: %v, %v, %d; %v, %v", faces, set, second, third, e, all, more)
			}
		}
		areas, _ := overlay.Areas(faces)
		areas[0] = [2]int{}
		if again, e := overlay.Areas(faces); again[0] == [2]int{} || e != api.OK || !sameFaces(l, kept) || !slices.Equal(all, before) {
			t.Errorf("%v: %v, %d; %v", faces, again, e, all)
		}
	}
}
