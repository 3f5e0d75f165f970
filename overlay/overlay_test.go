package overlay_test

import (
	"math"
	"math/rand"
	"slices"

	"landaid/api"
	"landaid/region"
)

// of returns the region with just these rectangles, canonical or not; four numbers each: left, low, right, high.
func of(n ...int) api.Region {
	var out api.Region
	for i := 0; i < len(n); i += 4 {
		out.Rects = append(out.Rects, api.Rect{Left: n[i], Low: n[i+1], Right: n[i+2], High: n[i+3]})
	}
	return out
}

// columns returns columns from one on, of which each one is two behind the one before.
func columns(n, left, low, high int) api.Region {
	var out api.Region
	for i := range n {
		out.Rects = append(out.Rects, api.Rect{Left: left + 2*i, Low: low, Right: left + 2*i + 1, High: high})
	}
	return out
}

// rows returns rows from one on, of which each one is two above the one before.
func rows(n, low, left, right int) api.Region {
	var out api.Region
	for i := range n {
		out.Rects = append(out.Rects, api.Rect{Left: left, Low: low + 2*i, Right: right, High: low + 2*i + 1})
	}
	return out
}

// together returns the region with the rectangles of several ones, canonical or not.
func together(l ...api.Region) api.Region {
	var out api.Region
	for _, a := range l {
		out.Rects = append(out.Rects, a.Rects...)
	}
	return out
}

// same reports whether two regions have the same rectangles.
func same(a, b api.Region) bool { return slices.Equal(a.Rects, b.Rects) }

// sameFaces reports whether two lists of faces are equal.
func sameFaces(a, b []api.Face) bool {
	return slices.EqualFunc(a, b, func(f, g api.Face) bool { return f.Set == g.Set && same(f.Region, g.Region) })
}

// wide is how many squares the parts of the grid have on each side that are compared square by square.
const wide = 8

// corners are the lower left corners of such parts: in the corners of the grid, and within it.
var corners = []api.Point{{X: 0, Y: 0}, {X: api.MaxCoord - wide, Y: 0}, {X: 0, Y: api.MaxCoord - wide}, {X: api.MaxCoord - wide, Y: api.MaxCoord - wide}, {X: 5000, Y: 700}}

// squaresOf returns all squares of the part of the grid with a lower left corner.
func squaresOf(corner api.Point) []api.Point {
	var out []api.Point
	for i := range wide * wide {
		out = append(out, api.Point{X: corner.X + i%wide, Y: corner.Y + i/wide})
	}
	return out
}

// regionWith returns the region of some squares.
func regionWith(squares []api.Point) api.Region {
	var l []api.Rect
	for _, p := range squares {
		l = append(l, api.Rect{Left: p.X, Low: p.Y, Right: p.X + 1, High: p.Y + 1})
	}
	a, _ := region.Of(l)
	return a
}

// randomRegion returns a region of up to some rectangles in the part of the grid with a lower left corner.
func randomRegion(random *rand.Rand, corner api.Point, most int) api.Region {
	var l []api.Rect
	for range random.Intn(most + 1) {
		x, y := random.Intn(wide), random.Intn(wide)
		r := api.Rect{Left: corner.X + x, Low: corner.Y + y}
		r.Right, r.High = r.Left+1+random.Intn(wide-x), r.Low+1+random.Intn(wide-y)
		l = append(l, r)
	}
	a, _ := region.Of(l)
	return a
}

// randomRegions returns up to some regions in such a part.
func randomRegions(random *rand.Rand, corner api.Point, most int) []api.Region {
	var l []api.Region
	for range random.Intn(most + 1) {
		l = append(l, randomRegion(random, corner, 4))
	}
	return l
}

// smallRegions returns the regions of all sets of some columns and rows of squares, by the bits of a number.
func smallRegions(across, up int) []api.Region {
	var out []api.Region
	for bits := range 1 << (across * up) {
		var squares []api.Point
		for i := range across * up {
			if bits>>i&1 == 1 {
				squares = append(squares, api.Point{X: i % across, Y: i / across})
			}
		}
		out = append(out, regionWith(squares))
	}
	return out
}

// noRegions returns regions that are not valid.
func noRegions() []api.Region {
	return []api.Region{
		of(0, 0, 0, 1),
		of(1, 0, 0, 1),
		of(-1, 0, 1, 1),
		of(0, -1, 1, 1),
		of(0, 0, 16385, 1),
		of(0, 0, 1, 16385),
		of(1, 1, 3, 2, 0, 0, 3, 1),
		of(0, 0, 1, 1, 0, 0, 1, 1),
		of(0, 0, 1, 1, 1, 0, 2, 1),
		of(0, 0, 1, 1, 0, 1, 1, 2),
		of(0, 0, 1, 3, 2, 1, 3, 2),
		of(math.MinInt, math.MinInt, math.MaxInt, math.MaxInt),
		of(math.MaxInt, math.MaxInt, math.MinInt, math.MinInt),
		of(0, 0, 1, 1, math.MaxInt, 0, math.MinInt, 1),
		columns(121, 0, 0, 1),
	}
}

// with returns some empty regions, of which one, by its index, is another one.
func with(a api.Region, n, index int) []api.Region {
	l := make([]api.Region, n)
	l[index] = a
	return l
}

// spare returns a region whose list has more capacity, with rectangles in it, and the whole list.
func spare(a api.Region) (api.Region, []api.Rect) {
	all := append(slices.Clone(a.Rects), of(1, 2, 3, 4, 5, 6, 7, 8).Rects...)
	return api.Region{Rects: all[:len(a.Rects)]}, all
}
