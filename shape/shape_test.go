package shape_test

import (
	"math"
	"math/rand"
	"slices"

	"landaid/api"
	"landaid/region"
)

// of returns the region with just these rectangles, canonical or not; four numbers each: left, low, right, high.
func of(n ...int) api.Region {
	var out api.Region
	for i := 0; i < len(n); i += 4 {
		out.Rects = append(out.Rects, api.Rect{Left: n[i], Low: n[i+1], Right: n[i+2], High: n[i+3]})
	}
	return out
}

// together returns the region with the rectangles of several ones, canonical or not.
func together(l ...api.Region) api.Region {
	var out api.Region
	for _, a := range l {
		out.Rects = append(out.Rects, a.Rects...)
	}
	return out
}

// columns returns squares of a row, of which each one is some squares behind the one before; some rows high.
func columns(n, left, apart, low, high int) api.Region {
	var out api.Region
	for i := range n {
		out.Rects = append(out.Rects, api.Rect{Left: left + apart*i, Low: low, Right: left + apart*i + 1, High: high})
	}
	return out
}

// same reports whether two regions have the same rectangles.
func same(a, b api.Region) bool { return slices.Equal(a.Rects, b.Rects) }

// has reports whether a region has a square.
func has(a api.Region, x, y int) bool {
	return slices.ContainsFunc(a.Rects, func(r api.Rect) bool { return r.Left <= x && x < r.Right && r.Low <= y && y < r.High })
}

// canonical returns the region of the squares of a part of the grid that are in a set, row by row.
func canonical(part api.Rect, in func(x, y int) bool) api.Region {
	var out, below []api.Rect
	for y := part.Low; y < part.High; y++ {
		var row []api.Rect
		for x := part.Left; x < part.Right; x++ {
			switch last := len(row) - 1; {
			case !in(x, y):
			case last >= 0 && row[last].Right == x:
				row[last].Right++
			default:
				row = append(row, api.Rect{Left: x, Low: y, Right: x + 1, High: y + 1})
			}
		}
		if slices.EqualFunc(below, row, func(r, s api.Rect) bool { return r.Left == s.Left && r.Right == s.Right }) {
			for i := range below {
				below[i].High++
			}
			continue
		}
		out = append(out, row...)
		below = out[len(out)-len(row):]
	}
	return api.Region{Rects: out}
}

// wide is how many squares the parts of the grid have on each side that are compared square by square.
const wide = 12

// corners are the lower left corners of such parts: in the corners of the grid, and within it.
var corners = [][2]int{{0, 0}, {api.MaxCoord - wide, 0}, {0, api.MaxCoord - wide}, {api.MaxCoord - wide, api.MaxCoord - wide}, {5000, 700}}

// partAt returns the part of the grid with a lower left corner, with some squares around it that are in the grid.
func partAt(corner [2]int, around int) api.Rect {
	return api.Rect{
		Left: max(corner[0]-around, 0), Low: max(corner[1]-around, 0),
		Right: min(corner[0]+wide+around, api.MaxCoord), High: min(corner[1]+wide+around, api.MaxCoord),
	}
}

// randomRegion returns a region of up to some rectangles in the part of the grid with a lower left corner.
func randomRegion(random *rand.Rand, corner [2]int, most, side int) api.Region {
	var l []api.Rect
	for range random.Intn(most + 1) {
		x, y := random.Intn(wide), random.Intn(wide)
		r := api.Rect{Left: corner[0] + x, Low: corner[1] + y}
		r.Right = r.Left + 1 + random.Intn(min(side, wide-x))
		r.High = r.Low + 1 + random.Intn(min(side, wide-y))
		l = append(l, r)
	}
	return canonical(partAt(corner, 0), func(x, y int) bool { return has(api.Region{Rects: l}, x, y) })
}

// regionOfBits returns the squares of a part of the grid, some squares wide and high, by the bits of a number.
func regionOfBits(across, up, bits int) api.Region {
	return canonical(api.Rect{Right: across, High: up}, func(x, y int) bool { return bits>>(y*across+x)&1 == 1 })
}

// noRegions returns regions that are not valid.
func noRegions() []api.Region {
	return []api.Region{
		of(0, 0, 0, 1),
		of(1, 0, 0, 1),
		of(-1, 0, 1, 1),
		of(0, -1, 1, 1),
		of(0, 0, 16385, 1),
		of(0, 0, 1, 16385),
		of(1, 1, 3, 2, 0, 0, 3, 1),
		of(0, 0, 1, 1, 0, 0, 1, 1),
		of(0, 0, 1, 1, 1, 0, 2, 1),
		of(0, 0, 1, 1, 0, 1, 1, 2),
		of(0, 0, 1, 3, 2, 1, 3, 2),
		of(math.MinInt, math.MinInt, math.MaxInt, math.MaxInt),
		of(math.MaxInt, math.MaxInt, math.MinInt, math.MinInt),
		of(0, 0, 1, 1, math.MaxInt, 0, math.MinInt, 1),
		columns(121, 0, 2, 0, 1),
	}
}

// union returns the squares of two regions.
func union(a, b api.Region) api.Region {
	u, _ := region.Union(a, b)
	return u
}

// spare returns a region whose list has more capacity, with rectangles in it, and the whole list.
func spare(a api.Region) (api.Region, []api.Rect) {
	all := append(slices.Clone(a.Rects), of(1, 2, 3, 4, 5, 6, 7, 8).Rects...)
	return api.Region{Rects: all[:len(a.Rects)]}, all
}
