package outline

import (
	"slices"

	"landaid/api"
)

// ringsOf returns the rings of the edges of a region, in their order.
func ringsOf(edges []edge) [][]api.Point {
	slices.SortFunc(edges, func(e, f edge) int { return byRows(e.from, f.from) })
	out := map[api.Point][]edge{}
	for _, e := range edges {
		out[e.from] = append(out[e.from], e)
	}
	var rings [][]api.Point
	done := map[edge]bool{}
	// The first edge that is not done leads out of the first corner of its ring, since a ring that only comes through a corner has another one before it.
	for _, e := range edges {
		if !done[e] {
			rings = append(rings, follow(e, out, done))
		}
	}
	return rings
}

// follow returns the corners of the ring that begins with an edge, and notes which edges are done.
func follow(first edge, out map[api.Point][]edge, done map[edge]bool) []api.Point {
	var corners []api.Point
	for e := first; ; {
		corners = append(corners, e.from)
		done[e] = true
		e = after(e, out[e.to])
		if e == first {
			return corners
		}
	}
}

// after returns with which one of the edges that lead out of a corner the ring of an edge goes on: with the one to the left, if there are two.
func after(e edge, out []edge) edge {
	for _, next := range out {
		if turnsLeft(e, next) {
			return next
		}
	}
	return out[0]
}

// inside returns the rectangles of the squares inside an odd number of rings, by all corners of the rings; false if they are too many.
func inside(corners []api.Point) ([]api.Rect, bool) {
	slices.SortFunc(corners, byRows)
	var rects []api.Rect
	var sides []int // the vertical edges that cross the rows from low on, without those that are there twice
	low := 0
	for _, p := range odd(corners) {
		rects = append(rects, between(sides, low, p.Y)...)
		if len(rects) > api.MaxRects {
			return nil, false
		}
		low = p.Y
		// In each corner of a ring just one vertical edge begins or ends.
		sides = toggled(sides, p.X)
	}
	return rects, true
}

// odd returns those of ascending points that are there an odd number of times, once.
func odd(points []api.Point) []api.Point {
	var out []api.Point
	for _, p := range points {
		if last := len(out) - 1; last >= 0 && out[last] == p {
			out = out[:last]
			continue
		}
		out = append(out, p)
	}
	return out
}

// between returns the rectangles from each other side to the next one, in the rows low <= y < high, if there are such rows.
func between(sides []int, low, high int) []api.Rect {
	var rects []api.Rect
	if low == high {
		return nil
	}
	for i := 0; i < len(sides); i += 2 {
		rects = append(rects, api.Rect{Left: sides[i], Low: low, Right: sides[i+1], High: high})
	}
	return rects
}

// toggled takes a number out of ascending ones, or puts it among them.
func toggled(numbers []int, n int) []int {
	at, found := slices.BinarySearch(numbers, n)
	if found {
		return slices.Delete(numbers, at, at+1)
	}
	return slices.Insert(numbers, at, n)
}
