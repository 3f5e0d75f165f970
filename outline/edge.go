package outline

import (
	"cmp"
	"slices"

	"landaid/api"
)

// An edge leads from a corner to the next one.
type edge struct{ from, to api.Point }

// level reports whether an edge is horizontal, and not empty.
func (e edge) level() bool { return e.from.Y == e.to.Y && e.from.X != e.to.X }

// upright reports whether an edge is vertical, and not empty.
func (e edge) upright() bool { return e.from.X == e.to.X && e.from.Y != e.to.Y }

// length returns how many edges of squares a horizontal or vertical edge has.
func (e edge) length() int {
	return max(e.to.X-e.from.X, e.from.X-e.to.X) + max(e.to.Y-e.from.Y, e.from.Y-e.to.Y)
}

// turnsLeft reports whether a line turns left from one edge to the next one.
func turnsLeft(e, next edge) bool {
	return (e.to.X-e.from.X)*(next.to.Y-next.from.Y) > (e.to.Y-e.from.Y)*(next.to.X-next.from.X)
}

// edgesAround returns the edges from each point to the next one, and from the last one to the first one.
func edgesAround(points []api.Point) []edge {
	var edges []edge
	for i, p := range points {
		edges = append(edges, edge{p, points[(i+1)%len(points)]})
	}
	return edges
}

// turning reports whether edges are horizontal and vertical in turn, also the last one and the first one.
func turning(edges []edge) bool {
	before := edges[len(edges)-1]
	for _, e := range edges {
		if !(before.level() && e.upright()) && !(before.upright() && e.level()) {
			return false
		}
		before = e
	}
	return true
}

// byRows compares points by Y, then X.
func byRows(p, q api.Point) int { return cmp.Or(cmp.Compare(p.Y, q.Y), cmp.Compare(p.X, q.X)) }

// byColumns compares points by X, then Y.
func byColumns(p, q api.Point) int { return cmp.Or(cmp.Compare(p.X, q.X), cmp.Compare(p.Y, q.Y)) }

// edgesOf returns the edges of a valid region, which has its squares to their left; they lead from one corner of its rings to the next one.
func edgesOf(a api.Region) []edge {
	counts := countsOf(a.Rects)
	var corners []api.Point
	for p, n := range counts {
		if n != 0 {
			corners = append(corners, p)
		}
	}
	slices.SortFunc(corners, byRows)
	level := edgesAlong(corners, counts, 1)
	slices.SortFunc(corners, byColumns)
	return append(level, edgesAlong(corners, counts, -1)...)
}

// countsOf returns for each corner of rectangles of how many it is the one at the lower left or upper right, less of how many it is one of the others.
// Where this is 0 no line turns: an edge goes on there, or there is none.
func countsOf(rects []api.Rect) map[api.Point]int {
	counts := map[api.Point]int{}
	for _, r := range rects {
		counts[api.Point{X: r.Left, Y: r.Low}]++
		counts[api.Point{X: r.Right, Y: r.Low}]--
		counts[api.Point{X: r.Left, Y: r.High}]--
		counts[api.Point{X: r.Right, Y: r.High}]++
	}
	return counts
}

// edgesAlong returns the edges between corners in the same row, or in the same column.
// The sum of the counts up to a place says where the region is there: on both sides or on none (0), only above it or to the right (1), only below it or to the left (-1); where it is equal to ahead, the edge leads ahead.
func edgesAlong(corners []api.Point, counts map[api.Point]int, ahead int) []edge {
	var edges []edge
	sum := 0
	for i, p := range corners {
		switch sum {
		case ahead:
			edges = append(edges, edge{corners[i-1], p})
		case -ahead:
			edges = append(edges, edge{p, corners[i-1]})
		}
		sum += counts[p]
	}
	return edges
}
