package plane

import (
	"slices"

	"landaid/api"
)

// An edge is the left or the right side of a rectangle of a list: in the rows low <= y < high, more rectangles of the list, or less, are to the right of it than to the left.
type edge struct {
	x, low, high int
	list, more   int
}

// edgesOf returns both sides of each rectangle of lists.
func edgesOf(lists [][]api.Rect) []edge {
	var edges []edge
	for list, rects := range lists {
		for _, r := range rects {
			edges = append(edges, edge{r.Left, r.Low, r.High, list, 1}, edge{r.Right, r.Low, r.High, list, -1})
		}
	}
	return edges
}

// cutsOf returns the rows where edges begin or end, ascending, each once.
func cutsOf(edges []edge) []int {
	var cuts []int
	for _, e := range edges {
		cuts = append(cuts, e.low, e.high)
	}
	slices.Sort(cuts)
	return slices.Compact(cuts)
}

// spansOf returns the spans of the squares of a row that are kept, by edges that ascend by x.
// It counts in covers how many rectangles of each list cover a square; these are 0 to the left of all edges, and to the right of them again.
func spansOf(edges []edge, y int, covers []int, keep func(set int) bool) []span {
	var spans []span
	x, set := 0, 0
	for _, e := range edges {
		if y < e.low || y >= e.high {
			continue
		}
		if x < e.x && set != 0 && keep(set) {
			spans = join(spans, span{x, e.x})
		}
		covers[e.list] += e.more
		set &^= 1 << e.list
		if covers[e.list] > 0 {
			set |= 1 << e.list
		}
		x = e.x
	}
	return spans
}
