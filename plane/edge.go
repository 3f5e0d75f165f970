package plane

import (
	"cmp"
	"iter"
	"slices"

	"landaid/api"
)

// An edge is the left or the right side of a rectangle of a list: in the rows low <= y < high, more rectangles of the list, or less, are to the right of it than to the left.
type edge struct {
	x, low, high int
	list, more   int
}

// edgesOf returns both sides of each rectangle of lists, ascending by their lowest rows, then by x.
func edgesOf(lists [][]api.Rect) []edge {
	var edges []edge
	for list, rects := range lists {
		for _, r := range rects {
			edges = append(edges, edge{r.Left, r.Low, r.High, list, 1}, edge{r.Right, r.Low, r.High, list, -1})
		}
	}
	slices.SortFunc(edges, func(e, f edge) int { return cmp.Or(cmp.Compare(e.low, f.low), cmp.Compare(e.x, f.x)) })
	return edges
}

// cutsOf returns the rows where edges begin or end, ascending, each once.
func cutsOf(edges []edge) []int {
	var cuts []int
	for _, e := range edges {
		cuts = append(cuts, e.low, e.high)
	}
	slices.Sort(cuts)
	return slices.Compact(cuts)
}

// rise makes of the edges of a row, which ascend by x, those of the row y above it, by the edges that begin in the row y or above it. It returns these edges, and those that begin above the row y.
func rise(row, rest []edge, y int) ([]edge, []edge) {
	first := 0
	for first < len(rest) && rest[first].low == y {
		first++
	}
	row = insert(row, rest[:first])
	return slices.DeleteFunc(row, func(e edge) bool { return e.high <= y }), rest[first:]
}

// insert puts edges among those of a row; both ascend by x. It begins at the end, so that what is to the left of them stays where it is.
func insert(row, more []edge) []edge {
	i, j := len(row)-1, len(more)-1
	row = append(row, more...)
	for to := len(row) - 1; j >= 0; to-- {
		if i >= 0 && row[i].x > more[j].x {
			row[to] = row[i]
			i--
		} else {
			row[to] = more[j]
			j--
		}
	}
	return row
}

// spansOf returns the spans of a row, by its edges, which ascend by x, each with the set of the lists that have its squares; those in no list are left out.
func spansOf(row []edge, lists int) iter.Seq2[int, span] {
	return func(yield func(set int, s span) bool) {
		covers := make([]int, lists) // how many rectangles of each list cover the squares behind the last edge
		x, set := 0, 0
		for _, e := range row {
			covers[e.list] += e.more
			next := set &^ (1 << e.list)
			if covers[e.list] > 0 {
				next |= 1 << e.list
			}
			if next == set {
				continue
			}
			if x < e.x && set != 0 && !yield(set, span{x, e.x}) {
				return
			}
			x, set = e.x, next
		}
	}
}
