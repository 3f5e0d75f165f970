package region

import (
	"cmp"
	"slices"

	"landaid/api"
)

// A span is the squares of a row with left <= x < right.
type span struct{ left, right int }

// A band is the rows low <= y < high, which have the same spans.
type band struct {
	low, high int
	spans     []span
}

// An edge is the left or the right side of a rectangle of list 0 or 1: in the rows low <= y < high, more rectangles of the list, or less, are to the right of it than to the left.
type edge struct {
	x, low, high int
	list, more   int
}

// choose returns the canonical rectangles of the squares that are kept, of those of two lists of proper rectangles.
func choose(a, b []api.Rect, keep func(inA, inB bool) bool) []api.Rect {
	edges := slices.Concat(edgesOf(a, 0), edgesOf(b, 1))
	slices.SortFunc(edges, func(e, f edge) int { return cmp.Compare(e.x, f.x) })
	cuts := cutsOf(edges)
	var bands []band
	// Between two cuts no rectangle begins or ends, so that all rows there are alike.
	for i := 1; i < len(cuts); i++ {
		low, high := cuts[i-1], cuts[i]
		bands = stack(bands, band{low, high, spansOf(edges, low, keep)})
	}
	return rectsOf(bands)
}

// edgesOf returns both sides of each rectangle.
func edgesOf(rects []api.Rect, list int) []edge {
	var edges []edge
	for _, r := range rects {
		edges = append(edges, edge{r.Left, r.Low, r.High, list, 1}, edge{r.Right, r.Low, r.High, list, -1})
	}
	return edges
}

// cutsOf returns the rows where edges begin or end, ascending, each once.
func cutsOf(edges []edge) []int {
	var cuts []int
	for _, e := range edges {
		cuts = append(cuts, e.low, e.high)
	}
	slices.Sort(cuts)
	return slices.Compact(cuts)
}

// spansOf returns the spans of the squares of a row that are kept, by edges that ascend by x.
func spansOf(edges []edge, y int, keep func(inA, inB bool) bool) []span {
	var spans []span
	var covers [2]int // how many rectangles of each list cover the squares from x on
	x := 0
	for _, e := range edges {
		if y < e.low || y >= e.high {
			continue
		}
		if x < e.x && keep(covers[0] > 0, covers[1] > 0) {
			spans = join(spans, span{x, e.x})
		}
		covers[e.list] += e.more
		x = e.x
	}
	return spans
}

// join puts a span behind others, or makes the last one longer.
func join(spans []span, next span) []span {
	if last := len(spans) - 1; last >= 0 && spans[last].right == next.left {
		spans[last].right = next.right
		return spans
	}
	return append(spans, next)
}

// stack puts a band above others, or makes the last one higher.
func stack(bands []band, next band) []band {
	if last := len(bands) - 1; last >= 0 && continues(bands[last], next) {
		bands[last].high = next.high
		return bands
	}
	return append(bands, next)
}

// continues reports whether a band has the rows above those of another one, with the same squares.
func continues(below, next band) bool {
	return below.high == next.low && slices.Equal(below.spans, next.spans)
}

// rectsOf returns the rectangles of bands; rows without squares are a band without any.
func rectsOf(bands []band) []api.Rect {
	var rects []api.Rect
	for _, b := range bands {
		for _, s := range b.spans {
			rects = append(rects, api.Rect{Left: s.left, Low: b.low, Right: s.right, High: b.high})
		}
	}
	return rects
}

// firstBand returns the band of the first of some rectangles, and of those behind it in the same rows.
func firstBand(rects []api.Rect) band {
	first := band{low: rects[0].Low, high: rects[0].High}
	for _, r := range rects {
		if r.Low != first.low || r.High != first.high {
			break
		}
		first.spans = append(first.spans, span{r.Left, r.Right})
	}
	return first
}

// parted reports whether each span begins to the right of the one before, with squares between them.
func parted(spans []span) bool {
	for i := 1; i < len(spans); i++ {
		if spans[i].left <= spans[i-1].right {
			return false
		}
	}
	return true
}
