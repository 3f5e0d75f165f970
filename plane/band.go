package plane

import (
	"slices"

	"landaid/api"
)

// A span is the squares of a row with left <= x < right.
type span struct{ left, right int }

// A band is the rows low <= y < high, which have the same spans.
type band struct {
	low, high int
	spans     []span
}

// firstBand returns the band of the first of some rectangles, and of those behind it in the same rows.
func firstBand(rects []api.Rect) band {
	first := band{low: rects[0].Low, high: rects[0].High}
	for _, r := range rects {
		if r.Low != first.low || r.High != first.high {
			break
		}
		first.spans = append(first.spans, span{r.Left, r.Right})
	}
	return first
}

// parted reports whether each span begins to the right of the one before, with squares between them.
func parted(spans []span) bool {
	for i := 1; i < len(spans); i++ {
		if spans[i].left <= spans[i-1].right {
			return false
		}
	}
	return true
}

// continues reports whether a band has the rows above those of another one, with the same squares.
func continues(below, next band) bool {
	return below.high == next.low && slices.Equal(below.spans, next.spans)
}

// join puts a span behind others, or makes the last one longer.
func join(spans []span, next span) []span {
	if last := len(spans) - 1; last >= 0 && spans[last].right == next.left {
		spans[last].right = next.right
		return spans
	}
	return append(spans, next)
}

// settled returns bands of which the highest one is not apart from the one below it, if it continues that one.
func settled(bands []band) []band {
	last := len(bands) - 1
	if last < 1 || !continues(bands[last-1], bands[last]) {
		return bands
	}
	bands[last-1].high = bands[last].high
	return bands[:last]
}

// rectsOf returns the rectangles of bands.
func rectsOf(bands []band) []api.Rect {
	var rects []api.Rect
	for _, b := range bands {
		for _, s := range b.spans {
			rects = append(rects, api.Rect{Left: s.left, Low: b.low, Right: s.right, High: b.high})
		}
	}
	return rects
}
