// Package plane computes with sets of squares of any number of rectangles, within the grid or beyond it. It is no layer; the layers from region on use it.
package plane

import (
	"iter"

	"landaid/api"
)

// Canonical reports whether proper rectangles are the canonical form of a set of squares.
func Canonical(rects []api.Rect) bool {
	var below band
	for rest := rects; len(rest) > 0; rest = rest[len(below.spans):] {
		next := firstBand(rest)
		if !parted(next.spans) || next.low < below.high || continues(below, next) {
			return false
		}
		below = next
	}
	return true
}

// Choose returns the canonical rectangles of the squares that are kept, of those of at most 62 lists of rectangles. The set of the lists that have a square says whether it is kept, as for Pieces.
func Choose(keep func(set int) bool, lists ...[]api.Rect) []api.Rect {
	var kept Squares
	for set, piece := range Pieces(lists...) {
		if keep(set) {
			kept.Add(piece)
		}
	}
	return kept.Rects()
}

// Limited returns the region of canonical rectangles; ErrLimit if they are more than a region may have.
func Limited(rects []api.Rect) (api.Region, api.Errno) {
	if len(rects) > api.MaxRects {
		return api.Region{}, api.ErrLimit
	}
	return api.Region{Rects: rects}, api.OK
}

// Pieces returns the squares of at most 62 lists of rectangles, cut into rectangles that do not overlap, from the lowest ones on and in the same rows from the left. With each one comes the set of the lists that have its squares: bit i of it stands for list i.
func Pieces(lists ...[]api.Rect) iter.Seq2[int, api.Rect] {
	return func(yield func(set int, piece api.Rect) bool) {
		rest := edgesOf(lists)
		cuts := cutsOf(rest)
		var row []edge
		// Between two cuts no rectangle begins or ends, so that all rows there are alike.
		for i := 1; i < len(cuts); i++ {
			low, high := cuts[i-1], cuts[i]
			row, rest = rise(row, rest, low)
			for set, s := range spansOf(row, len(lists)) {
				if !yield(set, api.Rect{Left: s.left, Low: low, Right: s.right, High: high}) {
					return
				}
			}
		}
	}
}
