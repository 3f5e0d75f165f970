// Package plane computes with sets of squares of any number of rectangles, within the grid or beyond it. It is no layer; the layers from region on use it.
package plane

import (
	"cmp"
	"slices"

	"landaid/api"
)

// Canonical reports whether proper rectangles are the canonical form of a set of squares.
func Canonical(rects []api.Rect) bool {
	var below band
	for rest := rects; len(rest) > 0; rest = rest[len(below.spans):] {
		next := firstBand(rest)
		if !parted(next.spans) || next.low < below.high || continues(below, next) {
			return false
		}
		below = next
	}
	return true
}

// Choose returns the canonical rectangles of the squares that are kept, of those of at most 62 lists of rectangles. The set of the lists that have a square says whether it is kept: bit i of it stands for list i.
func Choose(keep func(set int) bool, lists ...[]api.Rect) []api.Rect {
	edges := edgesOf(lists)
	slices.SortFunc(edges, func(e, f edge) int { return cmp.Compare(e.x, f.x) })
	cuts := cutsOf(edges)
	covers := make([]int, len(lists))
	var bands []band
	// Between two cuts no rectangle begins or ends, so that all rows there are alike.
	for i := 1; i < len(cuts); i++ {
		low, high := cuts[i-1], cuts[i]
		bands = stack(bands, band{low, high, spansOf(edges, low, covers, keep)})
	}
	return rectsOf(bands)
}
