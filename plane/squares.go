package plane

import (
	"slices"

	"landaid/api"
)

// Squares are a set of squares to which rectangles are added, from the lowest ones on and in the same rows from the left, as they come from Pieces.
type Squares struct {
	bands []band // each with a span; the highest one may continue the one below it
}

// Add adds a rectangle that is above all others, or in the same rows as the last one and to the right of it.
func (s *Squares) Add(r api.Rect) {
	if last := len(s.bands) - 1; last < 0 || s.bands[last].low != r.Low {
		s.bands = append(settled(s.bands), band{low: r.Low, high: r.High})
	}
	highest := &s.bands[len(s.bands)-1]
	highest.spans = join(highest.spans, span{r.Left, r.Right})
}

// Over reports whether there are so many bands that the canonical form has more than some rectangles, whatever is still added. It can have more without that, in a few bands.
func (s *Squares) Over(most int) bool { return len(s.bands)-1 > most }

// Rects returns the canonical rectangles of the squares.
func (s *Squares) Rects() []api.Rect { return rectsOf(settled(slices.Clone(s.bands))) }
