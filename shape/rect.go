package shape

import "landaid/api"

// joined returns the rectangles that are joined with the one with an index, by edges, and notes that they are taken.
func joined(rects []api.Rect, first int, taken []bool) []api.Rect {
	// There is no capacity behind the first one, so that the others get memory of their own.
	queue := rects[first : first+1 : first+1]
	taken[first] = true
	for i := 0; i < len(queue); i++ {
		for j, r := range rects {
			if !taken[j] && between(queue[i], r) > 0 {
				taken[j] = true
				queue = append(queue, r)
			}
		}
	}
	return queue
}

// between returns how many edges are between two rectangles without common squares.
func between(p, q api.Rect) int {
	width := min(p.Right, q.Right) - max(p.Left, q.Left)
	height := min(p.High, q.High) - max(p.Low, q.Low)
	switch {
	case width == 0:
		return max(height, 0)
	case height == 0:
		return max(width, 0)
	}
	return 0
}

// grown returns rectangles that are greater by some squares on each side.
func grown(rects []api.Rect, by int) []api.Rect {
	var out []api.Rect
	for _, r := range rects {
		out = append(out, api.Rect{Left: r.Left - by, Low: r.Low - by, Right: r.Right + by, High: r.High + by})
	}
	return out
}

// clipped returns the squares of a rectangle that are in the grid.
func clipped(r api.Rect) api.Rect {
	return api.Rect{Left: max(r.Left, 0), Low: max(r.Low, 0), Right: min(r.Right, api.MaxCoord), High: min(r.High, api.MaxCoord)}
}
