package outline_test

import (
	"math"
	"math/rand"
	"slices"

	"landaid/api"
	"landaid/region"
)

// of returns the region with just these rectangles, canonical or not; four numbers each: left, low, right, high.
func of(n ...int) api.Region {
	var out api.Region
	for i := 0; i < len(n); i += 4 {
		out.Rects = append(out.Rects, api.Rect{Left: n[i], Low: n[i+1], Right: n[i+2], High: n[i+3]})
	}
	return out
}

// points returns points, two numbers each.
func points(n ...int) []api.Point {
	var out []api.Point
	for i := 0; i < len(n); i += 2 {
		out = append(out, api.Point{X: n[i], Y: n[i+1]})
	}
	return out
}

// square returns the ring around a square of some squares, from its lower left corner on, with its squares to the left.
func square(left, low, wide int) []api.Point {
	return points(left, low, left+wide, low, left+wide, low+wide, left, low+wide)
}

// comb returns a ring of 4 n corners: around a row of squares, with n teeth of a square above it.
func comb(n, left, low int) []api.Point {
	out := points(left, low, left+2*n-1, low)
	for i := n - 1; i >= 0; i-- {
		out = append(out, points(left+2*i+1, low+2, left+2*i, low+2)...)
		if i > 0 {
			out = append(out, points(left+2*i, low+1, left+2*i-1, low+1)...)
		}
	}
	return out
}

// combRegion returns the squares of a comb.
func combRegion(n, left, low int) api.Region {
	out := of(left, low, left+2*n-1, low+1)
	for i := range n {
		out.Rects = append(out.Rects, of(left+2*i, low+1, left+2*i+1, low+2).Rects...)
	}
	return out
}

// columns returns squares in a row that do not touch, some rows high.
func columns(n, low, high int) api.Region {
	var out api.Region
	for i := range n {
		out.Rects = append(out.Rects, api.Rect{Left: 2 * i, Low: low, Right: 2*i + 1, High: high})
	}
	return out
}

// backwards returns a ring the other way round.
func backwards(r []api.Point) []api.Point {
	out := slices.Clone(r)
	slices.Reverse(out)
	return out
}

// turned returns a ring that begins with a later corner.
func turned(r []api.Point, by int) []api.Point { return slices.Concat(r[by:], r[:by]) }

// same reports whether two regions have the same rectangles.
func same(a, b api.Region) bool { return slices.Equal(a.Rects, b.Rects) }

// sameRings reports whether two lists of rings are equal.
func sameRings(a, b [][]api.Point) bool {
	return slices.EqualFunc(a, b, func(r, s []api.Point) bool { return slices.Equal(r, s) })
}

// wide is how many squares the parts of the grid have on each side that are compared square by square.
const wide = 12

// corners are the lower left corners of such parts: in the corners of the grid, and within it.
var corners = [][2]int{{0, 0}, {api.MaxCoord - wide, 0}, {0, api.MaxCoord - wide}, {api.MaxCoord - wide, api.MaxCoord - wide}, {5000, 700}}

// randomRing returns a ring in the part of the grid from a corner on, whose edges may cross and cover each other.
func randomRing(random *rand.Rand, left, low int) []api.Point {
	n := 2 + random.Intn(4)
	xs, ys := randomCircle(random, n), randomCircle(random, n)
	var out []api.Point
	for i := range n {
		out = append(out, points(left+xs[i], low+ys[i], left+xs[(i+1)%n], low+ys[i])...)
	}
	return turned(out, random.Intn(2))
}

// randomCircle returns numbers from 0 to wide, of which each one differs from the next one, and the last one from the first one.
func randomCircle(random *rand.Rand, n int) []int {
	for {
		var out []int
		for range n {
			out = append(out, random.Intn(wide+1))
		}
		good := true
		for i := range n {
			good = good && out[i] != out[(i+1)%n]
		}
		if good {
			return out
		}
	}
}

// crossings returns how often a line from a square to the left crosses a ring upwards, and downwards.
func crossings(r []api.Point, x, y int) (int, int) {
	up, down := 0, 0
	for i, p := range r {
		q := r[(i+1)%len(r)]
		switch {
		case p.X != q.X || p.X > x:
		case p.Y <= y && y < q.Y:
			up++
		case q.Y <= y && y < p.Y:
			down++
		}
	}
	return up, down
}

// noRegions returns regions that are not valid.
func noRegions() []api.Region {
	return []api.Region{
		of(0, 0, 0, 1),
		of(-1, 0, 1, 1),
		of(0, 0, 1, 16385),
		of(1, 1, 3, 2, 0, 0, 3, 1),
		of(0, 0, 1, 1, 0, 0, 1, 1),
		of(0, 0, 1, 1, 1, 0, 2, 1),
		of(0, 0, 1, 1, 0, 1, 1, 2),
		of(0, 0, 1, 3, 2, 1, 3, 2),
		of(math.MinInt, math.MinInt, math.MaxInt, math.MaxInt),
		of(0, 0, 1, 1, math.MaxInt, 0, math.MinInt, 1),
		columns(121, 0, 1),
	}
}

// regionOfBits returns the squares of a part of the grid, some squares wide and high, by the bits of a number.
func regionOfBits(across, up, bits int) api.Region {
	var l []api.Rect
	for i := range across * up {
		if bits>>i&1 == 1 {
			l = append(l, of(i%across, i/across, i%across+1, i/across+1).Rects...)
		}
	}
	a, _ := region.Of(l)
	return a
}

// randomRegion returns a region in the part of the grid from a corner on.
func randomRegion(random *rand.Rand, left, low int) api.Region {
	var l []api.Rect
	for range random.Intn(12) {
		x, y := random.Intn(wide), random.Intn(wide)
		l = append(l, of(left+x, low+y, left+x+1+random.Intn(min(4, wide-x)), low+y+1+random.Intn(min(4, wide-y))).Rects...)
	}
	a, _ := region.Of(l)
	return a
}
