package outline_test

import (
	"math"
	"math/rand"
	"slices"
	"testing"

	"landaid/api"
	"landaid/outline"
)

// P5.1: rings, and their areas: positive if the squares are to the left, and with more weight where the ring goes round more often.
func TestP51Areas(t *testing.T) {
	bent := points(0, 0, 2, 0, 2, 1, 1, 1, 1, 2, 0, 2)
	for _, c := range []struct {
		r    []api.Point
		want int
	}{
		{square(0, 0, 1), 1},
		{square(7, 3, 5), 25},
		{backwards(square(7, 3, 5)), -25},
		{turned(square(7, 3, 5), 1), 25},
		{turned(square(7, 3, 5), 2), 25},
		{turned(square(7, 3, 5), 3), 25},
		{points(0, 0, 7, 0, 7, 2, 0, 2), 14},
		{points(0, 0, 0, 2, 7, 2, 7, 0), -14},
		{bent, 3},
		{backwards(bent), -3},
		{square(0, 0, api.MaxCoord), 1 << 28},
		{backwards(square(0, 0, api.MaxCoord)), -1 << 28},
		{square(16383, 16383, 1), 1},
		{points(0, 0, 1, 0, 1, 2, 2, 2, 2, 1, 0, 1), 0},             // an eight
		{points(0, 0, 2, 0, 2, 1, 0, 1, 0, 0, 2, 0, 2, 1, 0, 1), 4}, // twice around
		{points(0, 0, 5, 0, 5, 1, 0, 1, 0, 0, 5, 0, 5, 1, 3, 1, 3, 0, 4, 0, 4, 1, 0, 1), 5 + 6}, // over its own edges
		{comb(100, 0, 0), 299},
		{backwards(comb(100, 16185, 16382)), -299},
	} {
		if e := outline.Ring(c.r); e != api.OK {
			t.Errorf("Ring(%v): %d", c.r, e)
		}
		if n, e := outline.Signed(c.r); n != c.want || e != api.OK {
			t.Errorf("Signed(%v): %d, %d; want %d", c.r, n, e, c.want)
		}
	}
}

// P5.1: areas of random rings, against counting how often they go around each square.
func TestP51AreasAgainstNaive(t *testing.T) {
	random := rand.New(rand.NewSource(51))
	for range 500 {
		for _, corner := range corners {
			r := randomRing(random, corner[0], corner[1])
			want := 0
			for i := range wide * wide {
				up, down := crossings(r, corner[0]+i%wide, corner[1]+i/wide)
				want += down - up // to the right of an edge that leads down there are the squares to its left
			}
			if n, e := outline.Signed(r); n != want || e != api.OK || outline.Ring(r) != api.OK {
				t.Fatalf("Signed(%v): %d, %d; want %d", r, n, e, want)
			}
		}
	}
}

// P5.1: lists that are no rings, each by one rule alone.
func TestP51NoRings(t *testing.T) {
	for _, c := range []struct {
		r    []api.Point
		want api.Errno
	}{
		{nil, api.ErrRing},
		{points(0, 0), api.ErrRing},
		{points(0, 0, 1, 0), api.ErrRing},
		{points(0, 0, 1, 0, 1, 1), api.ErrRing},
		{comb(101, 0, 0), api.ErrLimit},
		{append(comb(100, 0, 0), api.Point{}), api.ErrLimit},
		{points(0, 0, 1, 0, 1, 1, -1, 1, -1, 2, 0, 2), api.ErrRange},
		{points(0, 0, 2, 0, 2, -1, 0, -1), api.ErrRange},
		{points(0, 0, 16385, 0, 16385, 1, 0, 1), api.ErrRange},
		{points(0, 0, 1, 0, 1, 16385, 0, 16385), api.ErrRange},
		{points(math.MinInt, 0, 1, 0, 1, 1, math.MinInt, 1), api.ErrRange},
		{points(0, math.MaxInt, 1, math.MaxInt, 1, 1, 0, 1), api.ErrRange},
		{points(0, 0, 1, 1, 0, 2, 0, 1), api.ErrRing},                      // edges that lean
		{points(0, 0, 2, 0, 3, 2, 0, 2), api.ErrRing},                      // one that leans, between horizontal ones
		{points(0, 0, 2, 1, 2, 3, 0, 3), api.ErrRing},                      // one that leans, between vertical ones
		{points(0, 0, 2, 0, 2, 2, 1, 2), api.ErrRing},                      // the last one leans
		{points(1, 0, 2, 0, 2, 2, 0, 2), api.ErrRing},                      // the last one leans
		{points(0, 0, 0, 0, 0, 0, 0, 0), api.ErrRing},                      // empty ones
		{points(0, 0, 2, 0, 2, 0, 0, 0), api.ErrRing},                      // empty ones between others
		{points(0, 0, 0, 0, 0, 2, 0, 2), api.ErrRing},                      // the same, upright
		{points(0, 0, 2, 0, 2, 2, 0, 2, 0, 0, 0, 0), api.ErrRing},          // two that are empty
		{points(0, 0, 1, 0, 2, 0, 2, 1, 0, 1, 0, 1), api.ErrRing},          // a straight corner, and an empty edge
		{points(0, 0, 1, 0, 2, 0, 2, 1, 0, 1), api.ErrRing},                // a straight corner
		{points(1, 0, 2, 0, 2, 1, 0, 1, 0, 0), api.ErrRing},                // the first corner is straight
		{points(0, 1, 0, 0, 2, 0, 2, 2, 0, 2), api.ErrRing},                // the same, upright
		{points(0, 0, 1, 0, 2, 0, 2, 1, 1, 1, 0, 1), api.ErrRing},          // two straight corners
		{points(0, 0, 2, 0, 1, 0, 1, 1, 0, 1, 0, 2), api.ErrRing},          // there and back
		{points(0, 0, 3, 0, 3, 3, 1, 3, 1, 4, 2, 4, 2, 3), api.ErrRing},    // not closed by one edge
		{points(0, 0, 0, 2, 0, 4, 3, 4, 3, 2, 3, 0), api.ErrRing},          // two straight corners, upright
		{points(0, 0, 16384, 0, 16384, 16384, 16384, 16384), api.ErrRing},  // an empty edge in a corner of the grid
		{slices.Repeat(points(0, 0, 1, 0, 1, 1, 0, 1), 100), api.OK},       // 400 corners
		{slices.Repeat(points(0, 0, 1, 0, 1, 1, 0, 1), 101), api.ErrLimit}, // 404 corners
	} {
		if e := outline.Ring(c.r); e != c.want {
			t.Errorf("Ring(%v): %d, want %d", c.r, e, c.want)
		}
		if n, e := outline.Signed(c.r); e != c.want || e != api.OK && n != 0 {
			t.Errorf("Signed(%v): %d, %d; want %d", c.r, n, e, c.want)
		}
	}
}

// P5.1: of several errors the first one: too few corners, too many, out of range, edges.
func TestP51ErrorsInOrder(t *testing.T) {
	for _, c := range []struct {
		r    []api.Point
		want api.Errno
	}{
		{points(-1, 0, 1, 0, 16385, 3), api.ErrRing},
		{slices.Repeat(points(-1, 5), 401), api.ErrLimit},
		{slices.Repeat(points(-1, 5), 400), api.ErrRange},
		{points(0, 0, 1, 1, 2, 2, 16385, 3), api.ErrRange},
		{points(0, 0, 0, 0, 0, 0, 0, -1), api.ErrRange},
		{slices.Repeat(points(1, 5), 401), api.ErrLimit},
		{slices.Repeat(points(1, 5), 400), api.ErrRing},
	} {
		n, e := outline.Signed(c.r)
		if outline.Ring(c.r) != c.want || e != c.want || n != 0 {
			t.Errorf("%v: %d, %d, %d; want %d", c.r, outline.Ring(c.r), n, e, c.want)
		}
	}
}

// R2 and P5.1: a ring stays as it is, with its spare capacity.
func TestP51KeepsArguments(t *testing.T) {
	r := append(square(0, 0, 2), points(7, 7, 8, 8)...)
	before := slices.Clone(r)
	n, e := outline.Signed(r[:4])
	if n != 4 || e != api.OK || outline.Ring(r[:4]) != api.OK || !slices.Equal(r, before) {
		t.Errorf("%d, %d, %v", n, e, r)
	}
}
