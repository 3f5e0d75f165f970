package outline_test

import (
	"cmp"
	"math/rand"
	"slices"
	"testing"

	"landaid/api"
	"landaid/outline"
	"landaid/region"
)

// P5.3: rings of some regions, and the length of their borders.
func TestP53Rings(t *testing.T) {
	for _, c := range []struct {
		a      api.Region
		rings  [][]api.Point
		border int
	}{
		{of(), nil, 0},
		{of(0, 0, 1, 1), [][]api.Point{square(0, 0, 1)}, 4},
		{of(3, 4, 13, 14), [][]api.Point{square(3, 4, 10)}, 40},
		{of(0, 0, 16384, 16384), [][]api.Point{square(0, 0, 16384)}, 4 * 16384},
		{of(16383, 16383, 16384, 16384), [][]api.Point{square(16383, 16383, 1)}, 4},
		{of(0, 0, 1, 1, 2, 0, 3, 1), [][]api.Point{square(0, 0, 1), square(2, 0, 1)}, 8},
		{of(2, 0, 3, 1, 0, 2, 1, 3), [][]api.Point{square(2, 0, 1), square(0, 2, 1)}, 8},
		// squares that touch in a corner, one way and the other
		{of(0, 0, 1, 1, 1, 1, 2, 2), [][]api.Point{square(0, 0, 1), square(1, 1, 1)}, 8},
		{of(1, 0, 2, 1, 0, 1, 1, 2), [][]api.Point{square(1, 0, 1), square(0, 1, 1)}, 8},
		// a hole: its ring goes the other way round, and up from its first corner
		{of(0, 0, 4, 1, 0, 1, 1, 3, 3, 1, 4, 3, 0, 3, 4, 4), [][]api.Point{square(0, 0, 4), points(1, 1, 1, 3, 3, 3, 3, 1)}, 24},
		// two holes that touch in a corner have one ring, one way and the other
		{of(0, 0, 4, 1, 0, 1, 1, 2, 2, 1, 4, 2, 0, 2, 2, 3, 3, 2, 4, 3, 0, 3, 4, 4), [][]api.Point{square(0, 0, 4), points(1, 1, 1, 2, 2, 2, 2, 3, 3, 3, 3, 2, 2, 2, 2, 1)}, 24},
		{of(0, 0, 4, 1, 0, 1, 2, 2, 3, 1, 4, 2, 0, 2, 1, 3, 2, 2, 4, 3, 0, 3, 4, 4), [][]api.Point{square(0, 0, 4), points(2, 1, 2, 2, 1, 2, 1, 3, 2, 3, 2, 2, 3, 2, 3, 1)}, 24},
		// a bay that nearly is a hole: its corner and the outside touch, and a ring comes through there twice
		{of(1, 0, 3, 1, 0, 1, 1, 2, 2, 1, 3, 2, 0, 2, 3, 3), [][]api.Point{points(1, 0, 3, 0, 3, 3, 0, 3, 0, 1, 1, 1, 1, 2, 2, 2, 2, 1, 1, 1)}, 16},
		// an island in a hole
		{of(0, 0, 5, 1, 0, 1, 1, 2, 4, 1, 5, 2, 0, 2, 1, 3, 2, 2, 3, 3, 4, 2, 5, 3, 0, 3, 1, 4, 4, 3, 5, 4, 0, 4, 5, 5), [][]api.Point{square(0, 0, 5), points(1, 1, 1, 4, 4, 4, 4, 1), square(2, 2, 1)}, 36},
		// lines that go on straight through bands
		{of(0, 0, 1, 5, 3, 0, 4, 5), [][]api.Point{points(0, 0, 1, 0, 1, 5, 0, 5), points(3, 0, 4, 0, 4, 5, 3, 5)}, 24},
		{of(0, 0, 3, 1, 0, 1, 1, 2, 2, 1, 3, 2), [][]api.Point{points(0, 0, 3, 0, 3, 2, 2, 2, 2, 1, 1, 1, 1, 2, 0, 2)}, 12},
		{of(0, 0, 1, 1, 2, 0, 3, 1, 0, 1, 3, 2), [][]api.Point{points(0, 0, 1, 0, 1, 1, 2, 1, 2, 0, 3, 0, 3, 2, 0, 2)}, 12},
		// the lowest corner is not the one farthest to the left
		{of(1, 0, 2, 1, 0, 1, 3, 2), [][]api.Point{points(1, 0, 2, 0, 2, 1, 3, 1, 3, 2, 0, 2, 0, 1, 1, 1)}, 10},
		{combRegion(100, 0, 0), [][]api.Point{comb(100, 0, 0)}, 2*200 + 200},
	} {
		if l, e := outline.Rings(c.a); !sameRings(l, c.rings) || e != api.OK {
			t.Errorf("Rings(%v): %v, %d; want %v", c.a, l, e, c.rings)
		}
		if n, e := outline.Border(c.a); n != c.border || e != api.OK {
			t.Errorf("Border(%v): %d, %d; want %d", c.a, n, e, c.border)
		}
	}
}

// a step is an edge of a square, with which a ring goes on.
type step struct{ at, by api.Point }

// stepsOf returns the edges of squares between a region and the others, with the squares of the region to the left.
func stepsOf(a api.Region) map[step]bool {
	steps := map[step]bool{}
	for _, r := range a.Rects {
		for x := r.Left; x < r.Right; x++ {
			for y := r.Low; y < r.High; y++ {
				steps[step{api.Point{X: x, Y: y}, api.Point{X: 1}}] = !region.Has(a, x, y-1)
				steps[step{api.Point{X: x + 1, Y: y}, api.Point{Y: 1}}] = !region.Has(a, x+1, y)
				steps[step{api.Point{X: x + 1, Y: y + 1}, api.Point{X: -1}}] = !region.Has(a, x, y+1)
				steps[step{api.Point{X: x, Y: y + 1}, api.Point{Y: -1}}] = !region.Has(a, x-1, y)
			}
		}
	}
	for s, there := range steps {
		if !there {
			delete(steps, s)
		}
	}
	return steps
}

// walked returns the rings of a region, edge of a square by edge of a square.
func walked(a api.Region) [][]api.Point {
	steps := stepsOf(a)
	var rings [][]api.Point
	for len(steps) > 0 {
		var all []step
		for s := range steps {
			all = append(all, s)
		}
		s := slices.MinFunc(all, func(p, q step) int {
			return cmp.Or(cmp.Compare(p.at.Y, q.at.Y), cmp.Compare(p.at.X, q.at.X))
		})
		r := []api.Point{s.at}
		for steps[s] {
			delete(steps, s)
			at := api.Point{X: s.at.X + s.by.X, Y: s.at.Y + s.by.Y}
			left, right := api.Point{X: -s.by.Y, Y: s.by.X}, api.Point{X: s.by.Y, Y: -s.by.X}
			switch {
			case steps[step{at, left}]:
				r, s = append(r, at), step{at, left}
			case steps[step{at, s.by}]:
				s = step{at, s.by}
			case steps[step{at, right}]:
				r, s = append(r, at), step{at, right}
			}
		}
		rings = append(rings, r)
	}
	return rings
}

// compareWithNaive compares the rings of a region, and its border, with those that are walked square by square, and checks the consequences.
func compareWithNaive(t *testing.T, a api.Region) {
	t.Helper()
	l, e := outline.Rings(a)
	if want := walked(a); !sameRings(l, want) || e != api.OK {
		t.Fatalf("Rings(%v): %v, %d; want %v", a, l, e, want)
	}
	n, e := outline.Border(a)
	if want := len(stepsOf(a)); n != want || e != api.OK {
		t.Fatalf("Border(%v): %d, %d; want %d", a, n, e, want)
	}
	if again, e := outline.Fill(l); !same(again, a) || e != api.OK {
		t.Fatalf("Fill(%v): %v, %d; want %v", l, again, e, a)
	}
	sum := 0
	for _, r := range l {
		part, e := outline.Signed(r)
		if e != api.OK {
			t.Fatalf("Signed(%v): %d", r, e)
		}
		sum += part
	}
	if sum != region.Area(a) {
		t.Fatalf("%v: the rings have %d squares", a, sum)
	}
}

// P5.3: all sets of 4 by 3 squares, against rings that are walked square by square.
func TestP53AllSmallSets(t *testing.T) {
	for bits := range 1 << 12 {
		compareWithNaive(t, regionOfBits(4, 3, bits))
	}
}

// P5.3: random regions, also in the corners of the grid, against rings that are walked square by square.
func TestP53RingsAgainstNaive(t *testing.T) {
	random := rand.New(rand.NewSource(53))
	for range 300 {
		for _, corner := range corners {
			compareWithNaive(t, randomRegion(random, corner[0], corner[1]))
		}
	}
}

// P5.3: as many rings and corners as are permitted, and one more; Border has no such limits.
func TestP53AtLimits(t *testing.T) {
	for _, c := range []struct {
		name   string
		a      api.Region
		rings  int
		want   api.Errno
		border int
	}{
		{"60 rings", columns(60, 0, 1), 60, api.OK, 240},
		{"61 rings", columns(61, 0, 1), 0, api.ErrLimit, 244},
		{"120 rings", columns(120, 0, 1), 0, api.ErrLimit, 480},
		{"400 corners", combRegion(100, 0, 0), 1, api.OK, 600},
		{"404 corners", combRegion(101, 0, 0), 0, api.ErrLimit, 606},
		{"404 corners, second", api.Region{Rects: append(of(0, 0, 1, 1).Rects, combRegion(101, 0, 3).Rects...)}, 0, api.ErrLimit, 610},
		{"404 corners, first", api.Region{Rects: append(combRegion(101, 0, 0).Rects, of(0, 3, 1, 4).Rects...)}, 0, api.ErrLimit, 610},
	} {
		if l, e := outline.Rings(c.a); len(l) != c.rings || e != c.want {
			t.Errorf("%s: %d rings, %d; want %d, %d", c.name, len(l), e, c.rings, c.want)
		}
		if n, e := outline.Border(c.a); n != c.border || e != api.OK {
			t.Errorf("%s: border %d, %d; want %d", c.name, n, e, c.border)
		}
	}
}

// P5.3: regions that are not valid, also with too many rings.
func TestP53NotValid(t *testing.T) {
	back := columns(61, 0, 1)
	slices.Reverse(back.Rects)
	for _, a := range append(noRegions(), back) {
		l, e := outline.Rings(a)
		n, f := outline.Border(a)
		if len(l) != 0 || e != api.ErrRegion || n != 0 || f != api.ErrRegion {
			t.Errorf("%v: %v, %d; %d, %d", a, l, e, n, f)
		}
	}
}

// R2 and P5.3: a region stays as it is, with its spare capacity, and rings share no memory, also not with each other.
func TestP53KeepsArguments(t *testing.T) {
	rects := of(0, 0, 1, 1, 1, 1, 2, 2, 7, 7, 8, 8).Rects
	before := slices.Clone(rects)
	a := api.Region{Rects: rects[:2]}
	l, _ := outline.Rings(a)
	second := slices.Clone(l[1])
	l[0] = append(l[0], api.Point{X: -1})
	l[0][0] = api.Point{X: -1}
	if n, _ := outline.Border(a); n != 8 || !slices.Equal(rects, before) || !slices.Equal(l[1], second) {
		t.Errorf("%d, %v, %v", n, rects, l)
	}
	if again, _ := outline.Rings(a); !sameRings(again, [][]api.Point{square(0, 0, 1), square(1, 1, 1)}) {
		t.Errorf("%v", again)
	}
}
