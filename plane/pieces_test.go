package plane_test

import (
	"math/rand"
	"slices"
	"testing"

	"landaid/api"
	"landaid/plane"
)

// piece is a rectangle that comes from Pieces, with its set.
type piece struct {
	set  int
	rect api.Rect
}

// piecesOf returns the first pieces of lists, at most some.
func piecesOf(most int, lists ...[]api.Rect) []piece {
	var out []piece
	for set, r := range plane.Pieces(lists...) {
		out = append(out, piece{set, r})
		if len(out) == most {
			break
		}
	}
	return out
}

// Pieces of some lists.
func TestPieces(t *testing.T) {
	for _, c := range []struct {
		name  string
		lists [][]api.Rect
		want  []piece
	}{
		{"no lists", nil, nil},
		{"empty lists", [][]api.Rect{nil, {}}, nil},
		{"one rectangle", [][]api.Rect{rects(-3, 2, 5, 9)}, []piece{{1, api.Rect{Left: -3, Low: 2, Right: 5, High: 9}}}},
		{"the second list", [][]api.Rect{nil, rects(3, 2, 5, 9)}, []piece{{2, api.Rect{Left: 3, Low: 2, Right: 5, High: 9}}}},
		{"no columns", [][]api.Rect{rects(3, 2, 3, 9)}, nil},
		{"no rows", [][]api.Rect{rects(3, 2, 5, 2)}, nil},
		{"the same in two lists", [][]api.Rect{rects(3, 2, 5, 9), rects(3, 2, 5, 9)}, []piece{{3, api.Rect{Left: 3, Low: 2, Right: 5, High: 9}}}},
		{"from the left", [][]api.Rect{rects(0, 0, 2, 1), rects(1, 0, 3, 1)}, []piece{
			{1, api.Rect{Left: 0, Low: 0, Right: 1, High: 1}}, {3, api.Rect{Left: 1, Low: 0, Right: 2, High: 1}}, {2, api.Rect{Left: 2, Low: 0, Right: 3, High: 1}},
		}},
		{"from the lowest one on", [][]api.Rect{rects(0, 1, 1, 3), rects(0, 0, 1, 2)}, []piece{
			{2, api.Rect{Left: 0, Low: 0, Right: 1, High: 1}}, {3, api.Rect{Left: 0, Low: 1, Right: 1, High: 2}}, {1, api.Rect{Left: 0, Low: 2, Right: 1, High: 3}},
		}},
		{"rows that are cut by others", [][]api.Rect{rects(0, 0, 1, 4), rects(5, 1, 6, 2)}, []piece{
			{1, api.Rect{Left: 0, Low: 0, Right: 1, High: 1}}, {1, api.Rect{Left: 0, Low: 1, Right: 1, High: 2}}, {2, api.Rect{Left: 5, Low: 1, Right: 6, High: 2}}, {1, api.Rect{Left: 0, Low: 2, Right: 1, High: 4}},
		}},
	} {
		if l := piecesOf(0, c.lists...); !slices.Equal(l, c.want) {
			t.Errorf("%s: %v; want %v", c.name, l, c.want)
		}
	}
}

// Pieces of random lists: each square of a list is in one piece, with its set; they stand in their order; and a loop may end at any piece, and begin again.
func TestPiecesAgainstNaive(t *testing.T) {
	random := rand.New(rand.NewSource(3))
	for i := range 1000 {
		var lists [][]api.Rect
		for range 1 + random.Intn(5) {
			lists = append(lists, randomRects(random, 5, -(i%2)*wide))
		}
		all := plane.Pieces(lists...)
		var l []piece
		sets := map[api.Point]int{}
		for set, r := range all {
			if last := len(l) - 1; last >= 0 {
				before := l[last].rect
				if r.Low < before.High && (r.Low != before.Low || r.High != before.High || r.Left < before.Right) {
					t.Fatalf("%v: %v comes behind %v", lists, r, before)
				}
			}
			l = append(l, piece{set, r})
			for x := r.Left; x < r.Right; x++ {
				for y := r.Low; y < r.High; y++ {
					sets[api.Point{X: x, Y: y}] = set
				}
			}
		}
		for x := -wide; x < wide; x++ {
			for y := -wide; y < wide; y++ {
				if set := setOf(lists, x, y); sets[api.Point{X: x, Y: y}] != set {
					t.Fatalf("%v: the set of %d, %d is %b, not %b", lists, x, y, sets[api.Point{X: x, Y: y}], set)
				}
			}
		}
		for most := 1; most <= len(l); most++ {
			if first := piecesOf(most, lists...); !slices.Equal(first, l[:most]) {
				t.Fatalf("%v: the first %d pieces are %v, not %v", lists, most, first, l[:most])
			}
		}
		var again []piece
		for set, r := range all {
			again = append(again, piece{set, r})
		}
		if !slices.Equal(again, l) {
			t.Fatalf("%v: %v, and again %v", lists, l, again)
		}
	}
}

// Pieces do not end where only rectangles of the same list begin or end on others of it.
func TestPiecesWithinLists(t *testing.T) {
	one := rects(0, 0, 4, 1, 2, 0, 6, 1, 3, 0, 5, 1, 0, 0, 6, 1)
	two := rects(1, 0, 3, 1, 2, 0, 5, 1)
	want := []piece{{1, api.Rect{Left: 0, Low: 0, Right: 1, High: 1}}, {3, api.Rect{Left: 1, Low: 0, Right: 5, High: 1}}, {1, api.Rect{Left: 5, Low: 0, Right: 6, High: 1}}}
	if l := piecesOf(0, one, two); !slices.Equal(l, want) {
		t.Errorf("%v; want %v", l, want)
	}
}

// Squares have the canonical rectangles of those that were added, at any time, and more may be added then.
func TestSquares(t *testing.T) {
	random := rand.New(rand.NewSource(4))
	for i := range 1000 {
		l := piecesOf(0, randomRects(random, 6, -(i%2)*wide), randomRects(random, 6, -(i%2)*wide))
		var squares plane.Squares
		if squares.Rects() != nil {
			t.Fatal("no squares have rectangles")
		}
		var added []api.Rect
		for _, p := range l {
			if random.Intn(5) == 0 {
				continue
			}
			squares.Add(p.rect)
			added = append(added, p.rect)
			first := squares.Rects()
			if want := canonical(func(x, y int) bool { return has(added, x, y) }); !slices.Equal(first, want) {
				t.Fatalf("%v: %v; want %v", added, first, want)
			}
			second := squares.Rects()
			first[0] = api.Rect{}
			if !slices.Equal(second, squares.Rects()) {
				t.Fatalf("%v: %v became %v", added, second, squares.Rects())
			}
		}
	}
}

// Squares are over a number just if they have more bands, whatever the highest one becomes.
func TestSquaresOver(t *testing.T) {
	var squares plane.Squares
	over := func(most int, want bool) {
		t.Helper()
		if squares.Over(most) != want {
			t.Errorf("%v are over %d: %v", squares.Rects(), most, !want)
		}
	}
	over(0, false)
	for _, r := range rects(0, 0, 1, 1, 2, 0, 3, 1, 4, 0, 5, 1) {
		squares.Add(r)
	}
	over(0, false)
	for _, r := range rects(0, 1, 1, 2, 2, 1, 3, 2, 4, 1, 5, 2) {
		squares.Add(r)
	}
	over(0, true)
	over(1, false)
	squares.Add(api.Rect{Left: 7, Low: 2, Right: 8, High: 3}) // now the first two bands are one
	over(0, true)
	over(1, false)
	squares.Add(api.Rect{Left: 8, Low: 3, Right: 9, High: 4})
	over(1, true)
	over(2, false)
}

// Squares that are over a number have more rectangles, in the end.
func TestSquaresOverInTheEnd(t *testing.T) {
	random := rand.New(rand.NewSource(5))
	for range 1000 {
		var squares plane.Squares
		most := 0 // what they are not over
		for _, p := range piecesOf(0, randomRects(random, 6, 0)) {
			squares.Add(p.rect)
			for squares.Over(most) {
				most++
			}
		}
		if n := len(squares.Rects()); n < most {
			t.Fatalf("%v: %d are over %d", squares.Rects(), n, most-1)
		}
	}
}

// Limited gives up what has more rectangles than a region may have.
func TestLimited(t *testing.T) {
	for n, want := range map[int]api.Errno{0: api.OK, 1: api.OK, 119: api.OK, 120: api.OK, 121: api.ErrLimit, 5000: api.ErrLimit} {
		l := slices.Repeat(rects(0, 0, 1, 1), n)
		a, e := plane.Limited(l)
		if e != want || e == api.OK && !slices.Equal(a.Rects, l) || e != api.OK && a.Rects != nil {
			t.Errorf("%d: %d rectangles, %d", n, len(a.Rects), e)
		}
	}
}
