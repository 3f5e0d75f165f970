package plane_test

import (
	"math/rand"
	"slices"
	"testing"

	"landaid/api"
	"landaid/plane"
)

// rects returns rectangles, four numbers each: left, low, right, high.
func rects(n ...int) []api.Rect {
	var out []api.Rect
	for i := 0; i < len(n); i += 4 {
		out = append(out, api.Rect{Left: n[i], Low: n[i+1], Right: n[i+2], High: n[i+3]})
	}
	return out
}

// has reports whether a square is in some rectangle.
func has(l []api.Rect, x, y int) bool {
	return slices.ContainsFunc(l, func(r api.Rect) bool { return r.Left <= x && x < r.Right && r.Low <= y && y < r.High })
}

// setOf returns the set of the lists that have a square.
func setOf(lists [][]api.Rect, x, y int) int {
	set := 0
	for i, l := range lists {
		if has(l, x, y) {
			set |= 1 << i
		}
	}
	return set
}

// wide is how far from (0, 0) the squares are that are looked at one by one.
const wide = 8

// canonical returns the canonical rectangles of the squares near (0, 0) that are in a set, row by row.
func canonical(in func(x, y int) bool) []api.Rect {
	var out, below []api.Rect
	for y := -wide; y < wide; y++ {
		var row []api.Rect
		for x := -wide; x < wide; x++ {
			switch last := len(row) - 1; {
			case !in(x, y):
			case last >= 0 && row[last].Right == x:
				row[last].Right++
			default:
				row = append(row, api.Rect{Left: x, Low: y, Right: x + 1, High: y + 1})
			}
		}
		if slices.EqualFunc(below, row, func(r, s api.Rect) bool { return r.Left == s.Left && r.Right == s.Right }) {
			for i := range below {
				below[i].High++
			}
			continue
		}
		out = append(out, row...)
		below = out[len(out)-len(row):]
	}
	return out
}

// randomRects returns up to some rectangles near (0, 0), from a least column and row on.
func randomRects(random *rand.Rand, most, least int) []api.Rect {
	var out []api.Rect
	for range random.Intn(most + 1) {
		x, y := least+random.Intn(wide-least), least+random.Intn(wide-least)
		out = append(out, rects(x, y, x+1+random.Intn(wide-x), y+1+random.Intn(wide-y))...)
	}
	return out
}

// always keeps every square.
func always(set int) bool { return true }

// Choose, for some lists: squares that are in none are never kept, and rectangles without squares add none.
func TestChoose(t *testing.T) {
	for _, c := range []struct {
		name  string
		keep  func(set int) bool
		lists [][]api.Rect
		want  []api.Rect
	}{
		{"no lists", always, nil, nil},
		{"empty lists", always, [][]api.Rect{nil, {}}, nil},
		{"two that are apart", always, [][]api.Rect{rects(2, 0, 3, 1), rects(0, 0, 1, 1)}, rects(0, 0, 1, 1, 2, 0, 3, 1)},
		{"two that touch", always, [][]api.Rect{rects(1, 0, 2, 1), rects(0, 0, 1, 1)}, rects(0, 0, 2, 1)},
		{"one above the other", always, [][]api.Rect{rects(0, 1, 2, 2), rects(0, 0, 2, 1)}, rects(0, 0, 2, 2)},
		{"rows between them", always, [][]api.Rect{rects(0, 2, 2, 3), rects(0, 0, 2, 1)}, rects(0, 0, 2, 1, 0, 2, 2, 3)},
		{"beyond the grid", always, [][]api.Rect{rects(-9, -7, -3, 5), rects(-5, -20, 20000, 20000)}, rects(-5, -20, 20000, -7, -9, -7, 20000, 5, -5, 5, 20000, 20000)},
		{"no columns", always, [][]api.Rect{rects(0, 0, 9, 9, 3, 2, 3, 5), rects(20, 0, 20, 9)}, rects(0, 0, 9, 9)},
		{"no rows", always, [][]api.Rect{rects(0, 0, 9, 9, 3, 2, 5, 2), rects(20, 4, 30, 4)}, rects(0, 0, 9, 9)},
		{"only in the first list", func(set int) bool { return set == 1 }, [][]api.Rect{rects(0, 0, 9, 3), rects(3, 0, 5, 3)}, rects(0, 0, 3, 3, 5, 0, 9, 3)},
		{"only in the second list", func(set int) bool { return set == 2 }, [][]api.Rect{rects(0, 0, 4, 3), rects(3, 0, 5, 3)}, rects(4, 0, 5, 3)},
		{"in both", func(set int) bool { return set == 3 }, [][]api.Rect{rects(0, 0, 4, 3), rects(3, 0, 5, 3)}, rects(3, 0, 4, 3)},
		{"twice in a list", func(set int) bool { return set == 1 }, [][]api.Rect{rects(0, 0, 4, 3, 2, 0, 6, 3, 1, 0, 3, 3), rects(5, 1, 6, 2)}, rects(0, 0, 6, 1, 0, 1, 5, 2, 0, 2, 6, 3)},
		{"none", func(set int) bool { return false }, [][]api.Rect{rects(0, 0, 4, 3)}, nil},
	} {
		if l := plane.Choose(c.keep, c.lists...); !slices.Equal(l, c.want) {
			t.Errorf("%s: %v; want %v", c.name, l, c.want)
		}
	}
}

// Choose, for random lists, and any sets that are kept, square by square.
func TestChooseAgainstNaive(t *testing.T) {
	random := rand.New(rand.NewSource(1))
	for i := range 5000 {
		var lists [][]api.Rect
		for range 1 + random.Intn(4) {
			lists = append(lists, randomRects(random, 5, -(i%2)*wide))
		}
		kept := random.Intn(1 << 16)
		keep := func(set int) bool { return kept>>set&1 == 1 }
		want := canonical(func(x, y int) bool {
			set := setOf(lists, x, y)
			return set != 0 && keep(set)
		})
		if l := plane.Choose(keep, lists...); !slices.Equal(l, want) {
			t.Fatalf("%v, sets %b: %v; want %v", lists, kept, l, want)
		}
	}
}

// Choose, for as many lists as are permitted: each one has its bit.
func TestChooseManyLists(t *testing.T) {
	var lists [][]api.Rect
	for i := range 62 {
		lists = append(lists, rects(2*i, 0, 2*i+3, 1))
	}
	for i := range 62 {
		alone := plane.Choose(func(set int) bool { return set == 1<<i }, lists...)
		want := rects(2*i+1, 0, 2*i+2, 1)
		switch i {
		case 0:
			want[0].Left--
		case 61:
			want[0].Right++
		}
		if !slices.Equal(alone, want) {
			t.Errorf("only in list %d: %v; want %v", i, alone, want)
		}
		if l := plane.Choose(func(set int) bool { return set>>i&1 == 1 }, lists...); !slices.Equal(l, lists[i]) {
			t.Errorf("in list %d: %v; want %v", i, l, lists[i])
		}
	}
}

// Choose has no limit on rectangles: those of two lists, and of the squares that both have.
func TestChooseManyRectangles(t *testing.T) {
	var columns, rows []api.Rect
	for i := range 150 {
		columns = append(columns, rects(2*i, 0, 2*i+1, 300)...)
		rows = append(rows, rects(0, 2*i, 300, 2*i+1)...)
	}
	if l := plane.Choose(func(set int) bool { return set == 3 }, columns, rows); len(l) != 150*150 || !plane.Canonical(l) {
		t.Errorf("%d", len(l))
	}
	if l := plane.Choose(always, columns, rows); len(l) != 150+150*150 || !plane.Canonical(l) {
		t.Errorf("%d", len(l))
	}
}

// Canonical holds for just the canonical rectangles of their squares.
func TestCanonical(t *testing.T) {
	if !plane.Canonical(nil) {
		t.Error("no rectangles are not canonical")
	}
	random := rand.New(rand.NewSource(2))
	good := 0
	for range 20000 {
		l := randomRects(random, 4, 0)
		if random.Intn(2) == 0 {
			l = plane.Choose(always, l)
			if len(l) > 0 && random.Intn(2) == 0 {
				i := random.Intn(len(l))
				l = append(slices.Delete(l, i, i+1), randomRects(random, 1, 0)...)
			}
		}
		want := slices.Equal(l, canonical(func(x, y int) bool { return has(l, x, y) }))
		if want {
			good++
		}
		if plane.Canonical(l) != want {
			t.Fatalf("%v: canonical is not %v", l, want)
		}
	}
	if good < 5000 || good > 15000 {
		t.Errorf("%d of 20000 are canonical", good)
	}
}

// R2: lists stay as they are, with their spare capacity, and share no memory with the result.
func TestChooseKeepsArguments(t *testing.T) {
	all := rects(2, 0, 3, 1, 0, 0, 1, 1, 7, 7, 8, 8, 9, 9, 10, 10)
	before := slices.Clone(all)
	lists := [][]api.Rect{all[:1], all[1:2], nil}
	first := plane.Choose(always, lists[:2]...)
	if !slices.Equal(first, rects(0, 0, 1, 1, 2, 0, 3, 1)) || !slices.Equal(all, before) || lists[2] != nil {
		t.Errorf("%v, %v, %v", first, all, lists)
	}
	sorted := rects(0, 0, 1, 1, 2, 0, 3, 1)
	first = plane.Choose(always, sorted)
	first[0].Left = 99
	first = append(first, api.Rect{})
	if !slices.Equal(sorted, rects(0, 0, 1, 1, 2, 0, 3, 1)) || len(first) != 3 {
		t.Errorf("%v", sorted)
	}
}
