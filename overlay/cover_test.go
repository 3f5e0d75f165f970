package overlay_test

import (
	"math/rand"
	"slices"
	"testing"

	"landaid/api"
	"landaid/overlay"
	"landaid/region"
)

// naiveCover reports whether every square of a, in a part of the grid, is in some region of a list, square by square.
func naiveCover(corner api.Point, a api.Region, l []api.Region) bool {
	for _, p := range squaresOf(corner) {
		if region.Has(a, p.X, p.Y) && setAt(l, p) == 0 {
			return false
		}
	}
	return true
}

// naiveDisjoint returns the first two regions with a square of a part of the grid in common, and true.
func naiveDisjoint(corner api.Point, l []api.Region) (int, int, bool) {
	for i := range l {
		for j := i + 1; j < len(l); j++ {
			for _, p := range squaresOf(corner) {
				if setAt([]api.Region{l[i], l[j]}, p) == 3 {
					return i, j, true
				}
			}
		}
	}
	return 0, 0, false
}

// P7.3: regions that some regions cover, alone or together, and such that they do not.
func TestP73Cover(t *testing.T) {
	all := of(0, 0, 16384, 16384)
	ring := of(0, 0, 3, 1, 0, 1, 1, 2, 2, 1, 3, 2, 0, 2, 3, 3)
	for _, c := range []struct {
		name string
		a    api.Region
		l    []api.Region
		want bool
	}{
		{"nothing by nothing", of(), nil, true},
		{"nothing by empty regions", of(), make([]api.Region, 60), true},
		{"nothing by a region", of(), []api.Region{ring}, true},
		{"a square by nothing", of(0, 0, 1, 1), nil, false},
		{"a square by empty regions", of(0, 0, 1, 1), make([]api.Region, 60), false},
		{"a region by itself", ring, []api.Region{ring}, true},
		{"a region by a greater one", ring, []api.Region{of(), of(0, 0, 9, 9)}, true},
		{"a region by a smaller one", of(0, 0, 3, 3), []api.Region{ring}, false},
		{"a hole that is filled", of(0, 0, 3, 3), []api.Region{ring, of(1, 1, 2, 2)}, true},
		{"two halves", of(0, 0, 4, 1), []api.Region{of(0, 0, 2, 1), of(2, 0, 4, 1)}, true},
		{"two halves, the upper one first", of(0, 0, 1, 4), []api.Region{of(0, 2, 1, 4), of(0, 0, 1, 2)}, true},
		{"two halves that overlap", of(0, 0, 4, 1), []api.Region{of(0, 0, 3, 1), of(1, 0, 9, 1)}, true},
		{"a column between them", of(0, 0, 4, 1), []api.Region{of(0, 0, 2, 1), of(3, 0, 4, 1)}, false},
		{"a row between them", of(0, 0, 1, 4), []api.Region{of(0, 0, 1, 2), of(0, 3, 1, 4)}, false},
		{"a column before them", of(0, 0, 4, 1), []api.Region{of(1, 0, 2, 1), of(2, 0, 4, 1)}, false},
		{"a column behind them", of(0, 0, 4, 1), []api.Region{of(0, 0, 2, 1), of(2, 0, 3, 1)}, false},
		{"a row below them", of(0, 0, 1, 4), []api.Region{of(0, 1, 1, 4)}, false},
		{"a row above them", of(0, 0, 1, 4), []api.Region{of(0, 0, 1, 3)}, false},
		{"beside it", of(5, 5, 6, 6), []api.Region{of(4, 5, 5, 6), of(6, 5, 7, 6), of(5, 4, 6, 5), of(5, 6, 6, 7)}, false},
		{"the second part of two", of(0, 0, 1, 1, 0, 5, 1, 6), []api.Region{of(0, 0, 1, 1)}, false},
		{"all but the last square", all, []api.Region{of(0, 0, 16384, 16383, 0, 16383, 16383, 16384)}, false},
		{"all", all, []api.Region{of(0, 0, 16384, 16383, 0, 16383, 16383, 16384), of(16383, 16383, 16384, 16384)}, true},
	} {
		if ok, e := overlay.Cover(c.a, c.l); ok != c.want || e != api.OK {
			t.Errorf("%s: %v, %d; want %v", c.name, ok, e, c.want)
		}
	}
}

// P7.3: the first two regions that have squares in common, of some.
func TestP73Disjoint(t *testing.T) {
	a, b, c := of(0, 0, 2, 2), of(2, 0, 4, 2), of(1, 1, 3, 2)
	far := of(9, 9, 10, 10)
	for _, d := range []struct {
		name     string
		l        []api.Region
		one, two int
		meet     bool
	}{
		{"no regions", nil, 0, 0, false},
		{"one", []api.Region{a}, 0, 0, false},
		{"empty ones", make([]api.Region, 60), 0, 0, false},
		{"two that touch", []api.Region{a, b}, 0, 0, false},
		{"two that touch, one above the other", []api.Region{of(0, 2, 2, 4), a}, 0, 0, false},
		{"two that touch in a corner", []api.Region{a, of(2, 2, 4, 4)}, 0, 0, false},
		{"a region and an empty one", []api.Region{a, of(), b}, 0, 0, false},
		{"one in the hole of another one", []api.Region{of(0, 0, 3, 1, 0, 1, 1, 2, 2, 1, 3, 2, 0, 2, 3, 3), of(1, 1, 2, 2)}, 0, 0, false},
		{"twice the same", []api.Region{a, a}, 0, 1, true},
		{"three times the same", []api.Region{a, a, a}, 0, 1, true},
		{"the second and the third one", []api.Region{far, a, a}, 1, 2, true},
		{"the first and the last one", []api.Region{a, b, far, c}, 0, 3, true},
		{"one that meets two", []api.Region{c, a, b}, 0, 1, true},
		{"the first index decides", []api.Region{a, b, b, far, a}, 0, 4, true},
		{"then the second one", []api.Region{far, c, b, a}, 1, 2, true},
		{"one within another one", []api.Region{of(0, 0, 9, 9), of(3, 3, 4, 4)}, 0, 1, true},
		{"one around another one", []api.Region{of(3, 3, 4, 4), of(0, 0, 9, 9)}, 0, 1, true},
		{"only in the last square", []api.Region{of(), of(0, 0, 16384, 16384), of(16383, 16383, 16384, 16384)}, 1, 2, true},
		{"the last two of 60", slices.Concat(make([]api.Region, 58), []api.Region{a, c}), 58, 59, true},
		{"the first and the last one of 60", slices.Concat([]api.Region{a}, make([]api.Region, 58), []api.Region{c}), 0, 59, true},
	} {
		if one, two, meet, e := overlay.Disjoint(d.l); one != d.one || two != d.two || meet != d.meet || e != api.OK {
			t.Errorf("%s: %d, %d, %v, %d; want %d, %d, %v", d.name, one, two, meet, e, d.one, d.two, d.meet)
		}
	}
}

// P7.3: any two sets of a few squares, and a region that they cover or not.
func TestP73AllSmallSets(t *testing.T) {
	for _, regions := range [][]api.Region{smallRegions(2, 2), smallRegions(4, 1), smallRegions(1, 4)} {
		for i, a := range regions {
			for j, b := range regions {
				l := []api.Region{a, b}
				one, two, meet, e := overlay.Disjoint(l)
				if meet != (i&j != 0) || one != 0 || two != map[bool]int{true: 1}[meet] || e != api.OK {
					t.Fatalf("Disjoint(%v): %d, %d, %v, %d", l, one, two, meet, e)
				}
				for k, c := range regions {
					if ok, e := overlay.Cover(c, l); ok != (k&^(i|j) == 0) || e != api.OK {
						t.Fatalf("Cover(%v, %v): %v, %d", c, l, ok, e)
					}
				}
			}
		}
	}
}

// P7.3: random regions, also in the corners of the grid, square by square.
func TestP73AgainstNaive(t *testing.T) {
	random := rand.New(rand.NewSource(73))
	results := map[bool]int{}
	for i := range 300 {
		for _, corner := range corners {
			a, l := randomRegion(random, corner, 3), randomRegions(random, corner, 1+i%9)
			want := naiveCover(corner, a, l)
			if ok, e := overlay.Cover(a, l); ok != want || e != api.OK {
				t.Fatalf("Cover(%v, %v): %v, %d", a, l, ok, e)
			}
			results[want]++
			one, two, meet := naiveDisjoint(corner, l)
			if x, y, ok, e := overlay.Disjoint(l); x != one || y != two || ok != meet || e != api.OK {
				t.Fatalf("Disjoint(%v): %d, %d, %v, %d; want %d, %d, %v", l, x, y, ok, e, one, two, meet)
			}
			results[meet]++
		}
	}
	if results[true] < 500 || results[false] < 500 {
		t.Errorf("%v", results)
	}
}

// P7.3: however many rectangles all regions together have.
func TestP73ManyRectangles(t *testing.T) {
	var l []api.Region
	for i := range 8 {
		l = append(l, columns(120, 240*i, 0, 16384), rows(120, 240*i, 0, 16384)) // the columns and the rows 0, 2, and so on up to 1918
	}
	for _, c := range []struct {
		a    api.Region
		want bool
	}{
		{columns(120, 0, 0, 16384), true},
		{rows(120, 1680, 0, 16384), true},
		{rows(120, 1682, 0, 16384), false},
		{of(0, 0, 1, 16384), true},
		{of(1, 0, 2, 1919), false},
		{of(0, 0, 2, 1), true},
		{of(0, 0, 2, 2), false},
		{of(1918, 1918, 1919, 1919), true},
		{of(1919, 1919, 1920, 1920), false},
		{of(16383, 16383, 16384, 16384), false},
	} {
		if ok, e := overlay.Cover(c.a, l); ok != c.want || e != api.OK {
			t.Errorf("%v: %v, %d", c.a, ok, e)
		}
	}
	if one, two, meet, e := overlay.Disjoint(l); one != 0 || two != 1 || !meet || e != api.OK {
		t.Errorf("%d, %d, %v, %d", one, two, meet, e)
	}
}

// P7.3: as many regions as are permitted, and one more.
func TestP73AtLimits(t *testing.T) {
	first, last := of(0, 0, 1, 1, 5, 0, 6, 1), of(5, 0, 6, 1)
	for _, n := range []int{59, 60, 61, 62, 200} {
		l := make([]api.Region, n)
		l[0], l[n-1] = first, last
		want, second, e := true, n-1, api.OK
		if n > 60 {
			want, second, e = false, 0, api.ErrLimit
		}
		for _, a := range []api.Region{{}, first, last} {
			if ok, errno := overlay.Cover(a, l); ok != want || errno != e {
				t.Errorf("Cover(%v) by %d regions: %v, %d", a, n, ok, errno)
			}
		}
		if one, two, ok, errno := overlay.Disjoint(l); one != 0 || two != second || ok != want || errno != e {
			t.Errorf("Disjoint of %d regions: %d, %d, %v, %d", n, one, two, ok, errno)
		}
	}
	if ok, e := overlay.Cover(columns(120, 0, 0, 1), []api.Region{columns(119, 0, 0, 1), of(238, 0, 239, 1)}); !ok || e != api.OK {
		t.Errorf("%v, %d", ok, e)
	}
}

// P7.3: too many regions come first, then such that are not valid, also where the result would be clear without them.
func TestP73Errors(t *testing.T) {
	square := of(0, 0, 1, 1)
	for _, bad := range noRegions() {
		for _, c := range []struct {
			name string
			l    []api.Region
			want api.Errno
		}{
			{"alone", []api.Region{bad}, api.ErrRegion},
			{"behind two that meet", []api.Region{square, square, bad}, api.ErrRegion},
			{"before two that meet", []api.Region{bad, square, square}, api.ErrRegion},
			{"the first of 60", with(bad, 60, 0), api.ErrRegion},
			{"the last of 60", with(bad, 60, 59), api.ErrRegion},
			{"the first of 61", with(bad, 61, 0), api.ErrLimit},
			{"the last of 61", with(bad, 61, 60), api.ErrLimit},
		} {
			for _, a := range []api.Region{{}, square, of(3, 3, 9, 9), bad} {
				if ok, e := overlay.Cover(a, c.l); ok || e != c.want {
					t.Errorf("Cover(%v), %v %s: %v, %d; want error %d", a, bad, c.name, ok, e, c.want)
				}
			}
			if one, two, meet, e := overlay.Disjoint(c.l); one != 0 || two != 0 || meet || e != c.want {
				t.Errorf("Disjoint, %v %s: %d, %d, %v, %d; want error %d", bad, c.name, one, two, meet, e, c.want)
			}
		}
		for n, want := range map[int]api.Errno{0: api.ErrRegion, 1: api.ErrRegion, 60: api.ErrRegion, 61: api.ErrLimit} {
			if ok, e := overlay.Cover(bad, make([]api.Region, n)); ok || e != want {
				t.Errorf("Cover(%v) by %d empty regions: %v, %d", bad, n, ok, e)
			}
		}
	}
}

// R2 and P7.3: regions stay as they are, with their spare capacity.
func TestP73KeepsArguments(t *testing.T) {
	a, all := spare(of(0, 0, 4, 1, 0, 1, 3, 2))
	b, more := spare(of(3, 0, 6, 5))
	before, moreBefore := slices.Clone(all), slices.Clone(more)
	l := []api.Region{a, {}, b}
	kept := slices.Clone(l)
	for _, c := range []api.Region{a, b, of(0, 0, 1, 1)} {
		overlay.Cover(c, l)
		overlay.Cover(c, l[:1])
		overlay.Cover(c, l[:2])
		overlay.Disjoint(l)
		overlay.Disjoint([]api.Region{c, a, b})
	}
	if !slices.EqualFunc(l, kept, same) || !slices.Equal(all, before) || !slices.Equal(more, moreBefore) {
		t.Errorf("%v, %v, %v", l, all, more)
	}
}
