package region_test

import (
	"math"
	"math/rand"
	"slices"
	"testing"

	"landaid/api"
	"landaid/region"
)

// rects returns rectangles, four numbers each: left, low, right, high.
func rects(n ...int) []api.Rect {
	var out []api.Rect
	for i := 0; i < len(n); i += 4 {
		out = append(out, api.Rect{Left: n[i], Low: n[i+1], Right: n[i+2], High: n[i+3]})
	}
	return out
}

// of returns the region with just these rectangles, canonical or not.
func of(n ...int) api.Region { return api.Region{Rects: rects(n...)} }

// columns returns rectangles that do not touch, one square wide.
func columns(n, low, high int) []api.Rect {
	var out []api.Rect
	for i := range n {
		out = append(out, api.Rect{Left: 2 * i, Low: low, Right: 2*i + 1, High: high})
	}
	return out
}

// rows returns rectangles that do not touch, one square high.
func rows(n, left, right int) []api.Rect {
	var out []api.Rect
	for i := range n {
		out = append(out, api.Rect{Left: left, Low: 2 * i, Right: right, High: 2*i + 1})
	}
	return out
}

// regionOf returns the region with just these rectangles, of several lists.
func regionOf(lists ...[]api.Rect) api.Region { return api.Region{Rects: slices.Concat(lists...)} }

// same reports whether two regions have the same rectangles.
func same(a, b api.Region) bool { return slices.Equal(a.Rects, b.Rects) }

// grid is a set of squares, by y and x from a corner on.
type grid struct {
	left, low int
	has       [12][12]bool
}

// gridOf returns the squares of rectangles.
func gridOf(left, low int, l []api.Rect) grid {
	g := grid{left: left, low: low}
	for _, r := range l {
		for y := r.Low; y < r.High; y++ {
			for x := r.Left; x < r.Right; x++ {
				g.has[y-low][x-left] = true
			}
		}
	}
	return g
}

// gridOfBits returns the squares of a part of the grid, some squares wide, by the bits of a number.
func gridOfBits(wide, high, bits int) grid {
	var g grid
	for y := range high {
		for x := range wide {
			g.has[y][x] = bits>>(y*wide+x)&1 == 1
		}
	}
	return g
}

// region returns the canonical form of a set: rows one after another, those that are like the one below make its rectangles higher.
func (g grid) region() api.Region {
	var out api.Region
	band := 0 // where the rectangles of the last band begin
	for y, row := range g.has {
		if y > 0 && row == g.has[y-1] {
			for i := band; i < len(out.Rects); i++ {
				out.Rects[i].High++
			}
			continue
		}
		band = len(out.Rects)
		for x := range row {
			if !row[x] {
				continue
			}
			if x > 0 && row[x-1] {
				out.Rects[len(out.Rects)-1].Right++
				continue
			}
			out.Rects = append(out.Rects, api.Rect{Left: g.left + x, Low: g.low + y, Right: g.left + x + 1, High: g.low + y + 1})
		}
	}
	return out
}

// randomRects returns rectangles in the 12 by 12 squares from a corner on.
func randomRects(random *rand.Rand, left, low, n int) []api.Rect {
	var out []api.Rect
	for range n {
		x, y := random.Intn(12), random.Intn(12)
		out = append(out, api.Rect{Left: left + x, Low: low + y, Right: left + x + 1 + random.Intn(12-x), High: low + y + 1 + random.Intn(12-y)})
	}
	return out
}

// corners are the corners of the parts of the grid that are compared square by square: its own corners, and one within it.
var corners = [][2]int{{0, 0}, {api.MaxCoord - 12, 0}, {0, api.MaxCoord - 12}, {api.MaxCoord - 12, api.MaxCoord - 12}, {5000, 700}}

// improper returns rectangles that are not proper: by each side alone, and by several.
func improper() []api.Rect {
	out := rects(
		-1, 0, 1, 1, 0, -1, 1, 1, 0, 0, 16385, 1, 0, 0, 1, 16385,
		0, 0, 0, 1, 0, 0, 1, 0, 5, 0, 5, 1, 0, 5, 1, 5, 5, 0, 4, 1, 0, 5, 1, 4,
		16384, 0, 16384, 1, 0, 16384, 1, 16384, 16384, 0, 16385, 1, 0, 16384, 1, 16385,
		-2, 0, -1, 1, 0, -2, 1, -1, -1, 0, 0, 1, 0, -1, 1, 0,
		1, 1, 0, 0, 0, 0, 0, 0, -1, -1, -1, -1,
	)
	for _, far := range []int{math.MinInt, math.MaxInt} {
		out = append(out, rects(far, 0, 1, 1, 0, far, 1, 1, 0, 0, far, 1, 0, 0, 1, far, far, far, far, far)...)
	}
	return append(out, rects(math.MinInt, 0, math.MaxInt, 1, 0, math.MinInt, 1, math.MaxInt)...)
}

// noRegions returns regions that are not valid: with rectangles that are not proper, not the canonical ones, or too many.
func noRegions() []api.Region {
	out := []api.Region{
		of(1, 1, 3, 2, 0, 0, 3, 1),                         // a higher band first
		of(2, 0, 3, 1, 0, 0, 1, 1),                         // a rectangle to the right first
		of(0, 0, 1, 1, 0, 0, 1, 1),                         // one twice
		of(0, 0, 1, 1, 1, 0, 2, 1),                         // two that touch in a row
		of(0, 0, 1, 1, 2, 0, 4, 1, 4, 0, 5, 1),             // the last two touch
		of(0, 0, 2, 1, 1, 0, 3, 1),                         // two that overlap in a row
		of(0, 0, 3, 1, 1, 0, 2, 1),                         // one within another one
		of(0, 0, 1, 1, 0, 1, 1, 2),                         // two bands instead of one
		of(0, 0, 1, 1, 2, 0, 3, 1, 0, 1, 1, 2, 2, 1, 3, 2), // two bands of two spans instead of one
		of(0, 0, 2, 1, 0, 1, 1, 2, 0, 2, 1, 3),             // the second band in two
		of(0, 0, 1, 3, 2, 1, 3, 2),                         // a band within the rows of another one
		of(0, 0, 1, 2, 0, 1, 2, 3),                         // bands whose rows overlap
		of(0, 0, 1, 2, 3, 1, 4, 3),                         // the same, side by side
		of(0, 0, 1, 2, 2, 0, 3, 1),                         // rows that begin alike, but end earlier
		of(0, 0, 1, 1, 2, 0, 3, 2),                         // rows that begin alike, but end later
		of(0, 1, 1, 2, 2, 0, 3, 2),                         // rows that end alike, but begin earlier
		regionOf(columns(121, 0, 1)),
		regionOf(rows(121, 0, 1)),
	}
	for _, r := range improper() {
		out = append(out, api.Region{Rects: []api.Rect{r}}, regionOf(rects(0, 0, 1, 1), []api.Rect{r}), regionOf([]api.Rect{r}, rects(9, 9, 10, 10)))
	}
	return out
}

// P4.1: canonical forms of some sets.
func TestP41Of(t *testing.T) {
	for _, c := range []struct {
		l    []api.Rect
		want api.Region
	}{
		{nil, of()},
		{[]api.Rect{}, of()},
		{rects(0, 0, 1, 1), of(0, 0, 1, 1)},
		{rects(0, 0, 2, 1, 1, 0, 3, 2), of(0, 0, 3, 1, 1, 1, 3, 2)},
		{rects(1, 0, 3, 2, 0, 0, 2, 1), of(0, 0, 3, 1, 1, 1, 3, 2)},
		{rects(0, 0, 2, 2, 2, 0, 4, 2), of(0, 0, 4, 2)},
		{rects(0, 2, 2, 4, 0, 0, 2, 2), of(0, 0, 2, 4)},
		{rects(0, 0, 1, 1, 1, 0, 2, 1, 0, 1, 1, 2, 1, 1, 2, 2), of(0, 0, 2, 2)},
		{rects(0, 0, 9, 9, 3, 3, 5, 5), of(0, 0, 9, 9)},
		{rects(3, 3, 5, 5, 0, 0, 9, 9, 3, 3, 5, 5), of(0, 0, 9, 9)},
		{rects(0, 0, 1, 1, 0, 2, 1, 3), of(0, 0, 1, 1, 0, 2, 1, 3)},
		{rects(0, 0, 1, 1, 2, 0, 3, 1), of(0, 0, 1, 1, 2, 0, 3, 1)},
		{rects(1, 1, 2, 2, 0, 0, 1, 1), of(0, 0, 1, 1, 1, 1, 2, 2)},
		{rects(0, 0, 1, 3, 2, 1, 3, 2), of(0, 0, 1, 1, 0, 1, 1, 2, 2, 1, 3, 2, 0, 2, 1, 3)},
		{rects(0, 1, 3, 2, 1, 0, 2, 3), of(1, 0, 2, 1, 0, 1, 3, 2, 1, 2, 2, 3)},
		{rects(0, 0, 2, 4, 0, 2, 2, 6), of(0, 0, 2, 6)},
		{rects(0, 0, 16384, 16384), of(0, 0, 16384, 16384)},
		{rects(16383, 16383, 16384, 16384), of(16383, 16383, 16384, 16384)},
		{rects(0, 0, 1, 16384, 0, 0, 16384, 1), of(0, 0, 16384, 1, 0, 1, 1, 16384)},
		{rects(0, 0, 8000, 16384, 8000, 0, 16384, 16384), of(0, 0, 16384, 16384)},
	} {
		if a, e := region.Of(c.l); !same(a, c.want) || e != api.OK {
			t.Errorf("Of(%v): %v, %d; want %v", c.l, a, e, c.want)
		}
	}
}

// P4.1: random rectangles, also in the corners of the grid, against the canonical form of their squares.
func TestP41OfAgainstNaive(t *testing.T) {
	random := rand.New(rand.NewSource(41))
	for range 2000 {
		for _, corner := range corners {
			l := randomRects(random, corner[0], corner[1], random.Intn(9))
			want := gridOf(corner[0], corner[1], l).region()
			a, e := region.Of(l)
			if !same(a, want) || e != api.OK {
				t.Fatalf("Of(%v): %v, %d; want %v", l, a, e, want)
			}
			if !region.Valid(a) {
				t.Fatalf("Of(%v): %v is not valid", l, a)
			}
			random.Shuffle(len(l), func(i, j int) { l[i], l[j] = l[j], l[i] })
			if b, e := region.Of(append(l, a.Rects...)); !same(b, a) || e != api.OK {
				t.Fatalf("Of(%v), in another order: %v, %d; want %v", l, b, e, a)
			}
		}
	}
}

// P4.1: every set of 4 by 4 squares, from its single squares, and from its canonical form.
func TestP41AllSmallSets(t *testing.T) {
	for bits := range 1 << 16 {
		g := gridOfBits(4, 4, bits)
		var squares []api.Rect
		for i := range 16 {
			if x, y := i%4, i/4; g.has[y][x] {
				squares = append(squares, api.Rect{Left: x, Low: y, Right: x + 1, High: y + 1})
			}
		}
		want := g.region()
		if a, e := region.Of(squares); !same(a, want) || e != api.OK {
			t.Fatalf("Of(%v): %v, %d; want %v", squares, a, e, want)
		}
		if a, e := region.Of(want.Rects); !same(a, want) || e != api.OK || !region.Valid(want) {
			t.Fatalf("Of(%v): %v, %d", want, a, e)
		}
	}
}

// P4.1: as many rectangles as are permitted, of the argument and of the result, and one more.
func TestP41OfAtLimits(t *testing.T) {
	comb := func(n int) []api.Rect { return append(columns(n, 0, 3), rects(0, 1, 300, 2)...) }
	shorter := comb(60)
	shorter[59].High = 2
	for _, c := range []struct {
		name string
		l    []api.Rect
		size int
		want api.Errno
	}{
		{"120 columns", columns(120, 0, 3), 120, api.OK},
		{"121 columns", columns(121, 0, 3), 0, api.ErrLimit},
		{"120 rows", rows(120, 0, 3), 120, api.OK},
		{"121 rows", rows(121, 0, 3), 0, api.ErrLimit},
		{"120 times the same", slices.Repeat(rects(0, 0, 1, 1), 120), 1, api.OK},
		{"121 times the same", slices.Repeat(rects(0, 0, 1, 1), 121), 0, api.ErrLimit},
		{"a comb with 119", comb(59), 119, api.OK},
		{"a comb with 120", shorter, 120, api.OK},
		{"a comb with 121", comb(60), 0, api.ErrLimit},
		{"a lattice with 110", append(columns(10, 0, 21), rows(10, 0, 19)...), 110, api.OK},
		{"a lattice with many", append(columns(60, 0, 121), rows(60, 0, 121)...), 0, api.ErrLimit},
	} {
		a, e := region.Of(c.l)
		if e != c.want || e != api.OK && a.Rects != nil {
			t.Errorf("%s: %d rectangles, %d; want error %d", c.name, len(a.Rects), e, c.want)
		}
		if e == api.OK && (!region.Valid(a) || c.size != len(a.Rects)) {
			t.Errorf("%s: %d rectangles; want %d", c.name, len(a.Rects), c.size)
		}
	}
}

// P4.1: the number of rectangles comes first, then those that are not proper, wherever they stand, then the size of the canonical form.
func TestP41OfErrors(t *testing.T) {
	tooMany := append(columns(60, 0, 3), rects(0, 1, 300, 2)...) // its canonical form has 121
	for _, bad := range improper() {
		one := []api.Rect{bad}
		for _, c := range []struct {
			name string
			l    []api.Rect
			want api.Errno
		}{
			{"alone", one, api.ErrRange},
			{"the first one", slices.Concat(one, rects(0, 0, 1, 1)), api.ErrRange},
			{"the last one", slices.Concat(rects(0, 0, 1, 1), one), api.ErrRange},
			{"the last one of 120", slices.Concat(columns(119, 0, 1), one), api.ErrRange},
			{"the last one of 121", slices.Concat(columns(120, 0, 1), one), api.ErrLimit},
			{"the first one of 121", slices.Concat(one, columns(120, 0, 1)), api.ErrLimit},
			{"before too many", slices.Concat(one, tooMany), api.ErrRange},
			{"behind too many", slices.Concat(tooMany, one), api.ErrRange},
		} {
			if a, e := region.Of(c.l); e != c.want || a.Rects != nil {
				t.Errorf("%v, %s: %v, %d; want error %d", bad, c.name, a, e, c.want)
			}
		}
	}
	if a, e := region.Of(tooMany); e != api.ErrLimit || a.Rects != nil {
		t.Errorf("%v, %d", a, e)
	}
}

// P4.1: regions that are valid, and such that are not.
func TestP41Valid(t *testing.T) {
	for _, a := range []api.Region{
		{},
		{Rects: []api.Rect{}},
		of(0, 0, 1, 1),
		of(0, 0, 16384, 16384),
		of(16383, 16383, 16384, 16384),
		of(0, 0, 3, 1, 1, 1, 3, 2),
		of(0, 0, 1, 1, 1, 1, 2, 2),
		of(1, 0, 2, 1, 0, 1, 1, 2),
		of(0, 0, 1, 1, 0, 2, 1, 3),
		of(0, 5, 1, 6, 0, 7, 1, 8, 0, 9, 1, 10),
		of(0, 0, 1, 1, 2, 0, 3, 1, 0, 1, 1, 2),
		of(0, 0, 1, 1, 0, 1, 1, 2, 2, 1, 3, 2),
		of(0, 0, 1, 1, 2, 0, 3, 1, 0, 1, 1, 2, 2, 1, 4, 2),
		of(0, 0, 1, 1, 2, 0, 3, 1, 0, 2, 1, 3, 2, 2, 3, 3),
		of(0, 0, 1, 1, 0, 1, 2, 2, 0, 2, 1, 3),
		regionOf(columns(120, 0, 3)),
		regionOf(rows(120, 0, 3)),
		regionOf(columns(60, 0, 1), columns(60, 2, 3)),
	} {
		if !region.Valid(a) {
			t.Errorf("%v is not valid", a)
		}
	}
	for _, a := range noRegions() {
		if region.Valid(a) {
			t.Errorf("%v is valid", a)
		}
	}
	if region.Valid(api.Region{Rects: make([]api.Rect, 1<<20)}) {
		t.Error("a great many rectangles are valid")
	}
}

// P4.1: all lists of up to three rectangles in 3 by 3 squares: just the canonical ones of their squares are valid.
func TestP41ValidOfAllSmallLists(t *testing.T) {
	all := [][]api.Rect{nil}
	var proper []api.Rect
	for i := range 256 {
		if r := (api.Rect{Left: i & 3, Low: i >> 2 & 3, Right: i >> 4 & 3, High: i >> 6}); r.Left < r.Right && r.Low < r.High {
			proper = append(proper, r)
		}
	}
	for from := 0; len(all[from]) < 3; from++ {
		for _, r := range proper {
			all = append(all, append(slices.Clone(all[from]), r))
		}
	}
	valid := 0
	for _, l := range all {
		a := api.Region{Rects: l}
		want := same(a, gridOf(0, 0, l).region())
		if want {
			valid++
		}
		if region.Valid(a) != want {
			t.Fatalf("%v: valid is not %v", l, want)
		}
	}
	if len(all) != 1+36+36*36+36*36*36 || valid < 300 {
		t.Errorf("%d lists, %d of them valid", len(all), valid)
	}
}

// P4.1: a number of a valid region that is changed by one, and rectangles that are left out, exchanged, or there twice.
func TestP41ValidAgainstNaive(t *testing.T) {
	random := rand.New(rand.NewSource(42))
	for range 20000 {
		a := gridOf(0, 0, randomRects(random, 0, 0, 1+random.Intn(6))).region()
		i, j := random.Intn(len(a.Rects)), random.Intn(len(a.Rects))
		r := &a.Rects[i]
		switch random.Intn(7) {
		case 0:
			r.Left = max(r.Left-1+2*random.Intn(2), 0)
		case 1:
			r.Low = max(r.Low-1+2*random.Intn(2), 0)
		case 2:
			r.Right = min(r.Right-1+2*random.Intn(2), 12)
		case 3:
			r.High = min(r.High-1+2*random.Intn(2), 12)
		case 4:
			a.Rects[i], a.Rects[j] = a.Rects[j], a.Rects[i]
		case 5:
			a.Rects = slices.Delete(a.Rects, i, i+1)
		case 6:
			a.Rects = slices.Insert(a.Rects, j, a.Rects[i])
		}
		if region.Valid(a) != same(a, gridOf(0, 0, a.Rects).region()) {
			t.Fatalf("%v: valid is %v", a, region.Valid(a))
		}
	}
}

// R2 and P4.1: the list stays as it is, with its spare capacity, and shares no memory with the result.
func TestP41KeepsArguments(t *testing.T) {
	all := rects(2, 0, 3, 1, 0, 0, 1, 1, 7, 7, 8, 8, 9, 9, 10, 10)
	before := slices.Clone(all)
	a, e := region.Of(all[:2])
	if !same(a, of(0, 0, 1, 1, 2, 0, 3, 1)) || e != api.OK || !slices.Equal(all, before) {
		t.Errorf("%v, %d, %v", a, e, all)
	}
	if !region.Valid(api.Region{Rects: all[2:3]}) || region.Valid(api.Region{Rects: all[:2]}) || !slices.Equal(all, before) {
		t.Errorf("%v", all)
	}
	sorted := rects(0, 0, 1, 1, 2, 0, 3, 1)
	a, _ = region.Of(sorted)
	a.Rects[0].Left = 99
	a.Rects = append(a.Rects, api.Rect{})
	if b, e := region.Of(sorted); !same(b, of(0, 0, 1, 1, 2, 0, 3, 1)) || e != api.OK {
		t.Errorf("%v, %d", b, e)
	}
}
