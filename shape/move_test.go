package shape_test

import (
	"math"
	"math/rand"
	"slices"
	"testing"

	"landaid/api"
	"landaid/region"
	"landaid/shape"
)

// P6.3: some regions moved, up to each border of the grid, and a square beyond it.
func TestP63Move(t *testing.T) {
	l := of(3, 4, 5, 5, 3, 5, 4, 6)
	s := of(5, 3, 6, 4, 3, 4, 7, 5, 4, 5, 5, 6)
	all := of(0, 0, 16384, 16384)
	for _, c := range []struct {
		a      api.Region
		dx, dy int
		want   api.Region
		e      api.Errno
	}{
		{l, 0, 0, l, api.OK},
		{l, 1, 2, of(4, 6, 6, 7, 4, 7, 5, 8), api.OK},
		{l, -1, 7, of(2, 11, 4, 12, 2, 12, 3, 13), api.OK},
		{l, -3, -4, of(0, 0, 2, 1, 0, 1, 1, 2), api.OK},
		{l, 16379, 16378, of(16382, 16382, 16384, 16383, 16382, 16383, 16383, 16384), api.OK},
		{l, -4, 0, of(), api.ErrRange},
		{l, 0, -5, of(), api.ErrRange},
		{l, 16380, 0, of(), api.ErrRange},
		{l, 0, 16379, of(), api.ErrRange},
		// the border is reached by a rectangle in the middle, or by the last one
		{s, -3, 0, of(2, 3, 3, 4, 0, 4, 4, 5, 1, 5, 2, 6), api.OK},
		{s, -4, 0, of(), api.ErrRange},
		{s, 16377, 0, of(16382, 3, 16383, 4, 16380, 4, 16384, 5, 16381, 5, 16382, 6), api.OK},
		{s, 16378, 0, of(), api.ErrRange},
		{s, 0, -3, of(5, 0, 6, 1, 3, 1, 7, 2, 4, 2, 5, 3), api.OK},
		{s, 0, -4, of(), api.ErrRange},
		{s, 0, 16378, of(5, 16381, 6, 16382, 3, 16382, 7, 16383, 4, 16383, 5, 16384), api.OK},
		{s, 0, 16379, of(), api.ErrRange},
		{of(0, 0, 1, 1), 16383, 16383, of(16383, 16383, 16384, 16384), api.OK},
		{of(16383, 16383, 16384, 16384), -16383, -16383, of(0, 0, 1, 1), api.OK},
		{of(0, 0, 1, 1), 16384, 0, of(), api.ErrRange},
		{of(16383, 16383, 16384, 16384), 0, -16384, of(), api.ErrRange},
		{all, 0, 0, all, api.OK},
		{all, 1, 0, of(), api.ErrRange},
		{all, -1, 0, of(), api.ErrRange},
		{all, 0, 1, of(), api.ErrRange},
		{all, 0, -1, of(), api.ErrRange},
		// without squares only the numbers count
		{of(), 16384, -16384, of(), api.OK},
		{of(), -16384, 16384, of(), api.OK},
		{of(), 16385, 0, of(), api.ErrRange},
		{of(), -16385, 0, of(), api.ErrRange},
		{of(), 0, 16385, of(), api.ErrRange},
		{of(), 0, -16385, of(), api.ErrRange},
		{columns(120, 0, 2, 3, 5), 7, 9, columns(120, 7, 2, 12, 14), api.OK},
	} {
		if a, e := shape.Move(c.a, c.dx, c.dy); !same(a, c.want) || e != c.e {
			t.Errorf("Move(%v, %d, %d): %v, %d; want %v, %d", c.a, c.dx, c.dy, a, e, c.want, c.e)
		}
	}
}

// P6.3: random regions, also in the corners of the grid, square by square.
func TestP63AgainstNaive(t *testing.T) {
	random := rand.New(rand.NewSource(63))
	moved := 0
	for range 1000 {
		for _, corner := range corners {
			a := randomRegion(random, corner, 5, 5)
			dx, dy := random.Intn(25)-12, random.Intn(25)-12
			leaves := false
			for _, r := range a.Rects {
				leaves = leaves || r.Left+dx < 0 || r.Low+dy < 0 || r.Right+dx > api.MaxCoord || r.High+dy > api.MaxCoord
			}
			b, e := shape.Move(a, dx, dy)
			if leaves {
				if b.Rects != nil || e != api.ErrRange {
					t.Fatalf("Move(%v, %d, %d): %v, %d", a, dx, dy, b, e)
				}
				continue
			}
			moved++
			want := canonical(partAt(corner, 12), func(x, y int) bool { return has(a, x-dx, y-dy) })
			if !same(b, want) || e != api.OK || !region.Valid(b) {
				t.Fatalf("Move(%v, %d, %d): %v, %d; want %v", a, dx, dy, b, e, want)
			}
			if back, e := shape.Move(b, -dx, -dy); !same(back, a) || e != api.OK {
				t.Fatalf("Move(%v, %d, %d): %v, %d; want %v", b, -dx, -dy, back, e, a)
			}
		}
	}
	if moved < 1000 {
		t.Errorf("only %d were moved", moved)
	}
}

// P6.3: a region that is not valid comes first, then numbers that are too small or too great.
func TestP63Errors(t *testing.T) {
	far := []int{math.MinInt, math.MinInt + 1, -1 << 32, -16385, 16385, 1 << 32, math.MaxInt - 1, math.MaxInt}
	for _, d := range far {
		for _, other := range append(far, 0, 1, -1) {
			for _, a := range []api.Region{{}, of(5, 5, 6, 6), of(0, 0, 16384, 16384)} {
				for _, by := range [][2]int{{d, other}, {other, d}} {
					if b, e := shape.Move(a, by[0], by[1]); b.Rects != nil || e != api.ErrRange {
						t.Errorf("Move(%v, %d, %d): %v, %d", a, by[0], by[1], b, e)
					}
				}
			}
		}
	}
	for _, bad := range noRegions() {
		for _, d := range append(far, 0, 1, -1) {
			if b, e := shape.Move(bad, d, 0); b.Rects != nil || e != api.ErrRegion {
				t.Errorf("Move(%v, %d, 0): %v, %d", bad, d, b, e)
			}
			if b, e := shape.Move(bad, 0, d); b.Rects != nil || e != api.ErrRegion {
				t.Errorf("Move(%v, 0, %d): %v, %d", bad, d, b, e)
			}
		}
	}
}

// R2 and P6.3: regions stay as they are, with their spare capacity, and share no memory with results.
func TestP63KeepsArguments(t *testing.T) {
	for _, by := range []int{0, 1} {
		a, all := spare(of(10, 10, 20, 20, 13, 20, 20, 30))
		before := slices.Clone(all)
		b, e := shape.Move(a, by, by)
		if e != api.OK || len(b.Rects) != 2 || !slices.Equal(all, before) {
			t.Fatalf("by %d: %v, %d, %v", by, b, e, all)
		}
		b.Rects[0] = api.Rect{}
		b.Rects = append(b.Rects, api.Rect{})
		if !slices.Equal(all, before) {
			t.Errorf("by %d: %v", by, all)
		}
	}
}
