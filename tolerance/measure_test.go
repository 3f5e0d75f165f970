package tolerance_test

import (
	"math"
	"math/rand"
	"slices"
	"testing"

	"landaid/api"
	"landaid/region"
	"landaid/tolerance"
)

// P8.1: regions of one piece, of several ones, with holes, with corners that touch, and as great as there are.
func TestP81Measure(t *testing.T) {
	for _, c := range []struct {
		a    api.Region
		want api.Measured
	}{
		{of(), api.Measured{}},
		{of(7, 9, 8, 10), api.Measured{Area: 1, Border: 4}},
		{of(0, 0, 10, 10), api.Measured{Area: 100, Border: 40}},
		{of(0, 0, 5, 1), api.Measured{Area: 5, Border: 12}},
		{of(0, 0, 2, 1, 1, 1, 3, 2), api.Measured{Area: 4, Border: 10}},
		{of(0, 0, 1, 1, 1, 1, 2, 2), api.Measured{Area: 2, Border: 8}},
		{of(0, 0, 1, 1, 0, 5, 1, 6), api.Measured{Area: 2, Border: 8}},
		{of(0, 0, 4, 1, 0, 1, 1, 3, 3, 1, 4, 3, 0, 3, 4, 4), api.Measured{Area: 12, Border: 24}},
		{of(0, 0, 16384, 16384), api.Measured{Area: 1 << 28, Border: 1 << 16}},
		{of(16383, 16383, 16384, 16384), api.Measured{Area: 1, Border: 4}},
		{columns(120), api.Measured{Area: 120 << 14, Border: 120 * 2 * (1<<14 + 1)}},
	} {
		if m, e := tolerance.Measure(c.a); m != c.want || e != api.OK {
			t.Errorf("Measure(%v): %v, %d; want %v", c.a, m, e, c.want)
		}
	}
}

// P8.1: regions of random squares in the corners of the grid, against their squares, and the sides on which there is no other one.
func TestP81MeasureAgainstNaive(t *testing.T) {
	const wide = 6
	random := rand.New(rand.NewSource(81))
	for range 300 {
		for _, corner := range []api.Point{{X: 0, Y: 0}, {X: api.MaxCoord - wide, Y: 0}, {X: 0, Y: api.MaxCoord - wide}, {X: api.MaxCoord - wide, Y: api.MaxCoord - wide}} {
			var squares []api.Rect
			for i := range wide * wide {
				if x, y := corner.X+i%wide, corner.Y+i/wide; random.Intn(2) == 0 {
					squares = append(squares, api.Rect{Left: x, Low: y, Right: x + 1, High: y + 1})
				}
			}
			a, _ := region.Of(squares)
			want := api.Measured{Area: len(squares)}
			for _, r := range squares {
				for _, side := range []api.Point{{X: -1}, {X: 1}, {Y: -1}, {Y: 1}} {
					if !region.Has(a, r.Left+side.X, r.Low+side.Y) {
						want.Border++
					}
				}
			}
			if m, e := tolerance.Measure(a); m != want || e != api.OK {
				t.Fatalf("Measure(%v): %v, %d; want %v", a, m, e, want)
			}
		}
	}
}

// P8.1: nothing is measured in a region that is not valid.
func TestP81MeasureErrors(t *testing.T) {
	for _, a := range []api.Region{
		of(0, 0, 0, 1),
		of(0, 0, 1, 0),
		of(1, 0, 0, 1),
		of(-1, 0, 1, 1),
		of(0, 0, 16385, 1),
		of(0, 0, 1, 16385),
		of(1, 1, 3, 2, 0, 0, 3, 1),
		of(0, 0, 1, 1, 0, 0, 1, 1),
		of(0, 0, 1, 1, 1, 0, 2, 1),
		of(0, 0, 1, 1, 0, 1, 1, 2),
		of(math.MinInt, math.MinInt, math.MaxInt, math.MaxInt),
		of(math.MaxInt, math.MaxInt, math.MinInt, math.MinInt),
		columns(121),
	} {
		if m, e := tolerance.Measure(a); m != (api.Measured{}) || e != api.ErrRegion {
			t.Errorf("Measure(%v): %v, %d; want ErrRegion", a, m, e)
		}
	}
}

// P8.1: margins that are rounded up, that are no more than the area, and the greatest ones.
func TestP81Margin(t *testing.T) {
	for _, c := range []struct {
		m           api.Measured
		width, want int
	}{
		{api.Measured{Area: 100, Border: 40}, 50, 20},
		{api.Measured{Area: 100, Border: 40}, 0, 0},
		{api.Measured{Area: 100, Border: 0}, 200, 0},
		{api.Measured{Area: 100, Border: 40}, 51, 21},
		{api.Measured{Area: 100, Border: 40}, 52, 21},
		{api.Measured{Area: 100, Border: 40}, 53, 22},
		{api.Measured{Area: 100, Border: 1}, 1, 1},
		{api.Measured{Area: 100, Border: 1}, 100, 1},
		{api.Measured{Area: 100, Border: 1}, 101, 2},
		{api.Measured{Area: 100, Border: 49}, 200, 98},
		{api.Measured{Area: 100, Border: 50}, 200, 100},
		{api.Measured{Area: 100, Border: 51}, 200, 100},
		{api.Measured{Area: 99, Border: 50}, 200, 99},
		{api.Measured{Area: 1, Border: 4}, 25, 1},
		{api.Measured{Area: 1, Border: 4}, 26, 1},
		{api.Measured{Area: 0, Border: 40}, 200, 0},
		{api.Measured{Area: 1 << 28, Border: 1 << 24}, 200, 1 << 25},
		{api.Measured{Area: 1 << 28, Border: 1 << 24}, 199, 33386660},
		{api.Measured{Area: 1<<25 - 1, Border: 1 << 24}, 200, 1<<25 - 1},
		{api.Measured{}, 0, 0},
	} {
		if n, e := tolerance.Margin(c.m, c.width); n != c.want || e != api.OK {
			t.Errorf("Margin(%v, %d): %d, %d; want %d", c.m, c.width, n, e, c.want)
		}
	}
}

// P8.1: the margin is the least area that is not below the border times the width, or the whole area.
func TestP81MarginAgainstNaive(t *testing.T) {
	for _, m := range measurements() {
		for width := range mostWidth + 1 {
			n, e := tolerance.Margin(m, width)
			product := m.Border * width
			rounded := 100*n >= product && 100*(n-1) < product && n <= m.Area
			whole := n == m.Area && 100*n < product
			if !rounded && !whole || e != api.OK {
				t.Errorf("Margin(%v, %d): %d, %d", m, width, n, e)
			}
		}
	}
}

// P8.1: a measurement that is not valid comes before a width out of range.
func TestP81MarginErrors(t *testing.T) {
	for _, m := range noMeasurements {
		for _, width := range slices.Concat(widths, noWidths) {
			if n, e := tolerance.Margin(m, width); n != 0 || e != api.ErrInvalid {
				t.Errorf("Margin(%v, %d): %d, %d; want ErrInvalid", m, width, n, e)
			}
		}
	}
	for _, m := range measurements() {
		for _, width := range noWidths {
			if n, e := tolerance.Margin(m, width); n != 0 || e != api.ErrRange {
				t.Errorf("Margin(%v, %d): %d, %d; want ErrRange", m, width, n, e)
			}
		}
	}
}

// P8.1: areas and borders are summed up, up to the greatest measurement.
func TestP81Sum(t *testing.T) {
	for _, c := range []struct {
		l    []api.Measured
		want api.Measured
	}{
		{nil, api.Measured{}},
		{[]api.Measured{}, api.Measured{}},
		{[]api.Measured{{Area: 5, Border: 9}}, api.Measured{Area: 5, Border: 9}},
		{[]api.Measured{{Area: 1, Border: 2}, {Area: 3, Border: 4}, {Area: 50, Border: 60}}, api.Measured{Area: 54, Border: 66}},
		{[]api.Measured{{Area: 1 << 28}, {Border: 1 << 24}}, api.Measured{Area: 1 << 28, Border: 1 << 24}},
		{[]api.Measured{{Area: 1<<28 - 1, Border: 1}, {Area: 1, Border: 1<<24 - 1}}, api.Measured{Area: 1 << 28, Border: 1 << 24}},
		{slices.Repeat([]api.Measured{{Area: 2, Border: 3}}, 60), api.Measured{Area: 120, Border: 180}},
	} {
		before := slices.Clone(c.l)
		if m, e := tolerance.Sum(c.l); m != c.want || e != api.OK {
			t.Errorf("Sum(%v): %v, %d; want %v", c.l, m, e, c.want)
		}
		if !slices.Equal(c.l, before) {
			t.Errorf("Sum has changed %v to %v", before, c.l)
		}
	}
}

// P8.1: too many measurements, then one that is not valid, wherever it stands, or a sum that is not.
func TestP81SumErrors(t *testing.T) {
	for _, m := range noMeasurements {
		for _, l := range [][]api.Measured{{m}, {m, {Area: 2, Border: 2}}, {{Area: 2, Border: 2}, m}, {m, m}, append(make([]api.Measured, 59), m)} {
			if sum, e := tolerance.Sum(l); sum != (api.Measured{}) || e != api.ErrInvalid {
				t.Errorf("Sum(%v): %v, %d; want ErrInvalid", l, sum, e)
			}
		}
		if sum, e := tolerance.Sum(slices.Repeat([]api.Measured{m}, 61)); sum != (api.Measured{}) || e != api.ErrLimit {
			t.Errorf("Sum of 61 times %v: %v, %d; want ErrLimit", m, sum, e)
		}
	}
	for _, c := range []struct {
		l    []api.Measured
		want api.Errno
	}{
		{[]api.Measured{{Area: 1 << 28}, {Area: 1}}, api.ErrInvalid},
		{[]api.Measured{{Border: 1 << 24}, {Border: 1}}, api.ErrInvalid},
		{[]api.Measured{{Area: 1 << 27, Border: 5}, {Area: 1<<27 + 1, Border: 5}}, api.ErrInvalid},
		{slices.Repeat([]api.Measured{{Area: 1 << 28, Border: 1 << 24}}, 60), api.ErrInvalid},
		{[]api.Measured{{Area: 1 << 28}, {Area: 1}, {Area: -1}}, api.ErrInvalid},
		{[]api.Measured{{Area: 1 << 28}, {Area: 1<<28 + 1}, {Area: -1 << 28}}, api.ErrInvalid},
		{make([]api.Measured, 61), api.ErrLimit},
		{slices.Repeat([]api.Measured{{Area: 1 << 28, Border: 1 << 24}}, 61), api.ErrLimit},
	} {
		if sum, e := tolerance.Sum(c.l); sum != (api.Measured{}) || e != c.want {
			t.Errorf("Sum(%v): %v, %d; want %d", c.l, sum, e, c.want)
		}
	}
}

// P8.1: a region is not changed when it is measured, nor is what stands behind its rectangles.
func TestP81MeasureKeepsItsArgument(t *testing.T) {
	all := of(0, 0, 2, 1, 1, 1, 3, 2, 7, 8, 1, 2).Rects
	before := slices.Clone(all)
	if m, e := tolerance.Measure(api.Region{Rects: all[:2]}); m != (api.Measured{Area: 4, Border: 10}) || e != api.OK {
		t.Errorf("Measure: %v, %d", m, e)
	}
	if !slices.Equal(all, before) {
		t.Errorf("Measure has changed %v to %v", before, all)
	}
}
