package tolerance_test

import (
	"slices"
	"testing"

	"landaid/api"
	"landaid/tolerance"
)

// P8.2: claims below, at and above the measured area, at and behind both ends of the margin.
func TestP82AcceptAndDecide(t *testing.T) {
	field, strip, corner := api.Measured{Area: 100, Border: 40}, api.Measured{Area: 5, Border: 12}, api.Measured{Area: 1 << 28, Border: 1 << 16}
	for _, c := range []struct {
		claimed           int
		m                 api.Measured
		width             int
		accepted, decided int
	}{
		{100, field, 50, 100, api.Yes},
		{99, field, 50, 99, api.Yes},
		{81, field, 50, 81, api.Yes},
		{80, field, 50, 80, api.Yes},
		{79, field, 50, 100, api.Yes},
		{0, field, 50, 100, api.Yes},
		{101, field, 50, 101, api.Maybe},
		{115, field, 50, 115, api.Maybe},
		{119, field, 50, 119, api.Maybe},
		{120, field, 50, 120, api.Maybe},
		{121, field, 50, 100, api.No},
		{121, field, 51, 121, api.Maybe},
		{1 << 28, field, 50, 100, api.No},
		{100, field, 0, 100, api.Yes},
		{99, field, 0, 100, api.Yes},
		{101, field, 0, 100, api.No},
		{0, strip, 200, 0, api.Yes},
		{10, strip, 200, 10, api.Maybe},
		{11, strip, 200, 5, api.No},
		{0, api.Measured{}, 200, 0, api.Yes},
		{1, api.Measured{Border: 40}, 200, 0, api.No},
		{1 << 28, corner, 0, 1 << 28, api.Yes},
		{1<<28 - 131072, corner, 200, 1<<28 - 131072, api.Yes},
		{1<<28 - 131073, corner, 200, 1 << 28, api.Yes},
	} {
		n, e := tolerance.Accept(c.claimed, c.m, c.width)
		if n != c.accepted || e != api.OK {
			t.Errorf("Accept(%d, %v, %d): %d, %d; want %d", c.claimed, c.m, c.width, n, e, c.accepted)
		}
		n, e = tolerance.Decide(c.claimed, c.m, c.width)
		if n != c.decided || e != api.OK {
			t.Errorf("Decide(%d, %v, %d): %d, %d; want %d", c.claimed, c.m, c.width, n, e, c.decided)
		}
	}
}

// P8.2: measurements and widths near the ends of their ranges, and claims near both ends of the margin and of their own range.
func TestP82AgainstNaive(t *testing.T) {
	for _, m := range measurements() {
		for _, width := range widths {
			margin, _ := tolerance.Margin(m, width)
			low, high := m.Area-margin, m.Area+margin
			for _, claimed := range []int{0, 1, low - 1, low, low + 1, m.Area - 1, m.Area, m.Area + 1, high - 1, high, high + 1, mostArea - 1, mostArea} {
				if claimed < 0 || claimed > mostArea {
					continue
				}
				accepted, decided := m.Area, api.Maybe
				if low <= claimed && claimed <= high {
					accepted = claimed
				}
				if claimed <= m.Area {
					decided = api.Yes
				} else if claimed > high {
					decided = api.No
				}
				if n, e := tolerance.Accept(claimed, m, width); n != accepted || e != api.OK {
					t.Errorf("Accept(%d, %v, %d): %d, %d; want %d", claimed, m, width, n, e, accepted)
				}
				if n, e := tolerance.Decide(claimed, m, width); n != decided || e != api.OK {
					t.Errorf("Decide(%d, %v, %d): %d, %d; want %d", claimed, m, width, n, e, decided)
				}
			}
		}
	}
}

// P8.2: what is accepted lies between the claimed and the measured area, and a greater width changes only No, to Maybe.
func TestP82Consequences(t *testing.T) {
	m := api.Measured{Area: 60, Border: 32}
	for claimed := range 200 {
		before := api.No
		for width := range mostWidth + 1 {
			margin, _ := tolerance.Margin(m, width)
			accepted, _ := tolerance.Accept(claimed, m, width)
			decided, _ := tolerance.Decide(claimed, m, width)
			if accepted < min(claimed, m.Area) || accepted > max(claimed, m.Area) || max(accepted-m.Area, m.Area-accepted) > margin {
				t.Errorf("Accept(%d, %v, %d): %d", claimed, m, width, accepted)
			}
			if claimed == m.Area && accepted != claimed {
				t.Errorf("Accept(%d, %v, %d): %d", claimed, m, width, accepted)
			}
			if width > 0 && decided != before && (before != api.No || decided != api.Maybe) {
				t.Errorf("Decide(%d, %v, %d): %d, but before %d", claimed, m, width, decided, before)
			}
			before = decided
		}
	}
}

// P8.2: a measurement that is not valid comes before a width or a claimed area out of range.
func TestP82Errors(t *testing.T) {
	check := func(claimed int, m api.Measured, width int, want api.Errno) {
		t.Helper()
		if n, e := tolerance.Accept(claimed, m, width); n != 0 || e != want {
			t.Errorf("Accept(%d, %v, %d): %d, %d; want %d", claimed, m, width, n, e, want)
		}
		if n, e := tolerance.Decide(claimed, m, width); n != 0 || e != want {
			t.Errorf("Decide(%d, %v, %d): %d, %d; want %d", claimed, m, width, n, e, want)
		}
	}
	claims := []int{0, 1, 100, mostArea}
	for _, m := range noMeasurements {
		for _, claimed := range slices.Concat(claims, noClaims) {
			for _, width := range slices.Concat(widths, noWidths) {
				check(claimed, m, width, api.ErrInvalid)
			}
		}
	}
	for _, m := range measurements() {
		for _, width := range noWidths {
			for _, claimed := range slices.Concat(claims, noClaims) {
				check(claimed, m, width, api.ErrRange)
			}
		}
		for _, claimed := range noClaims {
			for _, width := range widths {
				check(claimed, m, width, api.ErrRange)
			}
		}
	}
}
