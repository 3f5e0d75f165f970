package calendar_test

import (
	"math"
	"math/rand"
	"slices"
	"testing"

	"landaid/api"
	"landaid/calendar"
)

// naiveWorking counts working days of a good span, day by day.
func naiveWorking(from, until int, free []int) int {
	working := 0
	for day := from; day < until; day++ {
		if day%7 != 5 && day%7 != 6 && !slices.Contains(free, day) {
			working++
		}
	}
	return working
}

// P3.3: spans with free days of all sorts: in any order, twice, at weekends, outside of the span, and no days at all.
func TestP33Working(t *testing.T) {
	for _, c := range []struct {
		from, until int
		free        []int
		want        int
	}{
		{0, 0, nil, 0},
		{0, 1, nil, 1},
		{0, 5, nil, 5},
		{0, 6, nil, 5},
		{0, 7, nil, 5},
		{0, 8, nil, 6},
		{4, 5, nil, 1},
		{5, 6, nil, 0},
		{6, 7, nil, 0},
		{5, 7, nil, 0},
		{7, 8, nil, 1},
		{3, 3, nil, 0},
		{3, 10, nil, 5},
		{364, 366, nil, 2},
		{365, 372, nil, 5},
		{0, 365, nil, 261},
		{0, 7, []int{}, 5},
		{0, 7, []int{2}, 4},
		{0, 7, []int{0}, 4},
		{0, 7, []int{4}, 4},
		{0, 7, []int{5, 6}, 5},
		{0, 7, []int{7}, 5},
		{7, 14, []int{6, 14}, 5},
		{7, 14, []int{7, 11}, 3},
		{0, 7, []int{3, 3, 3}, 4},
		{0, 7, []int{4, 3, 2, 1, 0}, 0},
		{0, 14, []int{0, 1, 1, 5}, 8},
		{0, 10, []int{9, 2, 30}, 6},
		{0, 14, []int{11, 0, 8, 3}, 6},
		{0, 7, []int{-1, -7, math.MinInt, math.MaxInt, api.MaxDay, api.MaxDay + 1}, 5},
		{0, 7, []int{math.MaxInt, 1, math.MinInt}, 4},
		{api.MaxDay, api.MaxDay + 1, nil, 1},
		{api.MaxDay, api.MaxDay + 1, []int{api.MaxDay}, 0},
		{api.MaxDay - 1, api.MaxDay, nil, 1},
		{api.MaxDay + 1, api.MaxDay + 1, nil, 0},
		{0, api.MaxDay + 1, nil, 26333},
		{0, api.MaxDay + 1, []int{0, api.MaxDay}, 26331},
	} {
		if working, e := calendar.Working(c.from, c.until, c.free); working != c.want || e != api.OK {
			t.Errorf("Working(%d, %d, %d): %d, %d; want %d", c.from, c.until, c.free, working, e, c.want)
		}
	}
}

// P3.3: as many free days as are permitted, each one counted.
func TestP33WorkingAtLimit(t *testing.T) {
	free := make([]int, api.MaxLines)
	for i := range free {
		free[i] = 7 * (len(free) - 1 - i)
	}
	for _, c := range []struct {
		until int
		free  []int
		want  int
	}{
		{7 * api.MaxLines, nil, 5 * api.MaxLines},
		{7 * api.MaxLines, free[1:], 4*api.MaxLines + 1},
		{7 * api.MaxLines, free, 4 * api.MaxLines},
		{7, make([]int, api.MaxLines), 4},
	} {
		if working, e := calendar.Working(0, c.until, c.free); working != c.want || e != api.OK {
			t.Errorf("%d free days: %d, %d; want %d", len(c.free), working, e, c.want)
		}
	}
}

// P3.3: a bad span comes before too many free days, and there is no number with an error.
func TestP33WorkingErrors(t *testing.T) {
	for _, c := range []struct {
		from, until, free int
		want              api.Errno
	}{
		{-1, 3, 0, api.ErrDay},
		{-1, -1, 0, api.ErrDay},
		{-7, 0, 0, api.ErrDay},
		{4, 3, 0, api.ErrDay},
		{1, 0, 0, api.ErrDay},
		{0, -1, 0, api.ErrDay},
		{0, api.MaxDay + 2, 0, api.ErrDay},
		{api.MaxDay + 2, api.MaxDay + 2, 0, api.ErrDay},
		{api.MaxDay + 2, api.MaxDay + 1, 0, api.ErrDay},
		{math.MinInt, math.MaxInt, 0, api.ErrDay},
		{math.MaxInt, math.MinInt, 0, api.ErrDay},
		{math.MinInt, math.MinInt, 0, api.ErrDay},
		{math.MaxInt, math.MaxInt, 0, api.ErrDay},
		{0, math.MaxInt, 0, api.ErrDay},
		{math.MinInt, 7, 0, api.ErrDay},
		{-1, 3, api.MaxLines + 1, api.ErrDay},
		{4, 3, api.MaxLines + 1, api.ErrDay},
		{0, api.MaxDay + 2, api.MaxLines + 1, api.ErrDay},
		{0, 7, api.MaxLines + 1, api.ErrLimit},
		{3, 3, api.MaxLines + 1, api.ErrLimit},
		{0, api.MaxDay + 1, api.MaxLines + 1, api.ErrLimit},
		{0, 7, 10 * api.MaxLines, api.ErrLimit},
	} {
		if working, e := calendar.Working(c.from, c.until, make([]int, c.free)); working != 0 || e != c.want {
			t.Errorf("Working(%d, %d, %d free days): %d, %d; want error %d", c.from, c.until, c.free, working, e, c.want)
		}
	}
}

// P3.3, with its consequence: random spans against counting day by day; and two spans, one behind the other, add up.
func TestP33WorkingAgainstNaive(t *testing.T) {
	random := rand.New(rand.NewSource(5))
	for range 3000 {
		from := random.Intn(api.MaxDay - 99)
		middle := from + random.Intn(50)
		until := middle + random.Intn(50)
		free := make([]int, random.Intn(30))
		for i := range free {
			free[i] = from - 5 + random.Intn(110)
		}
		all, e := calendar.Working(from, until, free)
		if want := naiveWorking(from, until, free); all != want || e != api.OK {
			t.Fatalf("Working(%d, %d, %d): %d, %d; want %d", from, until, free, all, e, want)
		}
		before, _ := calendar.Working(from, middle, free)
		after, _ := calendar.Working(middle, until, free)
		if before+after != all {
			t.Fatalf("%d to %d to %d, %d: %d and %d, want %d", from, middle, until, free, before, after, all)
		}
	}
}

// R2 and P3.3: free days, with their spare capacity, stay as they are.
func TestP33WorkingKeepsArguments(t *testing.T) {
	want := []int{9, 2, 30, 2, 1, 0}
	days := slices.Clone(want)
	for range 2 {
		if working, e := calendar.Working(0, 10, days[:4]); working != 6 || e != api.OK {
			t.Errorf("%d, %d; want 6", working, e)
		}
	}
	if !slices.Equal(days, want) {
		t.Errorf("the free days are %d, want %d", days, want)
	}
}
