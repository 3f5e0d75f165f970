package calendar_test

import (
	"testing"

	"landaid/api"
	"landaid/calendar"
)

// edges are places at the ends of a year, and some within it.
var edges = []int{0, 1, 2, 10, 11, 20, 181, 182, 183, 359, 360, 362, 363, 364}

// window returns the window from a place until another one.
func window(from, until int) api.Window { return api.Window{From: from, Until: until} }

// placesOf returns which places a valid window has, going from its first one to its last one, over the end of the year if need be.
func placesOf(w api.Window) [365]bool {
	var places [365]bool
	place := w.From
	for places[place] = true; place != w.Until; places[place] = true {
		place = (place + 1) % 365
	}
	return places
}

// edgeWindows returns all windows from one edge until another one.
func edgeWindows() []api.Window {
	var windows []api.Window
	for _, from := range edges {
		for _, until := range edges {
			windows = append(windows, window(from, until))
		}
	}
	return windows
}

// noWindows returns windows that are not valid: with one bad place, and with two.
func noWindows() []api.Window {
	windows := []api.Window{window(-1, -1), window(365, 365), window(-1, 365), window(365, -1), window(noPlaces[0], noPlaces[0])}
	for _, place := range noPlaces {
		for _, good := range []int{0, 5, 364} {
			windows = append(windows, window(place, good), window(good, place))
		}
	}
	return windows
}

// P3.2: days at both ends of windows, within them, and outside.
func TestP32In(t *testing.T) {
	for _, c := range []struct {
		w    api.Window
		day  int
		want bool
	}{
		{window(10, 20), 9, false},
		{window(10, 20), 10, true},
		{window(10, 20), 15, true},
		{window(10, 20), 20, true},
		{window(10, 20), 21, false},
		{window(10, 20), 364, false},
		{window(10, 20), 365 + 9, false},
		{window(10, 20), 365 + 10, true},
		{window(10, 20), 365 + 20, true},
		{window(10, 20), 365 + 21, false},
		{window(10, 20), 36500 + 20, true},
		{window(10, 20), 36500 + 21, false},
		{window(360, 4), 0, true},
		{window(360, 4), 4, true},
		{window(360, 4), 5, false},
		{window(360, 4), 182, false},
		{window(360, 4), 359, false},
		{window(360, 4), 360, true},
		{window(360, 4), 364, true},
		{window(360, 4), 365, true},
		{window(360, 4), 365 + 4, true},
		{window(360, 4), 365 + 5, false},
		{window(360, 4), 36864, true},
		{window(7, 7), 6, false},
		{window(7, 7), 7, true},
		{window(7, 7), 8, false},
		{window(0, 0), 0, true},
		{window(0, 0), 1, false},
		{window(0, 0), 364, false},
		{window(0, 0), 365, true},
		{window(364, 364), 363, false},
		{window(364, 364), 364, true},
		{window(364, 364), 365, false},
		{window(364, 0), 364, true},
		{window(364, 0), 365, true},
		{window(364, 0), 366, false},
		{window(0, 364), 0, true},
		{window(0, 364), 364, true},
		{window(8, 7), 7, true},
		{window(8, 7), 8, true},
		{window(9, 7), 8, false},
	} {
		if calendar.In(c.w, c.day) != c.want {
			t.Errorf("In(%v, %d): not %v", c.w, c.day, c.want)
		}
	}
}

// P3.2: all days of the first two years and of the last one, in windows from and until every edge.
func TestP32InAgainstNaive(t *testing.T) {
	for _, w := range edgeWindows() {
		places := placesOf(w)
		for _, year := range []int{0, 1, 100} {
			for place, want := range places {
				if day := year*365 + place; calendar.In(w, day) != want {
					t.Fatalf("In(%v, %d): not %v", w, day, want)
				}
			}
		}
	}
}

// P3.2: nothing is in a window that is not valid, and what is no day is in no window.
func TestP32InNotValid(t *testing.T) {
	for _, w := range noWindows() {
		for _, day := range append([]int{0, 3, 5, 7, 364, 365, 370, api.MaxDay}, noDays...) {
			if calendar.In(w, day) {
				t.Errorf("In(%v, %d)", w, day)
			}
		}
	}
	for _, w := range edgeWindows() {
		for _, day := range noDays {
			if calendar.In(w, day) {
				t.Errorf("In(%v, %d)", w, day)
			}
		}
	}
}

// P3.2: days in a window are their own next ones, others wait for its beginning, and after the last one there is none.
func TestP32Next(t *testing.T) {
	for _, c := range []struct {
		w         api.Window
		day, want int
		ok        bool
	}{
		{window(10, 20), 0, 10, true},
		{window(10, 20), 9, 10, true},
		{window(10, 20), 10, 10, true},
		{window(10, 20), 15, 15, true},
		{window(10, 20), 20, 20, true},
		{window(10, 20), 21, 375, true},
		{window(10, 20), 364, 375, true},
		{window(10, 20), 365, 375, true},
		{window(10, 20), 36500, 36510, true},
		{window(10, 20), 36520, 36520, true},
		{window(10, 20), 36521, 0, false},
		{window(10, 20), 36864, 0, false},
		{window(360, 4), 0, 0, true},
		{window(360, 4), 4, 4, true},
		{window(360, 4), 5, 360, true},
		{window(360, 4), 359, 360, true},
		{window(360, 4), 364, 364, true},
		{window(360, 4), 365, 365, true},
		{window(360, 4), 370, 725, true},
		{window(360, 4), 36505, 36860, true},
		{window(360, 4), 36864, 36864, true},
		{window(10, 10), 10, 10, true},
		{window(10, 10), 11, 375, true},
		{window(0, 0), 0, 0, true},
		{window(0, 0), 1, 365, true},
		{window(0, 0), 364, 365, true},
		{window(0, 0), 36500, 36500, true},
		{window(0, 0), 36501, 0, false},
		{window(364, 364), 0, 364, true},
		{window(364, 364), 365, 729, true},
		{window(364, 364), 36500, 36864, true},
		{window(0, 364), 36864, 36864, true},
	} {
		if day, ok := calendar.Next(c.w, c.day); day != c.want || ok != c.ok {
			t.Errorf("Next(%v, %d): %d, %v; want %d, %v", c.w, c.day, day, ok, c.want, c.ok)
		}
	}
}

// P3.2: from all days of the first two years and of the last one, against going from day to day.
func TestP32NextAgainstNaive(t *testing.T) {
	for _, w := range edgeWindows() {
		places := placesOf(w)
		for _, last := range []int{1, 100} {
			want, ok := 0, false
			if last < 100 {
				want, ok = (last+1)*365+w.From, true
				if places[0] {
					want = (last + 1) * 365
				}
			}
			for day := last*365 + 364; day >= (last-1)*365; day-- {
				if places[day%365] {
					want, ok = day, true
				}
				if next, found := calendar.Next(w, day); next != want || found != ok {
					t.Fatalf("Next(%v, %d): %d, %v; want %d, %v", w, day, next, found, want, ok)
				}
			}
		}
	}
}

// P3.2: there is no next day from what is no day, nor in a window that is not valid.
func TestP32NextNotValid(t *testing.T) {
	for _, w := range noWindows() {
		for _, day := range append([]int{0, 3, 5, 7, 364, 365, api.MaxDay}, noDays...) {
			if next, ok := calendar.Next(w, day); next != 0 || ok {
				t.Errorf("Next(%v, %d): %d, %v", w, day, next, ok)
			}
		}
	}
	for _, w := range edgeWindows() {
		for _, day := range noDays {
			if next, ok := calendar.Next(w, day); next != 0 || ok {
				t.Errorf("Next(%v, %d): %d, %v", w, day, next, ok)
			}
		}
	}
}

// P3.2: windows of one day, of a whole year, over its end, and such that are not valid.
func TestP32Days(t *testing.T) {
	for _, c := range []struct {
		w    api.Window
		want int
	}{
		{window(10, 20), 11},
		{window(10, 11), 2},
		{window(360, 4), 10},
		{window(364, 0), 2},
		{window(7, 7), 1},
		{window(0, 0), 1},
		{window(364, 364), 1},
		{window(0, 364), 365},
		{window(0, 363), 364},
		{window(1, 364), 364},
		{window(5, 4), 365},
		{window(1, 0), 365},
		{window(364, 363), 365},
		{window(5, 3), 364},
		{window(364, 362), 364},
	} {
		if days := calendar.Days(c.w); days != c.want {
			t.Errorf("Days(%v): %d, want %d", c.w, days, c.want)
		}
	}
	for _, w := range noWindows() {
		if days := calendar.Days(w); days != 0 {
			t.Errorf("Days(%v): %d, want 0", w, days)
		}
	}
}

// P3.2: Days is how many days of a year are in a window; and a window and the one of all other days have all days of a year.
func TestP32DaysOfAllWindows(t *testing.T) {
	for _, w := range edgeWindows() {
		in := 0
		for day := 365; day < 730; day++ {
			if calendar.In(w, day) {
				in++
			}
		}
		if days := calendar.Days(w); days != in {
			t.Errorf("Days(%v): %d, want %d", w, days, in)
		}
	}
	for from := range 365 {
		for until := range 365 {
			w := window(from, until)
			others := window((until+1)%365, (from+364)%365)
			days := calendar.Days(w)
			if (until+1)%365 != from && days+calendar.Days(others) != 365 {
				t.Fatalf("Days(%v): %d, Days(%v): %d", w, days, others, calendar.Days(others))
			}
		}
	}
}
