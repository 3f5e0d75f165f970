package calendar_test

import (
	"math"
	"testing"

	"landaid/api"
	"landaid/calendar"
)

// noDays are numbers that are no days.
var noDays = []int{math.MinInt, math.MinInt + 1, -36865, -366, -365, -364, -2, -1, api.MaxDay + 1, api.MaxDay + 2, api.MaxDay + 365, math.MaxInt - 1, math.MaxInt}

// noPlaces are numbers that are no places of a year.
var noPlaces = []int{math.MinInt, math.MinInt + 1, -365, -2, -1, 365, 366, 730, api.MaxDay, math.MaxInt - 1, math.MaxInt}

// noYears are numbers that are no years.
var noYears = []int{math.MinInt, math.MinInt + 1, -100, -2, -1, 101, 102, 365, math.MaxInt/365 + 1, math.MaxInt - 1, math.MaxInt}

// P3.1: days of the first, of a middle and of the last year, at both ends of a year and within it.
func TestP31Days(t *testing.T) {
	for _, c := range []struct{ year, place, day int }{
		{0, 0, 0},
		{0, 1, 1},
		{0, 100, 100},
		{0, 364, 364},
		{1, 0, 365},
		{1, 364, 729},
		{2, 5, 735},
		{50, 182, 18432},
		{99, 364, 36499},
		{100, 0, 36500},
		{100, 363, 36863},
		{100, 364, 36864},
		{api.MaxYear, api.YearDays - 1, api.MaxDay},
	} {
		if day, e := calendar.Day(c.year, c.place); day != c.day || e != api.OK {
			t.Errorf("Day(%d, %d): %d, %d; want %d", c.year, c.place, day, e, c.day)
		}
		if year, e := calendar.Year(c.day); year != c.year || e != api.OK {
			t.Errorf("Year(%d): %d, %d; want %d", c.day, year, e, c.year)
		}
		if place, e := calendar.Place(c.day); place != c.place || e != api.OK {
			t.Errorf("Place(%d): %d, %d; want %d", c.day, place, e, c.place)
		}
	}
}

// P3.1: the days of all places, year after year, are all days, one after the other; and Year and Place lead back.
func TestP31AllDays(t *testing.T) {
	want := 0
	for year := range 101 {
		for place := range 365 {
			day, e := calendar.Day(year, place)
			if day != want || e != api.OK {
				t.Fatalf("Day(%d, %d): %d, %d; want %d", year, place, day, e, want)
			}
			if back, e := calendar.Year(day); back != year || e != api.OK {
				t.Fatalf("Year(%d): %d, %d; want %d", day, back, e, year)
			}
			if back, e := calendar.Place(day); back != place || e != api.OK {
				t.Fatalf("Place(%d): %d, %d; want %d", day, back, e, place)
			}
			want++
		}
	}
	if want != api.MaxDay+1 {
		t.Errorf("%d days, want %d", want, api.MaxDay+1)
	}
}

// P3.1: a bad year comes before a bad place, and there is no day with an error.
func TestP31DayErrors(t *testing.T) {
	for _, year := range noYears {
		for _, place := range append([]int{0, 5, 364}, noPlaces...) {
			if day, e := calendar.Day(year, place); day != 0 || e != api.ErrYear {
				t.Errorf("Day(%d, %d): %d, %d; want ErrYear", year, place, day, e)
			}
		}
	}
	for _, year := range []int{0, 1, 50, 99, 100} {
		for _, place := range noPlaces {
			if day, e := calendar.Day(year, place); day != 0 || e != api.ErrDay {
				t.Errorf("Day(%d, %d): %d, %d; want ErrDay", year, place, day, e)
			}
		}
	}
}

// P3.1: what is no day has neither a year nor a place.
func TestP31NoDays(t *testing.T) {
	for _, day := range noDays {
		if year, e := calendar.Year(day); year != 0 || e != api.ErrDay {
			t.Errorf("Year(%d): %d, %d; want ErrDay", day, year, e)
		}
		if place, e := calendar.Place(day); place != 0 || e != api.ErrDay {
			t.Errorf("Place(%d): %d, %d; want ErrDay", day, place, e)
		}
	}
}
