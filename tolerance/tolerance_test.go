package tolerance_test

import (
	"math"

	"landaid/api"
)

// The greatest area and border of a valid measurement, and the greatest width.
const (
	mostArea   = 1 << 28
	mostBorder = 1 << 24
	mostWidth  = 200
)

// of returns the region with just these rectangles, canonical or not; four numbers each: left, low, right, high.
func of(n ...int) api.Region {
	var out api.Region
	for i := 0; i < len(n); i += 4 {
		out.Rects = append(out.Rects, api.Rect{Left: n[i], Low: n[i+1], Right: n[i+2], High: n[i+3]})
	}
	return out
}

// columns returns columns of the whole height of the grid, with a column between each two.
func columns(n int) api.Region {
	var out api.Region
	for i := range n {
		out.Rects = append(out.Rects, api.Rect{Left: 2 * i, Low: 0, Right: 2*i + 1, High: api.MaxCoord})
	}
	return out
}

// measurements are valid ones, with areas and borders in and near their ranges' ends.
func measurements() []api.Measured {
	var out []api.Measured
	for _, area := range []int{0, 1, 2, 5, 99, 100, 101, 1 << 20, mostArea - 1, mostArea} {
		for _, border := range []int{0, 1, 2, 4, 40, 41, 99, 100, 101, 1 << 16, mostBorder - 1, mostBorder} {
			out = append(out, api.Measured{Area: area, Border: border})
		}
	}
	return out
}

// widths are ones in and near the ends of their range.
var widths = []int{0, 1, 2, 49, 50, 51, 99, 100, 101, mostWidth - 1, mostWidth}

// noWidths are widths out of range.
var noWidths = []int{-1, mostWidth + 1, -mostWidth, math.MinInt, math.MaxInt, math.MinInt + 1, 1 << 32, 1<<32 + 50}

// noClaims are claimed areas out of range.
var noClaims = []int{-1, mostArea + 1, -mostArea, math.MinInt, math.MaxInt, math.MinInt + 1, 1 << 32, 1<<32 + 50}

// noMeasurements are ones that are not valid, with the area, the border or both out of range.
var noMeasurements = []api.Measured{
	{Area: -1},
	{Area: mostArea + 1},
	{Area: math.MinInt},
	{Area: math.MaxInt},
	{Border: -1},
	{Border: mostBorder + 1},
	{Border: math.MinInt},
	{Border: math.MaxInt},
	{Area: 100, Border: -1},
	{Area: -1, Border: 100},
	{Area: mostArea, Border: mostBorder + 1},
	{Area: mostArea + 1, Border: mostBorder},
	{Area: -1, Border: -1},
	{Area: math.MaxInt, Border: math.MaxInt},
	{Area: math.MinInt, Border: math.MaxInt},
}
