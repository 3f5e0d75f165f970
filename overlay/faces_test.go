package overlay_test

import (
	"math/rand"
	"slices"
	"testing"

	"landaid/api"
	"landaid/overlay"
	"landaid/region"
)

// setAt returns the set of a square, given regions.
func setAt(l []api.Region, p api.Point) int {
	set := 0
	for i, a := range l {
		if region.Has(a, p.X, p.Y) {
			set |= 1 << i
		}
	}
	return set
}

// naiveFaces returns the faces of regions in the part of the grid with a lower left corner, square by square.
func naiveFaces(corner api.Point, l []api.Region) []api.Face {
	squares := map[int][]api.Point{}
	for _, p := range squaresOf(corner) {
		set := setAt(l, p)
		squares[set] = append(squares[set], p)
	}
	var out []api.Face
	for set := 1; set < 1<<len(l); set++ {
		if len(squares[set]) > 0 {
			out = append(out, api.Face{Set: set, Region: regionWith(squares[set])})
		}
	}
	return out
}

// P7.1: the faces of some regions.
func TestP71Faces(t *testing.T) {
	all := of(0, 0, 16384, 16384)
	ring := of(0, 0, 3, 1, 0, 1, 1, 2, 2, 1, 3, 2, 0, 2, 3, 3)
	for _, c := range []struct {
		name string
		l    []api.Region
		want []api.Face
	}{
		{"no regions", nil, nil},
		{"an empty one", []api.Region{of()}, nil},
		{"as many empty ones as are permitted", make([]api.Region, 12), nil},
		{"one alone", []api.Region{ring}, []api.Face{{Set: 1, Region: ring}}},
		{"all squares", []api.Region{all}, []api.Face{{Set: 1, Region: all}}},
		{"two that overlap", []api.Region{of(0, 0, 2, 1), of(1, 0, 3, 1)}, []api.Face{{Set: 1, Region: of(0, 0, 1, 1)}, {Set: 2, Region: of(2, 0, 3, 1)}, {Set: 3, Region: of(1, 0, 2, 1)}}},
		{"the same the other way round", []api.Region{of(1, 0, 3, 1), of(0, 0, 2, 1)}, []api.Face{{Set: 1, Region: of(2, 0, 3, 1)}, {Set: 2, Region: of(0, 0, 1, 1)}, {Set: 3, Region: of(1, 0, 2, 1)}}},
		{"one above the other, and a row in common", []api.Region{of(0, 0, 1, 2), of(0, 1, 1, 3)}, []api.Face{{Set: 1, Region: of(0, 0, 1, 1)}, {Set: 2, Region: of(0, 2, 1, 3)}, {Set: 3, Region: of(0, 1, 1, 2)}}},
		{"two that are equal", []api.Region{ring, ring}, []api.Face{{Set: 3, Region: ring}}},
		{"two that touch", []api.Region{of(0, 0, 1, 1), of(1, 0, 2, 1)}, []api.Face{{Set: 1, Region: of(0, 0, 1, 1)}, {Set: 2, Region: of(1, 0, 2, 1)}}},
		{"two that touch in a corner", []api.Region{of(0, 0, 1, 1), of(1, 1, 2, 2)}, []api.Face{{Set: 1, Region: of(0, 0, 1, 1)}, {Set: 2, Region: of(1, 1, 2, 2)}}},
		{"the higher one first", []api.Region{of(0, 5, 1, 6), of(0, 0, 1, 1)}, []api.Face{{Set: 1, Region: of(0, 5, 1, 6)}, {Set: 2, Region: of(0, 0, 1, 1)}}},
		{"one within the other", []api.Region{of(0, 0, 3, 3), of(1, 1, 2, 2)}, []api.Face{{Set: 1, Region: ring}, {Set: 3, Region: of(1, 1, 2, 2)}}},
		{"one around the other", []api.Region{of(1, 1, 2, 2), of(0, 0, 3, 3)}, []api.Face{{Set: 2, Region: ring}, {Set: 3, Region: of(1, 1, 2, 2)}}},
		{"one in the hole of the other", []api.Region{ring, of(1, 1, 2, 2)}, []api.Face{{Set: 1, Region: ring}, {Set: 2, Region: of(1, 1, 2, 2)}}},
		{"an empty one between others", []api.Region{of(0, 0, 1, 1), of(), of(0, 0, 2, 1)}, []api.Face{{Set: 4, Region: of(1, 0, 2, 1)}, {Set: 5, Region: of(0, 0, 1, 1)}}},
		{"a face of two parts", []api.Region{of(0, 0, 5, 1), of(2, 0, 3, 1)}, []api.Face{{Set: 1, Region: of(0, 0, 2, 1, 3, 0, 5, 1)}, {Set: 3, Region: of(2, 0, 3, 1)}}},
		{"a face with rows between its rows", []api.Region{of(0, 0, 2, 5), of(0, 2, 2, 3)}, []api.Face{{Set: 1, Region: of(0, 0, 2, 2, 0, 3, 2, 5)}, {Set: 3, Region: of(0, 2, 2, 3)}}},
		{"rows that only others cut", []api.Region{of(0, 0, 2, 5), of(4, 2, 5, 3)}, []api.Face{{Set: 1, Region: of(0, 0, 2, 5)}, {Set: 2, Region: of(4, 2, 5, 3)}}},
		{"bands of a region in common with another one", []api.Region{of(0, 0, 2, 1, 0, 1, 4, 2), of(0, 0, 1, 2)}, []api.Face{{Set: 1, Region: of(1, 0, 2, 1, 1, 1, 4, 2)}, {Set: 3, Region: of(0, 0, 1, 2)}}},
		{"all sets of three", []api.Region{of(0, 0, 4, 4), of(2, 0, 6, 4), of(0, 2, 6, 6)}, []api.Face{
			{Set: 1, Region: of(0, 0, 2, 2)}, {Set: 2, Region: of(4, 0, 6, 2)}, {Set: 3, Region: of(2, 0, 4, 2)}, {Set: 4, Region: of(0, 4, 6, 6)},
			{Set: 5, Region: of(0, 2, 2, 4)}, {Set: 6, Region: of(4, 2, 6, 4)}, {Set: 7, Region: of(2, 2, 4, 4)},
		}},
		{"the last square", []api.Region{all, of(16383, 16383, 16384, 16384)}, []api.Face{{Set: 1, Region: of(0, 0, 16384, 16383, 0, 16383, 16383, 16384)}, {Set: 3, Region: of(16383, 16383, 16384, 16384)}}},
		{"the last one of twelve", with(of(3, 3, 4, 4), 12, 11), []api.Face{{Set: 2048, Region: of(3, 3, 4, 4)}}},
		{"twelve that are equal", slices.Repeat([]api.Region{ring}, 12), []api.Face{{Set: 4095, Region: ring}}},
	} {
		if l, e := overlay.Faces(c.l); !sameFaces(l, c.want) || e != api.OK {
			t.Errorf("%s: %v, %d; want %v", c.name, l, e, c.want)
		}
	}
}

// P7.1: lists of any sets of a few squares.
func TestP71AllSmallSets(t *testing.T) {
	for _, c := range []struct{ across, up, n int }{{3, 3, 2}, {2, 2, 3}, {3, 1, 4}, {1, 3, 4}} {
		regions := smallRegions(c.across, c.up)
		numbers := make([]int, c.n) // of the regions
		lists := 1
		for range c.n {
			lists *= len(regions)
		}
		for list := range lists {
			var l []api.Region
			for i, rest := 0, list; i < c.n; i, rest = i+1, rest/len(regions) {
				numbers[i] = rest % len(regions)
				l = append(l, regions[numbers[i]])
			}
			var want []api.Face
			for set := 1; set < 1<<c.n; set++ {
				squares := len(regions) - 1
				for i, n := range numbers {
					if set>>i&1 == 1 {
						squares &= n
					} else {
						squares &^= n
					}
				}
				if squares != 0 {
					want = append(want, api.Face{Set: set, Region: regions[squares]})
				}
			}
			if faces, e := overlay.Faces(l); !sameFaces(faces, want) || e != api.OK {
				t.Fatalf("Faces(%v): %v, %d; want %v", l, faces, e, want)
			}
		}
	}
}

// P7.1: the faces of random regions, also in the corners of the grid, square by square.
func TestP71AgainstNaive(t *testing.T) {
	random := rand.New(rand.NewSource(71))
	for i := range 300 {
		for _, corner := range corners {
			l := randomRegions(random, corner, 1+i%12)
			want := naiveFaces(corner, l)
			if faces, e := overlay.Faces(l); !sameFaces(faces, want) || e != api.OK {
				t.Fatalf("Faces(%v): %v, %d; want %v", l, faces, e, want)
			}
		}
	}
}

// P7.1: faces are disjoint; those with a bit are together the region, with its area, and in another order of the regions only the bits are others.
func TestP71Consequences(t *testing.T) {
	random := rand.New(rand.NewSource(711))
	for range 300 {
		l := randomRegions(random, corners[4], 8)
		faces, e := overlay.Faces(l)
		unions, areas := make([]api.Region, len(l)), make([]int, len(l))
		for i, f := range faces {
			for _, g := range faces[:i] {
				if region.Meets(f.Region, g.Region) {
					t.Fatalf("the faces %d and %d of %v meet", g.Set, f.Set, l)
				}
			}
			for j := range l {
				if f.Set>>j&1 == 1 {
					unions[j], _ = region.Union(unions[j], f.Region)
					areas[j] += region.Area(f.Region)
				}
			}
		}
		for i, a := range l {
			if e != api.OK || !same(unions[i], a) || areas[i] != region.Area(a) {
				t.Fatalf("%v, %d: the faces of %v are %v, with %d squares", l, e, a, unions[i], areas[i])
			}
		}
		order := random.Perm(len(l))
		var other []api.Region
		for _, i := range order {
			other = append(other, l[i])
		}
		turned, e := overlay.Faces(other)
		for i, f := range turned {
			set := 0
			for to, from := range order {
				set |= f.Set >> to & 1 << from
			}
			turned[i].Set = set
		}
		slices.SortFunc(turned, func(f, g api.Face) int { return f.Set - g.Set })
		if !sameFaces(turned, faces) || e != api.OK {
			t.Fatalf("%v, in the order %v: %v, %d; want %v", l, order, turned, e, faces)
		}
	}
}

// P7.1: there is no limit on faces: twelve regions with all sets, one in each square.
func TestP71AllSets(t *testing.T) {
	var l []api.Region
	for bit := range 6 {
		var a api.Region
		for x := 1 << bit; x < 64; x += 2 << bit {
			a.Rects = append(a.Rects, api.Rect{Left: x, Low: 0, Right: x + 1<<bit, High: 64})
		}
		l = append(l, a)
	}
	for bit := range 6 {
		var a api.Region
		for y := 1 << bit; y < 64; y += 2 << bit {
			a.Rects = append(a.Rects, api.Rect{Left: 0, Low: y, Right: 64, High: y + 1<<bit})
		}
		l = append(l, a)
	}
	faces, e := overlay.Faces(l)
	if len(faces) != 4095 || e != api.OK {
		t.Fatalf("%d faces, %d", len(faces), e)
	}
	for i, f := range faces {
		set := i + 1
		if x, y := set&63, set>>6; f.Set != set || !same(f.Region, of(x, y, x+1, y+1)) {
			t.Errorf("face %d: %v", set, f)
		}
	}
}

// P7.1: as many regions, and as many rectangles of each face, as are permitted, and one more.
func TestP71AtLimits(t *testing.T) {
	one, comb := of(0, 0, 1, 1), columns(61, 0, 0, 3)
	lattice := []api.Region{columns(120, 0, 0, 500), rows(120, 0, 0, 500), rows(120, 240, 0, 500)}
	for _, c := range []struct {
		name  string
		l     []api.Region
		sizes []int // of the faces
		e     api.Errno
	}{
		{"12 regions", slices.Repeat([]api.Region{one}, 12), []int{1}, api.OK},
		{"13 regions", slices.Repeat([]api.Region{one}, 13), nil, api.ErrLimit},
		{"13 empty regions", make([]api.Region, 13), nil, api.ErrLimit},
		{"120 columns", []api.Region{columns(120, 0, 0, 1)}, []int{120}, api.OK},
		{"120 rows", []api.Region{rows(120, 0, 0, 1)}, []int{120}, api.OK},
		{"121 columns", []api.Region{columns(121, 0, 0, 1)}, nil, api.ErrRegion},
		{"all columns but the last one in another region", []api.Region{columns(120, 0, 0, 1), of(0, 0, 238, 1)}, []int{1, 119, 119}, api.OK},
		{"a row across 60 columns", []api.Region{columns(60, 0, 0, 3), of(0, 1, 200, 2)}, []int{120, 60, 60}, api.OK},
		{"a row across 61 columns: the first face", []api.Region{comb, of(0, 1, 200, 2)}, nil, api.ErrLimit},
		{"a row across 61 columns: the second face", []api.Region{of(0, 1, 200, 2), comb}, nil, api.ErrLimit},
		{"a row across 61 columns that ends before the last one", []api.Region{comb, of(0, 1, 120, 2)}, nil, api.ErrLimit},
		{"a column more at one end", []api.Region{columns(60, 0, 0, 3), of(0, 1, 200, 2), of(300, 9, 301, 10)}, []int{120, 60, 60, 1}, api.OK},
		{"the same column in the first region", []api.Region{together(columns(60, 0, 0, 3), of(300, 9, 301, 10)), of(0, 1, 200, 2)}, nil, api.ErrLimit},
		{"119 columns between 120", []api.Region{columns(120, 0, 0, 1), of(0, 0, 239, 1)}, []int{119, 120}, api.OK},
		{"119 columns between 120, and one behind them", []api.Region{columns(120, 0, 0, 1), of(0, 0, 240, 1)}, []int{120, 120}, api.OK},
		{"121 columns between and around 120", []api.Region{columns(120, 1, 0, 1), of(0, 0, 241, 1)}, nil, api.ErrLimit},
		{"the same in one more region", []api.Region{of(500, 0, 501, 1), of(0, 0, 241, 1), columns(120, 1, 0, 1)}, nil, api.ErrLimit},
		{"a common face of 10 columns and 12 rows", []api.Region{columns(10, 0, 0, 23), rows(12, 0, 0, 19)}, []int{110, 108, 120}, api.OK},
		{"only a common face, of 11 columns and 11 rows", []api.Region{columns(11, 0, 0, 21), rows(11, 0, 0, 21)}, nil, api.ErrLimit},
		{"columns and more than 120 rows", lattice, nil, api.ErrLimit},
	} {
		faces, e := overlay.Faces(c.l)
		var sizes []int
		for _, f := range faces {
			sizes = append(sizes, len(f.Region.Rects))
			if !region.Valid(f.Region) {
				t.Errorf("%s: %v is not valid", c.name, f)
			}
		}
		if !slices.Equal(sizes, c.sizes) || e != c.e {
			t.Errorf("%s: %v, %d; want %v, %d", c.name, sizes, e, c.sizes, c.e)
		}
	}
}

// P7.1: too many regions come first, then such that are not valid, then the rectangles of faces.
func TestP71Errors(t *testing.T) {
	tooMany := []api.Region{columns(61, 0, 0, 3), of(0, 1, 200, 2)}
	if l, e := overlay.Faces(tooMany); l != nil || e != api.ErrLimit {
		t.Errorf("%v, %d", l, e)
	}
	for _, bad := range noRegions() {
		for _, c := range []struct {
			name string
			l    []api.Region
			want api.Errno
		}{
			{"alone", []api.Region{bad}, api.ErrRegion},
			{"twice", []api.Region{bad, bad}, api.ErrRegion},
			{"the first one", with(bad, 12, 0), api.ErrRegion},
			{"one in the middle", with(bad, 12, 5), api.ErrRegion},
			{"the last one", with(bad, 12, 11), api.ErrRegion},
			{"the first one of 13", with(bad, 13, 0), api.ErrLimit},
			{"the last one of 13", with(bad, 13, 12), api.ErrLimit},
			{"before a face with too many rectangles", slices.Concat([]api.Region{bad}, tooMany), api.ErrRegion},
			{"behind a face with too many rectangles", slices.Concat(tooMany, []api.Region{bad}), api.ErrRegion},
		} {
			if l, e := overlay.Faces(c.l); l != nil || e != c.want {
				t.Errorf("%v, %s: %v, %d; want error %d", bad, c.name, l, e, c.want)
			}
		}
	}
}

// R2 and P7.1: regions stay as they are, with their spare capacity, and share no memory with faces, nor these with each other.
func TestP71KeepsArguments(t *testing.T) {
	a, all := spare(of(0, 0, 4, 1, 0, 1, 3, 2))
	b, more := spare(of(1, 0, 2, 5))
	before, moreBefore := slices.Clone(all), slices.Clone(more)
	for _, l := range [][]api.Region{{a}, {a, b}, {b, a}, {a, a, of()}, {a, of(9, 9, 10, 10)}} {
		kept := slices.Clone(l)
		first, e := overlay.Faces(l)
		second, _ := overlay.Faces(l)
		for _, f := range first {
			for i := range f.Region.Rects {
				f.Region.Rects[i] = api.Rect{Left: -9}
			}
			for rest := f.Region.Rects[len(f.Region.Rects):cap(f.Region.Rects)]; len(rest) > 0; rest = rest[1:] {
				rest[0] = api.Rect{Left: -9}
			}
		}
		third, _ := overlay.Faces(kept)
		if e != api.OK || len(first) == 0 || !sameFaces(second, third) || !slices.EqualFunc(l, kept, same) || !slices.Equal(all, before) || !slices.Equal(more, moreBefore) {
			t.Errorf("%v: %v, %v, %d; %v, %v", l, second, third, e, all, more)
		}
	}
}
