package area

import (
	"iter"
	"math"
	"runtime"
	"slices"
	"testing"
	"time"

	"quadrille/api"
	"quadrille/spot"
)

const (
	least = math.MinInt
	most  = math.MaxInt
)

// within fails the test if the work goes on for far longer than it can.
func within(t *testing.T, what string, work func()) {
	t.Helper()
	done := make(chan struct{})
	go func() {
		defer close(done)
		work()
	}()
	select {
	case <-done:
	case <-time.After(20 * time.Second):
		t.Fatalf("P0.1: %s is not done", what)
	}
}

func rect(top, left, bottom, right int) api.Area {
	return api.Area{Top: top, Left: left, Bottom: bottom, Right: right}
}

func at(row, col int) api.Spot { return api.Spot{Row: row, Col: col} }

// grid is the area of all places.
func grid() api.Area { return rect(0, 0, 65535, 701) }

// goodAreas gives areas that may be: one place, one row, one column, more of both, at each edge of the grid.
func goodAreas() []api.Area {
	return []api.Area{
		{}, rect(4, 7, 4, 7), rect(65535, 701, 65535, 701), rect(0, 701, 0, 701), rect(65535, 0, 65535, 0), rect(3, 2, 3, 9), rect(2, 3, 9, 3), rect(0, 0, 0, 701), rect(65535, 0, 65535, 701),
		rect(0, 0, 65535, 0), rect(0, 701, 65535, 701), rect(1, 1, 2, 3), rect(65534, 700, 65535, 701), rect(0, 0, 4095, 0), rect(0, 0, 4096, 0), rect(702, 5, 60000, 699), grid(),
	}
}

// wrongAreas gives areas that may not be: each corner off the grid on each side, sides that have changed places, numbers at the ends of 64 bits, and such as would be areas if a number wrapped.
func wrongAreas() []api.Area {
	return []api.Area{
		rect(1, 0, 0, 0), rect(0, 1, 0, 0), rect(1, 1, 0, 0), rect(5, 0, 4, 9), rect(0, 9, 5, 8), rect(65535, 0, 0, 701), rect(0, 701, 65535, 0), rect(65535, 701, 0, 0),
		rect(-1, 0, 0, 0), rect(0, -1, 0, 0), rect(-1, -1, 0, 0), rect(-1, 0, -1, 0), rect(0, -1, 0, -1), rect(0, 0, -1, 0), rect(0, 0, 0, -1), rect(-3, -3, -1, -1), rect(-1, 0, 65535, 701), rect(0, -1, 65535, 701),
		rect(0, 0, 65536, 0), rect(0, 0, 0, 702), rect(65536, 0, 65536, 0), rect(0, 702, 0, 702), rect(0, 0, 65536, 701), rect(0, 0, 65535, 702), rect(65536, 702, 65536, 702), rect(65535, 701, 65536, 702),
		rect(least, 0, 0, 0), rect(0, least, 0, 0), rect(0, 0, most, 0), rect(0, 0, 0, most), rect(0, 0, most, most), rect(least, least, most, most), rect(most, most, most, most), rect(least, least, least, least),
		rect(most, 0, least, 0), rect(0, most, 0, least), rect(most-1, 0, most, 0), rect(0, most-1, 0, most), rect(least, 0, most, 0), rect(0, least, 0, most), rect(0, 0, most-1, 701), rect(0, 0, 65535, most-1),
		rect(0, 0, 1<<32, 0), rect(0, 0, 0, 1<<32), rect(1<<32, 0, 1<<32, 0), rect(0, 1<<32, 0, 1<<32), rect(-1<<32, 0, 5, 0), rect(0, 0, 5+1<<32, 5), rect(1<<62, 1<<62, 1<<62, 1<<62),
	}
}

func TestMay(t *testing.T) {
	for _, a := range goodAreas() {
		if e := May(a); e != api.OK {
			t.Errorf("P3.1: May(%+v): %d", a, e)
		}
	}
	for _, a := range wrongAreas() {
		if e := May(a); e != api.ErrArea {
			t.Errorf("P3.1: May(%+v): %d", a, e)
		}
	}
}

func TestSize(t *testing.T) {
	for _, c := range []struct {
		a    api.Area
		want int
	}{
		{api.Area{}, 1}, {rect(65535, 701, 65535, 701), 1}, {rect(0, 0, 2, 1), 6}, {rect(0, 0, 1, 2), 6}, {rect(3, 2, 3, 9), 8}, {rect(2, 3, 9, 3), 8}, {rect(0, 0, 0, 701), 702}, {rect(65535, 0, 65535, 701), 702},
		{rect(0, 0, 4094, 0), 4095}, {rect(0, 0, 4095, 0), 4096}, {rect(61440, 701, 65535, 701), 4096}, {rect(0, 0, 63, 63), 4096}, {rect(65472, 638, 65535, 701), 4096}, {rect(0, 0, 7, 511), 4096}, {rect(0, 0, 2047, 1), 4096},
		{rect(0, 0, 4, 701), 3510}, {rect(0, 0, 44, 90), 4095}, {rect(10, 20, 73, 83), 4096},
	} {
		if n, e := Size(c.a); n != c.want || e != api.OK {
			t.Errorf("P3.2: Size(%+v): %d, %d; want %d", c.a, n, e, c.want)
		}
	}
	for _, a := range []api.Area{
		rect(0, 0, 4096, 0), rect(61439, 701, 65535, 701), rect(0, 0, 240, 16), rect(0, 0, 16, 240), rect(0, 0, 64, 63), rect(0, 0, 63, 64), rect(0, 0, 5, 701), rect(0, 0, 65535, 0), rect(0, 0, 65535, 701), rect(0, 0, 32767, 511),
	} {
		if n, e := Size(a); n != 0 || e != api.ErrLong {
			t.Errorf("P3.2, P3.8: Size(%+v): %d, %d; want ErrLong", a, n, e)
		}
	}
	for _, a := range wrongAreas() {
		if n, e := Size(a); n != 0 || e != api.ErrArea {
			t.Errorf("P3.2, P3.8: Size(%+v): %d, %d; want ErrArea", a, n, e)
		}
	}
}

func TestHas(t *testing.T) {
	for _, a := range goodAreas() {
		middle := at((a.Top+a.Bottom)/2, (a.Left+a.Right)/2)
		for _, s := range []api.Spot{at(a.Top, a.Left), at(a.Top, a.Right), at(a.Bottom, a.Left), at(a.Bottom, a.Right), middle} {
			if !Has(a, s) {
				t.Errorf("P3.3: Has(%+v, %+v) is false", a, s)
			}
		}
		for _, s := range []api.Spot{
			at(a.Top-1, middle.Col), at(a.Bottom+1, middle.Col), at(middle.Row, a.Left-1), at(middle.Row, a.Right+1), at(a.Top-1, a.Left-1), at(a.Bottom+1, a.Right+1),
			at(least, middle.Col), at(most, middle.Col), at(middle.Row, least), at(middle.Row, most), at(least, least), at(most, most), at(middle.Row+1<<32, middle.Col), at(middle.Row, middle.Col+1<<32),
		} {
			if Has(a, s) {
				t.Errorf("P3.3: Has(%+v, %+v) is true", a, s)
			}
		}
	}
	if !Has(rect(1, 1, 2, 2), at(1, 2)) || Has(rect(1, 1, 2, 2), at(1, 0)) {
		t.Error("P3.3: B2:C3 has C2 and has not A2")
	}
}

func TestWrongAreasHaveNothing(t *testing.T) {
	for _, a := range wrongAreas() {
		for _, s := range []api.Spot{{}, at(0, 701), at(65535, 0), at(65535, 701), at(5, 5), at(a.Top, a.Left), at(a.Bottom, a.Right), at(a.Top, a.Right), at(a.Bottom, a.Left), at(-1, -1), at(65536, 702)} {
			if Has(a, s) {
				t.Errorf("P3.3: Has(%+v, %+v) is true", a, s)
			}
		}
	}
}

func TestOf(t *testing.T) {
	for _, want := range append(goodAreas(), rect(-5, -7, 3, 9), rect(least, least, most, most), rect(65535, 700, 65536, 703), rect(least, most, least, most), rect(least, 0, most, 0), rect(most-1, least, most, least+1)) {
		corners := []api.Spot{at(want.Top, want.Left), at(want.Bottom, want.Right), at(want.Top, want.Right), at(want.Bottom, want.Left)}
		for _, pair := range [][2]int{{0, 1}, {1, 0}, {2, 3}, {3, 2}} {
			a, b := corners[pair[0]], corners[pair[1]]
			if got := Of(a, b); got != want {
				t.Errorf("P3.4: Of(%+v, %+v): %+v; want %+v", a, b, got, want)
			}
		}
	}
	if got := Of(at(0, 2), at(2, 0)); got != rect(0, 0, 2, 2) {
		t.Errorf("P3.4: Of(C1, A3): %+v", got)
	}
}

// checkMeet holds what two areas have in common against what it should be, asked in both orders.
func checkMeet(t *testing.T, a, b, want api.Area, wantSome bool) {
	t.Helper()
	if got, some := Meet(a, b); got != want || some != wantSome {
		t.Errorf("P3.5: Meet(%+v, %+v): %+v, %v; want %+v, %v", a, b, got, some, want, wantSome)
	}
	if got, some := Meet(b, a); got != want || some != wantSome {
		t.Errorf("P3.5: Meet(%+v, %+v): %+v, %v; want %+v, %v", b, a, got, some, want, wantSome)
	}
}

func TestMeet(t *testing.T) {
	checkMeet(t, rect(0, 0, 2, 2), rect(1, 1, 8, 3), rect(1, 1, 2, 2), true)
	checkMeet(t, rect(0, 0, 2, 2), rect(2, 2, 8, 8), rect(2, 2, 2, 2), true)
	checkMeet(t, rect(0, 2, 2, 4), rect(2, 0, 4, 2), rect(2, 2, 2, 2), true)
	checkMeet(t, rect(3, 0, 3, 701), rect(0, 5, 65535, 5), rect(3, 5, 3, 5), true)
	checkMeet(t, rect(3, 3, 4, 4), rect(1, 1, 8, 8), rect(3, 3, 4, 4), true)
	checkMeet(t, rect(0, 0, 9, 5), rect(4, 0, 6, 5), rect(4, 0, 6, 5), true)
	for _, a := range goodAreas() {
		checkMeet(t, a, a, a, true)
		checkMeet(t, a, grid(), a, true)
	}
	for _, apart := range [][2]api.Area{
		{rect(0, 0, 1, 0), rect(0, 1, 1, 1)}, {rect(0, 0, 0, 1), rect(1, 0, 1, 1)}, {rect(0, 0, 1, 1), rect(2, 2, 3, 3)}, {rect(0, 2, 1, 3), rect(2, 0, 3, 1)}, {rect(0, 0, 5, 5), rect(0, 7, 5, 9)},
		{rect(0, 0, 5, 5), rect(7, 0, 9, 5)}, {rect(0, 0, 65535, 0), rect(0, 701, 65535, 701)}, {rect(0, 0, 0, 701), rect(65535, 0, 65535, 701)}, {api.Area{}, rect(65535, 701, 65535, 701)},
	} {
		checkMeet(t, apart[0], apart[1], api.Area{}, false)
	}
	for _, wrong := range wrongAreas() {
		checkMeet(t, wrong, wrong, api.Area{}, false)
		for _, a := range goodAreas() {
			checkMeet(t, wrong, a, api.Area{}, false)
		}
	}
}

// model reckons with areas by going through places one by one. It knows only the lines of the grid that it is handed, and those just beyond the edges.
type model struct {
	rows, cols []int
}

func (m model) areas() []api.Area {
	var all []api.Area
	for _, top := range m.rows {
		for _, bottom := range m.rows {
			for _, left := range m.cols {
				for _, right := range m.cols {
					all = append(all, rect(top, left, bottom, right))
				}
			}
		}
	}
	return all
}

// mayBe tells whether an area may be, by the words of the document: every corner a place that has a text.
func (m model) mayBe(a api.Area) bool {
	for _, corner := range []api.Spot{at(a.Top, a.Left), at(a.Top, a.Right), at(a.Bottom, a.Left), at(a.Bottom, a.Right)} {
		if _, e := spot.Text(corner); e != api.OK {
			return false
		}
	}
	return !(a.Top > a.Bottom) && !(a.Left > a.Right)
}

// placesOf gives those of the model's places that an area has, in row order.
func (m model) placesOf(a api.Area) []api.Spot {
	if !m.mayBe(a) {
		return nil
	}
	var l []api.Spot
	for _, row := range m.rows {
		for _, col := range m.cols {
			if row >= a.Top && row <= a.Bottom && col >= a.Left && col <= a.Right {
				l = append(l, at(row, col))
			}
		}
	}
	return l
}

// meet gives the area of the places that stand in both lists.
func (m model) meet(a, b []api.Spot) (api.Area, bool) {
	var l []api.Spot
	for _, s := range a {
		if slices.Contains(b, s) {
			l = append(l, s)
		}
	}
	if len(l) == 0 {
		return api.Area{}, false
	}
	// The places are in row order, and those of a rectangle, so that its first and its last one are corners.
	first, last := l[0], l[len(l)-1]
	return rect(first.Row, first.Col, last.Row, last.Col), true
}

func models() []model {
	return []model{
		{[]int{-1, 0, 1, 65535, 65536}, []int{-1, 0, 1, 701, 702}},
		{[]int{3, 4, 5, 6}, []int{7, 8, 9, 10}},
		{[]int{0, 700, 701, 702}, []int{0, 700, 701, 702}},
	}
}

func TestReckoningAgainstTheModel(t *testing.T) {
	for _, m := range models() {
		areas := m.areas()
		places := make([][]api.Spot, len(areas))
		for i, a := range areas {
			places[i] = m.placesOf(a)
			if got := May(a) == api.OK; got != m.mayBe(a) {
				t.Errorf("P3.1: May(%+v) OK: %v", a, got)
			}
			for _, row := range m.rows {
				for _, col := range m.cols {
					if got := Has(a, at(row, col)); got != slices.Contains(places[i], at(row, col)) {
						t.Errorf("P3.3: Has(%+v, row %d, column %d): %v", a, row, col, got)
					}
				}
			}
		}
		for i, a := range areas {
			for k, b := range areas[:i+1] {
				want, wantSome := m.meet(places[i], places[k])
				checkMeet(t, a, b, want, wantSome)
			}
		}
	}
}

func checkMove(t *testing.T, a api.Area, dr, dc int64, want api.Area, wantE api.Errno) {
	t.Helper()
	if got, e := Move(a, dr, dc); got != want || e != wantE {
		t.Errorf("P3.6: Move(%+v, %d, %d): %+v, %d; want %+v, %d", a, dr, dc, got, e, want, wantE)
	}
}

func TestMove(t *testing.T) {
	checkMove(t, rect(0, 0, 1, 1), 1, 2, rect(1, 2, 2, 3), api.OK)
	checkMove(t, rect(5, 6, 7, 9), -5, -6, rect(0, 0, 2, 3), api.OK)
	checkMove(t, rect(5, 6, 7, 9), -2, 4, rect(3, 10, 5, 13), api.OK)
	checkMove(t, rect(5, 6, 7, 9), 4, -2, rect(9, 4, 11, 7), api.OK)
	checkMove(t, api.Area{}, 65535, 701, rect(65535, 701, 65535, 701), api.OK)
	checkMove(t, rect(65535, 701, 65535, 701), -65535, -701, api.Area{}, api.OK)
	checkMove(t, rect(0, 0, 1, 1), -1, 0, api.Area{}, api.ErrSpot)
	checkMove(t, api.Area{}, 0, math.MaxInt64, api.Area{}, api.ErrSpot)
}

func TestMovesToTheEdgesAndBeyond(t *testing.T) {
	for _, a := range goodAreas() {
		height, width := a.Bottom-a.Top, a.Right-a.Left
		up, down, left, right := int64(-a.Top), int64(65535-a.Bottom), int64(-a.Left), int64(701-a.Right)
		checkMove(t, a, 0, 0, a, api.OK)
		checkMove(t, a, up, 0, rect(0, a.Left, height, a.Right), api.OK)
		checkMove(t, a, down, 0, rect(65535-height, a.Left, 65535, a.Right), api.OK)
		checkMove(t, a, 0, left, rect(a.Top, 0, a.Bottom, width), api.OK)
		checkMove(t, a, 0, right, rect(a.Top, 701-width, a.Bottom, 701), api.OK)
		checkMove(t, a, down, left, rect(65535-height, 0, 65535, width), api.OK)
		checkMove(t, a, up, right, rect(0, 701-width, height, 701), api.OK)
		for _, by := range [][2]int64{{up - 1, 0}, {down + 1, 0}, {0, left - 1}, {0, right + 1}, {up - 1, left}, {down, right + 1}, {up - 1, right + 1}, {down + 1, left - 1}} {
			checkMove(t, a, by[0], by[1], api.Area{}, api.ErrSpot)
		}
	}
}

func TestMovesByHugeNumbers(t *testing.T) {
	huge := []int64{math.MinInt64, math.MinInt64 + 1, math.MaxInt64, math.MaxInt64 - 1, 1 << 32, -1 << 32, 1<<32 + 1, 1 << 62, -1 << 62, 65536, -65536, math.MinInt64 + 65535, math.MaxInt64 - 65535}
	for _, a := range goodAreas() {
		for _, by := range huge {
			checkMove(t, a, by, 0, api.Area{}, api.ErrSpot)
			checkMove(t, a, 0, by, api.Area{}, api.ErrSpot)
			checkMove(t, a, by, by, api.Area{}, api.ErrSpot)
			checkMove(t, a, by, -by, api.Area{}, api.ErrSpot)
		}
	}
	// That it may not be comes ahead of where it would lie, also where it would lie on the grid.
	for _, a := range wrongAreas() {
		for _, by := range append(huge, 0, 1, -1) {
			checkMove(t, a, by, 0, api.Area{}, api.ErrArea)
			checkMove(t, a, 0, by, api.Area{}, api.ErrArea)
			checkMove(t, a, by, by, api.Area{}, api.ErrArea)
		}
	}
}

// allCases gives areas with their places in row order, written out one by one.
func allCases() map[api.Area][]api.Spot {
	return map[api.Area][]api.Spot{
		{}:                               {{}},
		rect(65535, 701, 65535, 701):     {at(65535, 701)},
		rect(0, 0, 1, 1):                 {{}, at(0, 1), at(1, 0), at(1, 1)},
		rect(3, 2, 3, 5):                 {at(3, 2), at(3, 3), at(3, 4), at(3, 5)},
		rect(2, 3, 5, 3):                 {at(2, 3), at(3, 3), at(4, 3), at(5, 3)},
		rect(1, 4, 3, 5):                 {at(1, 4), at(1, 5), at(2, 4), at(2, 5), at(3, 4), at(3, 5)},
		rect(65534, 699, 65535, 701):     {at(65534, 699), at(65534, 700), at(65534, 701), at(65535, 699), at(65535, 700), at(65535, 701)},
		rect(701, 0, 702, 1):             {at(701, 0), at(701, 1), at(702, 0), at(702, 1)},
		rect(65535, 0, 65535, 1):         {at(65535, 0), at(65535, 1)},
		rect(9, 701, 10, 701):            {at(9, 701), at(10, 701)},
		rect(65535, 701, 65534, 701):     nil,
		rect(0, 701, 0, 702):             nil,
		rect(-1, 0, 0, 0):                nil,
		rect(65536, 702, 65536, 702):     nil,
		rect(0, 5, 9, 4):                 nil,
		rect(least, least, least, least): nil,
	}
}

func TestAll(t *testing.T) {
	for a, want := range allCases() {
		places := All(a)
		if places == nil {
			t.Fatalf("P3.7: All(%+v) is nil", a)
		}
		for round := range 3 {
			if got := slices.Collect(places); !slices.Equal(got, want) {
				t.Errorf("P3.7: All(%+v), round %d: %v; want %v", a, round, got, want)
			}
		}
	}
}

func TestAllOfWrongAreas(t *testing.T) {
	within(t, "going over areas that may not be", func() {
		for _, a := range wrongAreas() {
			places := All(a)
			if places == nil {
				t.Errorf("P3.7: All(%+v) is nil", a)
				continue
			}
			for s := range places {
				t.Errorf("P3.7: All(%+v) has %+v", a, s)
				break
			}
		}
	})
}

func TestAllLeftEarly(t *testing.T) {
	for a, want := range allCases() {
		places := All(a)
		for before := range len(want) {
			calls := 0
			var got []api.Spot
			// Asked without a range, so that a call behind the last one is counted.
			places(func(s api.Spot) bool {
				calls++
				got = append(got, s)
				return calls <= before
			})
			if !slices.Equal(got, want[:before+1]) {
				t.Errorf("P3.7: All(%+v), left behind %d: %v", a, before+1, got)
			}
		}
		// Leaving it early leaves nothing behind for the next one.
		if got := slices.Collect(places); !slices.Equal(got, want) {
			t.Errorf("P3.7: All(%+v), gone over again: %v", a, got)
		}
	}
}

func TestAllWithinItself(t *testing.T) {
	for a, want := range allCases() {
		places := All(a)
		var pairs, wantPairs [][2]api.Spot
		for _, s := range want {
			for _, other := range want {
				wantPairs = append(wantPairs, [2]api.Spot{s, other})
			}
		}
		for s := range places {
			for other := range places {
				pairs = append(pairs, [2]api.Spot{s, other})
			}
			for range places {
				break
			}
		}
		if !slices.Equal(pairs, wantPairs) {
			t.Errorf("P3.7: All(%+v) within itself: %v; want %v", a, pairs, wantPairs)
		}
	}
}

func TestAllSideBySide(t *testing.T) {
	a, b := rect(1, 4, 3, 5), rect(65534, 699, 65535, 701)
	one, stopOne := iter.Pull(All(a))
	defer stopOne()
	two, stopTwo := iter.Pull(All(b))
	defer stopTwo()
	again, stopAgain := iter.Pull(All(a))
	defer stopAgain()
	again()
	cases := allCases()
	for i := range cases[a] {
		s, _ := one()
		u, _ := two()
		if s != cases[a][i] || u != cases[b][i] {
			t.Errorf("P3.7, P3.8: place %d of both: %+v, %+v", i, s, u)
		}
	}
	if s, some := again(); s != cases[a][1] || !some {
		t.Errorf("P3.8: the second place: %+v, %v", s, some)
	}
}

func TestAllGoesOverWhatWasAtTheCall(t *testing.T) {
	a := rect(0, 0, 1, 1)
	places := All(a)
	a.Bottom, a.Left = 9, 1
	if got := slices.Collect(places); !slices.Equal(got, allCases()[rect(0, 0, 1, 1)]) {
		t.Errorf("P0.7: %v", got)
	}
}

// allocated gives how many bytes of memory the work takes: the least of some rounds, since others than the work may take some meanwhile.
func allocated(work func()) uint64 {
	least := uint64(math.MaxUint64)
	for range 5 {
		var before, behind runtime.MemStats
		runtime.ReadMemStats(&before)
		work()
		runtime.ReadMemStats(&behind)
		least = min(least, behind.TotalAlloc-before.TotalAlloc)
	}
	return least
}

func TestFirstPlacesOfTheWholeGrid(t *testing.T) {
	want := []api.Spot{{}, at(0, 1), at(0, 2)}
	var got []api.Spot
	bytes := allocated(func() {
		got = nil
		for s := range All(grid()) {
			if got = append(got, s); len(got) == len(want) {
				break
			}
		}
	})
	if !slices.Equal(got, want) {
		t.Errorf("P3.7: the first places: %v", got)
	}
	// A row of the grid has more bytes than that, the whole of it 700 millions.
	if bytes > 8192 {
		t.Errorf("P3.7: %d bytes for %d places", bytes, len(want))
	}
}

func TestAllOfTheWholeGrid(t *testing.T) {
	within(t, "going over the whole grid", func() {
		count, next := 0, api.Spot{}
		for s := range All(grid()) {
			if s != next {
				t.Errorf("P3.7: place %d of the grid: %+v; want %+v", count, s, next)
				return
			}
			if next.Col++; next.Col == 702 {
				next = at(next.Row+1, 0)
			}
			count++
		}
		if count != 65536*702 {
			t.Errorf("P3.7: the grid has %d places", count)
		}
	})
}

func TestAllAgainstTheOtherCalls(t *testing.T) {
	for _, m := range models() {
		for _, a := range m.areas() {
			size, e := Size(a)
			if e == api.ErrLong {
				continue
			}
			places := slices.Collect(All(a))
			if len(places) != size {
				t.Errorf("P3.2, P3.7: %+v: %d places; Size %d", a, len(places), size)
			}
			if !slices.IsSortedFunc(places, spot.Compare) || len(slices.Compact(slices.Clone(places))) != len(places) {
				t.Errorf("P3.7: All(%+v) is not in row order", a)
			}
			for _, s := range places {
				if !Has(a, s) {
					t.Errorf("P3.3, P3.7: %+v has not its place %+v", a, s)
				}
			}
		}
	}
}

// answers is what all calls tell of an area and another one.
type answers struct {
	may, sizeE, moveE api.Errno
	size              int
	has, some         bool
	of, meet, moved   api.Area
	first             api.Spot
}

func ask(a, b api.Area) answers {
	var all answers
	all.may = May(a)
	all.size, all.sizeE = Size(a)
	all.has = Has(a, at(b.Top, b.Left))
	all.of = Of(at(a.Top, a.Left), at(b.Bottom, b.Right))
	all.meet, all.some = Meet(a, b)
	all.moved, all.moveE = Move(a, 3, -2)
	for s := range All(a) {
		all.first = s
		break
	}
	return all
}

func TestAnswersHangOnArgumentsAlone(t *testing.T) {
	areas := append(goodAreas(), wrongAreas()...)
	var told []answers
	for _, a := range areas {
		for _, b := range areas {
			told = append(told, ask(a, b))
		}
	}
	// Asked again in the opposite order, so that each comes behind other calls than before.
	for i := len(told) - 1; i >= 0; i-- {
		a, b := areas[i/len(areas)], areas[i%len(areas)]
		if got := ask(a, b); got != told[i] {
			t.Errorf("P3.8: of %+v and %+v: %+v; before: %+v", a, b, got, told[i])
		}
	}
}
