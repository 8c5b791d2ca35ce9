package grid

import (
	"iter"
	"math"
	"slices"
	"strconv"
	"sync"
	"testing"
	"time"

	"quadrille/api"
)

const (
	least = math.MinInt
	most  = math.MaxInt
)

// within fails the test if the work goes on for far longer than it can.
func within(t *testing.T, what string, work func()) {
	t.Helper()
	done := make(chan struct{})
	go func() {
		defer close(done)
		work()
	}()
	select {
	case <-done:
	case <-time.After(20 * time.Second):
		t.Fatalf("P0.1: %s is not done", what)
	}
}

func at(row, col int) api.Spot { return api.Spot{Row: row, Col: col} }

func rect(top, left, bottom, right int) api.Area {
	return api.Area{Top: top, Left: left, Bottom: bottom, Right: right}
}

// wholeGrid is the area of all places.
func wholeGrid() api.Area { return rect(0, 0, 65535, 701) }

func corners() []api.Spot {
	return []api.Spot{{}, at(0, 701), at(65535, 0), at(65535, 701)}
}

// wrongPlaces gives places that are none of the grid's: each number that is none by itself, both at once, and such as would be places if a number were cut.
func wrongPlaces() []api.Spot {
	return []api.Spot{
		at(-1, 0), at(0, -1), at(-1, -1), at(least, 0), at(0, least), at(least, least), at(most, 0), at(0, most), at(most, most), at(least, most), at(most, least),
		at(65536, 0), at(0, 702), at(65536, 702), at(65536, 701), at(65535, 702), at(-1, 701), at(65535, -1), at(5, -1), at(-1, 5), at(5, 702), at(65536, 5),
		at(1<<32, 0), at(0, 1<<32), at(1<<32+5, 5), at(5, 1<<32+5), at(1<<16+5, 5), at(5, 1<<10+5), at(-65536, 0), at(0, -702), at(least+5, 5), at(5, least+5),
	}
}

// wrongAreas gives areas that may not be, around places at which the tests lay something.
func wrongAreas() []api.Area {
	return []api.Area{
		rect(1, 0, 0, 0), rect(0, 1, 0, 0), rect(1, 1, 0, 0), rect(65535, 0, 0, 701), rect(0, 701, 65535, 0), rect(5, 0, 4, 9), rect(0, 9, 5, 8),
		rect(-1, 0, 65535, 701), rect(0, -1, 65535, 701), rect(0, 0, 65536, 701), rect(0, 0, 65535, 702), rect(-1, -1, 65536, 702), rect(-1, 0, 0, 0), rect(0, -1, 0, 0), rect(0, 0, 0, 702), rect(0, 0, 65536, 0),
		rect(-1, -1, -1, -1), rect(65536, 702, 65536, 702), rect(65535, 701, 65536, 701), rect(65535, 701, 65535, 702), rect(0, 0, -1, -1), rect(0, 0, 0, -1), rect(0, 0, -1, 0),
		rect(least, least, most, most), rect(least, 0, 65535, 701), rect(0, least, 65535, 701), rect(0, 0, most, 701), rect(0, 0, 65535, most), rect(most, most, least, least), rect(most, most, most, most), rect(least, least, least, least),
		rect(0, 0, 1<<32+9, 9), rect(0, 0, 9, 1<<32+9), rect(-1<<32, 0, 9, 9), rect(0, -1<<32, 9, 9), rect(1<<32, 1<<32, 1<<32, 1<<32),
	}
}

// item is a place with what lies there.
type item[T any] struct {
	at api.Spot
	x  T
}

// collect goes over an iterator from the beginning to the end.
func collect[T any](all iter.Seq2[api.Spot, T]) []item[T] {
	var l []item[T]
	for s, x := range all {
		l = append(l, item[T]{s, x})
	}
	return l
}

func checkItems[T comparable](t *testing.T, what string, all iter.Seq2[api.Spot, T], want []item[T]) {
	t.Helper()
	if all == nil {
		t.Errorf("P7.5: %s is nil", what)
		return
	}
	if got := collect(all); !slices.Equal(got, want) {
		t.Errorf("%s: %v; want %v", what, brief(got), brief(want))
	}
}

// brief shortens a list to what a message can bear.
func brief[T any](l []T) []T { return l[:min(len(l), 20)] }

func checkSet[T any](t *testing.T, g *Table[T], s api.Spot, x T, want api.Errno) {
	t.Helper()
	if e := g.Set(s, x); e != want {
		t.Errorf("P7.2: Set(%+v, %v): %d; want %d", s, x, e, want)
	}
}

func checkGet[T comparable](t *testing.T, g *Table[T], s api.Spot, want T, wantSome bool) {
	t.Helper()
	if x, some := g.Get(s); x != want || some != wantSome {
		t.Errorf("P7.3: Get(%+v): %v, %v; want %v, %v", s, x, some, want, wantSome)
	}
}

func checkDrop[T any](t *testing.T, g *Table[T], s api.Spot, want bool) {
	t.Helper()
	if some := g.Drop(s); some != want {
		t.Errorf("P7.3: Drop(%+v): %v; want %v", s, some, want)
	}
}

func checkLen[T any](t *testing.T, g *Table[T], want int) {
	t.Helper()
	if n := g.Len(); n != want {
		t.Errorf("P7.3: Len: %d; want %d", n, want)
	}
}

// model keeps things in a list, in the order of their setting, and goes through all of it for every answer.
type model struct {
	l []item[int]
}

func (m *model) find(s api.Spot) int {
	return slices.IndexFunc(m.l, func(i item[int]) bool { return i.at == s })
}

func (m *model) set(s api.Spot, x int) {
	m.drop(s)
	m.l = append(m.l, item[int]{s, x})
}

func (m *model) get(s api.Spot) (int, bool) {
	if i := m.find(s); i >= 0 {
		return m.l[i].x, true
	}
	return 0, false
}

func (m *model) drop(s api.Spot) bool {
	i := m.find(s)
	if i < 0 {
		return false
	}
	m.l = slices.Delete(m.l, i, i+1)
	return true
}

// over picks what lies in an area and sorts it by the place's number if places are counted row by row.
func (m *model) over(a api.Area) []item[int] {
	if a.Top < 0 || a.Left < 0 || a.Bottom > 65535 || a.Right > 701 {
		return nil
	}
	var out []item[int]
	for _, i := range m.l {
		if i.at.Row >= a.Top && i.at.Row <= a.Bottom && i.at.Col >= a.Left && i.at.Col <= a.Right {
			out = append(out, i)
		}
	}
	slices.SortFunc(out, func(a, b item[int]) int { return (a.at.Row*702 + a.at.Col) - (b.at.Row*702 + b.at.Col) })
	return out
}

func (m *model) all() []item[int] { return m.over(wholeGrid()) }

// checkTable holds all that a table tells against the model.
func checkTable(t *testing.T, g *Table[int], m *model, places []api.Spot, areas []api.Area) {
	t.Helper()
	checkLen(t, g, len(m.l))
	for _, s := range places {
		want, some := m.get(s)
		checkGet(t, g, s, want, some)
	}
	checkItems(t, "P7.4: All", g.All(), m.all())
	for _, a := range areas {
		checkItems(t, "P7.4: Over "+text(a), g.Over(a), m.over(a))
	}
}

func text(a api.Area) string {
	return strconv.Itoa(a.Top) + "," + strconv.Itoa(a.Left) + " to " + strconv.Itoa(a.Bottom) + "," + strconv.Itoa(a.Right)
}

// dice throws numbers that look mixed and are the same every time.
type dice uint64

func (d *dice) below(n int) int {
	*d = *d*6364136223846793005 + 1442695040888963407
	return int(*d>>33) % n
}

func checkNew[T comparable](t *testing.T) {
	t.Helper()
	var zero T
	g := New[T]()
	if g == nil {
		t.Fatal("P7.1: New is nil")
	}
	checkLen(t, g, 0)
	for _, s := range append(corners(), wrongPlaces()...) {
		checkGet(t, g, s, zero, false)
		checkDrop(t, g, s, false)
	}
	checkItems(t, "P7.1: All of a new table", g.All(), nil)
	for _, a := range append(wrongAreas(), wholeGrid(), api.Area{}, rect(65535, 701, 65535, 701)) {
		checkItems(t, "P7.1: Over of a new table", g.Over(a), nil)
	}
	checkLen(t, g, 0)
}

func TestNew(t *testing.T) {
	checkNew[int](t)
	checkNew[string](t)
	checkNew[bool](t)
	checkNew[float64](t)
	checkNew[struct{}](t)
	checkNew[*int](t)
	checkNew[api.Value](t)
	checkNew[any](t)
	checkNew[[3]uint8](t)
}

func TestExamples(t *testing.T) {
	g := New[string]()
	checkLen(t, g, 0)
	checkGet(t, g, at(0, 0), "", false)
	checkDrop(t, g, at(0, 0), false)
	checkSet(t, g, at(0, 1), "b", api.OK)
	checkSet(t, g, at(1, 0), "c", api.OK)
	checkSet(t, g, at(0, 0), "a", api.OK)
	checkSet(t, g, at(0, 0), "d", api.OK)
	checkLen(t, g, 3)
	all := []item[string]{{at(0, 0), "d"}, {at(0, 1), "b"}, {at(1, 0), "c"}}
	checkItems(t, "P7.4: All", g.All(), all)
	checkItems(t, "P7.4: Over A1:A9", g.Over(rect(0, 0, 8, 0)), []item[string]{{at(0, 0), "d"}, {at(1, 0), "c"}})
	checkItems(t, "P7.4: Over of an area that may not be", g.Over(rect(8, 0, 0, 0)), nil)
	checkSet(t, g, at(65536, 0), "e", api.ErrSpot)
	var told []item[string]
	for s, x := range g.All() {
		told = append(told, item[string]{s, x})
		if s == at(0, 0) {
			checkDrop(t, g, at(0, 1), true)
		}
	}
	if !slices.Equal(told, all) {
		t.Errorf("P7.5: All, with a Drop within: %v", told)
	}
	checkItems(t, "P7.4: All behind it", g.All(), []item[string]{{at(0, 0), "d"}, {at(1, 0), "c"}})
}

func TestSetAgainDroppedAndSetAnew(t *testing.T) {
	g := New[string]()
	for _, s := range append(corners(), at(5, 5), at(9, 26)) {
		checkDrop(t, g, s, false)
		checkSet(t, g, s, "first", api.OK)
		checkGet(t, g, s, "first", true)
		checkSet(t, g, s, "second", api.OK)
		checkSet(t, g, s, "second", api.OK)
		checkGet(t, g, s, "second", true)
		checkLen(t, g, 1)
		checkDrop(t, g, s, true)
		checkGet(t, g, s, "", false)
		checkLen(t, g, 0)
		checkItems(t, "P7.3: All behind a Drop", g.All(), nil)
		checkDrop(t, g, s, false)
		checkLen(t, g, 0)
		checkSet(t, g, s, "third", api.OK)
		checkGet(t, g, s, "third", true)
		checkItems(t, "P7.2: All behind a Set", g.All(), []item[string]{{s, "third"}})
		checkDrop(t, g, s, true)
	}
}

// fewPlaces gives places whose rows and columns can be mistaken for each other, and the corners.
func fewPlaces() []api.Spot {
	return append(corners(), at(0, 1), at(1, 0), at(1, 1), at(0, 10), at(10, 0), at(2, 1), at(1, 2), at(701, 3), at(3, 701), at(702, 3), at(65535, 1), at(1, 701), at(65534, 701))
}

// fewAreas gives areas of one place, of a row, of a column, of more, of all.
func fewAreas() []api.Area {
	return []api.Area{
		{}, rect(65535, 701, 65535, 701), rect(1, 1, 1, 1), rect(2, 2, 2, 2), rect(0, 0, 0, 701), rect(1, 0, 1, 701), rect(65535, 0, 65535, 701), rect(0, 0, 65535, 0), rect(0, 1, 65535, 1), rect(0, 701, 65535, 701),
		rect(0, 0, 1, 1), rect(0, 1, 2, 2), rect(1, 0, 10, 10), rect(0, 0, 701, 701), rect(3, 3, 65535, 701), rect(0, 0, 65534, 700), rect(4, 4, 9, 9), rect(100, 100, 600, 700), rect(0, 0, 63, 63), rect(0, 0, 64, 63), wholeGrid(),
	}
}

func TestMixedOrdersAgainstTheModel(t *testing.T) {
	throw := dice(7)
	for range 40 {
		g, m := New[int](), &model{}
		for step := range 60 {
			s := fewPlaces()[throw.below(len(fewPlaces()))]
			if throw.below(5) < 3 {
				checkSet(t, g, s, step, api.OK)
				m.set(s, step)
			} else {
				checkDrop(t, g, s, m.drop(s))
			}
			checkTable(t, g, m, fewPlaces(), fewAreas())
		}
	}
}

// checkWrongPlaces asks a table for places that are none, and that nothing comes of it.
func checkWrongPlaces(t *testing.T, g *Table[int]) {
	t.Helper()
	was := collect(g.All())
	for _, s := range wrongPlaces() {
		checkSet(t, g, s, 77, api.ErrSpot)
		checkGet(t, g, s, 0, false)
		checkDrop(t, g, s, false)
		checkSet(t, g, s, 0, api.ErrSpot)
		checkLen(t, g, len(was))
	}
	checkItems(t, "P7.2: All behind wrong places", g.All(), was)
}

func TestWrongPlaces(t *testing.T) {
	g := New[int]()
	checkWrongPlaces(t, g)
	for i, s := range append(fewPlaces(), at(5, 5)) {
		checkSet(t, g, s, i+1, api.OK)
		checkWrongPlaces(t, g)
	}
}

func TestAllCorners(t *testing.T) {
	g := New[int]()
	for i, s := range corners() {
		checkSet(t, g, s, i+1, api.OK)
	}
	for i, s := range corners() {
		checkGet(t, g, s, i+1, true)
		checkItems(t, "P7.4: Over a corner", g.Over(rect(s.Row, s.Col, s.Row, s.Col)), []item[int]{{s, i + 1}})
	}
	checkItems(t, "P7.4: All corners", g.All(), []item[int]{{at(0, 0), 1}, {at(0, 701), 2}, {at(65535, 0), 3}, {at(65535, 701), 4}})
	for i, s := range corners() {
		checkDrop(t, g, s, true)
		checkLen(t, g, 3-i)
	}
}

// fullTable gives a table with as much as may be, and the last place that was set; step tells how far the places lie apart if they are counted row by row.
func fullTable(t *testing.T, step int) (*Table[int], api.Spot) {
	t.Helper()
	g := New[int]()
	var s api.Spot
	for i := range 65536 {
		s = at(i*step/702, i*step%702)
		checkLen(t, g, i)
		checkSet(t, g, s, i, api.OK)
	}
	return g, s
}

func TestFull(t *testing.T) {
	for _, step := range []int{1, 701, 702} {
		g, last := fullTable(t, step)
		checkLen(t, g, 65536)
		free := at(65535, 700)
		checkSet(t, g, free, 5, api.ErrFull)
		checkGet(t, g, free, 0, false)
		checkDrop(t, g, free, false)
		checkLen(t, g, 65536)
		checkWrongPlaces(t, g)
		// What lies there may be set anew, however often.
		for _, s := range []api.Spot{{}, last} {
			checkSet(t, g, s, -3, api.OK)
			checkSet(t, g, s, -4, api.OK)
			checkGet(t, g, s, -4, true)
			checkLen(t, g, 65536)
			checkSet(t, g, free, 5, api.ErrFull)
		}
		// Behind a Drop there is room for one, not for two; the dropped one is no longer among those that may be set anew.
		checkDrop(t, g, last, true)
		checkLen(t, g, 65535)
		checkDrop(t, g, last, false)
		checkSet(t, g, free, 5, api.OK)
		checkSet(t, g, last, 6, api.ErrFull)
		checkGet(t, g, last, 0, false)
		checkSet(t, g, free, 7, api.OK)
		checkGet(t, g, free, 7, true)
		checkLen(t, g, 65536)
		checkDrop(t, g, free, true)
		checkSet(t, g, last, 8, api.OK)
		checkSet(t, g, free, 5, api.ErrFull)
	}
}

func TestFullIsGoneOver(t *testing.T) {
	for _, step := range []int{1, 701, 702} {
		g, _ := fullTable(t, step)
		checkSet(t, g, at(65535, 700), 5, api.ErrFull)
		var want []item[int]
		for i := range 65536 {
			want = append(want, item[int]{at(i*step/702, i*step%702), i})
		}
		checkItems(t, "P7.4: All of a full table", g.All(), want)
		checkItems(t, "P7.4: Over the whole grid", g.Over(wholeGrid()), want)
		for _, a := range append(fewAreas(), rect(0, 0, 93, 251), rect(80, 600, 100, 701), rect(0, 0, 4095, 0), rect(0, 0, 4096, 0), rect(0, 3, 0, 5), rect(65530, 0, 65535, 3)) {
			var in []item[int]
			for _, i := range want {
				if i.at.Row >= a.Top && i.at.Row <= a.Bottom && i.at.Col >= a.Left && i.at.Col <= a.Right {
					in = append(in, i)
				}
			}
			checkItems(t, "P7.4: Over "+text(a), g.Over(a), in)
		}
	}
}

func TestRefusedAheadOfFull(t *testing.T) {
	g, _ := fullTable(t, 1)
	for _, s := range wrongPlaces() {
		checkSet(t, g, s, 1, api.ErrSpot)
	}
}

func checkZero[T comparable](t *testing.T, other T) {
	t.Helper()
	var zero T
	g := New[T]()
	checkSet(t, g, at(3, 4), zero, api.OK)
	checkGet(t, g, at(3, 4), zero, true)
	checkGet(t, g, at(4, 3), zero, false)
	checkLen(t, g, 1)
	checkItems(t, "P7.3: All of a zero value", g.All(), []item[T]{{at(3, 4), zero}})
	checkItems(t, "P7.3: Over a zero value", g.Over(rect(3, 4, 3, 4)), []item[T]{{at(3, 4), zero}})
	checkSet(t, g, at(3, 4), other, api.OK)
	checkGet(t, g, at(3, 4), other, true)
	checkSet(t, g, at(3, 4), zero, api.OK)
	checkGet(t, g, at(3, 4), zero, true)
	checkDrop(t, g, at(3, 4), true)
	checkGet(t, g, at(3, 4), zero, false)
	checkDrop(t, g, at(3, 4), false)
	checkLen(t, g, 0)
}

func TestZeroValuesLieThere(t *testing.T) {
	checkZero(t, 5)
	checkZero(t, "a")
	checkZero(t, true)
	checkZero(t, 2.5)
	checkZero(t, api.Value{Kind: api.VInt, Int: 3})
	checkZero(t, new(int))
	checkZero[any](t, 7)
	checkZero(t, [2]string{"a", "b"})
	checkZero(t, struct{}{})
}

// orders gives every order of the numbers below n.
func orders(n int) [][]int {
	if n == 0 {
		return [][]int{nil}
	}
	var out [][]int
	for _, l := range orders(n - 1) {
		for i := range n {
			out = append(out, slices.Insert(slices.Clone(l), i, n-1))
		}
	}
	return out
}

func TestRowOrderWhateverTheOrderOfSetting(t *testing.T) {
	places := []api.Spot{at(0, 0), at(0, 1), at(0, 701), at(1, 0), at(9, 5), at(65535, 701)}
	var want []item[string]
	for i, s := range places {
		want = append(want, item[string]{s, strconv.Itoa(i)})
	}
	for _, order := range orders(len(places)) {
		g := New[string]()
		for _, i := range order {
			checkSet(t, g, places[i], strconv.Itoa(i), api.OK)
		}
		checkItems(t, "P7.4: All", g.All(), want)
		checkItems(t, "P7.4: Over the whole grid", g.Over(wholeGrid()), want)
		checkItems(t, "P7.4: Over its first row", g.Over(rect(0, 0, 0, 701)), want[:3])
		checkItems(t, "P7.4: Over its first column", g.Over(rect(0, 0, 65535, 0)), []item[string]{want[0], want[3]})
		checkItems(t, "P7.4: Over one place", g.Over(rect(9, 5, 9, 5)), want[4:5])
		checkItems(t, "P7.4: Over where nothing lies", g.Over(rect(2, 0, 8, 701)), nil)
	}
}

// TestOverAgainstTheModel goes through all areas of a small square, among them such as have fewer places than there are things, as many, and more.
func TestOverAgainstTheModel(t *testing.T) {
	throw := dice(3)
	for _, count := range []int{0, 1, 2, 5, 12, 30, 36} {
		g, m := New[int](), &model{}
		for len(m.l) < count {
			s := at(10+throw.below(6), 20+throw.below(6))
			x := throw.below(1000)
			checkSet(t, g, s, x, api.OK)
			m.set(s, x)
		}
		var areas []api.Area
		for side := range 9 * 9 * 9 * 9 {
			a := rect(9+side%9, 19+side/9%9, 9+side/81%9, 19+side/729%9)
			if a.Top <= a.Bottom && a.Left <= a.Right {
				areas = append(areas, a)
			}
		}
		checkTable(t, g, m, nil, areas)
	}
}

func TestOverWrongAreas(t *testing.T) {
	within(t, "going over areas that may not be", func() {
		g := New[int]()
		for i, s := range append(fewPlaces(), at(5, 5)) {
			checkSet(t, g, s, i+1, api.OK)
		}
		full, _ := fullTable(t, 1)
		for _, a := range wrongAreas() {
			checkItems(t, "P7.4: Over "+text(a), g.Over(a), nil)
			checkItems(t, "P7.4: Over "+text(a), full.Over(a), nil)
		}
	})
}

// TestOverTakesNoLongerThanAll would be at work for far longer if going over an area of which the table has next to nothing asked at each of its places.
func TestOverTakesNoLongerThanAll(t *testing.T) {
	g := New[int]()
	for i, s := range corners() {
		checkSet(t, g, s, i, api.OK)
	}
	for _, c := range []struct {
		a     api.Area
		times int
		want  int
	}{{wholeGrid(), 20000, 4}, {rect(0, 0, 65535, 700), 20000, 2}, {rect(0, 0, 63, 63), 1000000, 1}, {rect(9, 9, 72, 72), 1000000, 0}} {
		within(t, "going over "+text(c.a)+" many times", func() {
			for range c.times {
				if n := len(collect(g.Over(c.a))); n != c.want {
					t.Errorf("P7.4: Over %s: %d; want %d", text(c.a), n, c.want)
					return
				}
			}
		})
	}
}

// smallTable gives a table with things at six places of two rows, and its model.
func smallTable(t *testing.T) (*Table[int], *model) {
	t.Helper()
	g, m := New[int](), &model{}
	for x, s := range []api.Spot{at(2, 0), at(2, 1), at(2, 2), at(5, 0), at(5, 1), at(5, 2)} {
		checkSet(t, g, s, x, api.OK)
		m.set(s, x)
	}
	return g, m
}

// way is a way to go over a table, and the area of what it tells.
type way struct {
	name string
	open func(g *Table[int]) iter.Seq2[api.Spot, int]
	area api.Area
}

// ways gives ways to go over smallTable: with All, with areas that have fewer places than it has things and such as have more.
func ways() []way {
	out := []way{{"All", (*Table[int]).All, wholeGrid()}}
	for _, a := range []api.Area{
		wholeGrid(), rect(2, 0, 2, 701), rect(0, 1, 65535, 1), rect(2, 0, 5, 2), rect(2, 0, 2, 1), rect(5, 1, 5, 1), rect(5, 0, 5, 2), rect(3, 0, 4, 701), rect(3, 0, 3, 1), rect(5, 0, 2, 2), rect(0, 0, 65536, 701),
	} {
		out = append(out, way{"Over " + text(a), func(g *Table[int]) iter.Seq2[api.Spot, int] { return g.Over(a) }, a})
	}
	return out
}

// changes gives what may happen to smallTable while it is gone over.
func changes() map[string]func(g *Table[int]) {
	dropAll := func(g *Table[int]) {
		for _, row := range []int{2, 5} {
			for col := range 3 {
				g.Drop(at(row, col))
			}
		}
	}
	setAll := func(g *Table[int]) {
		for row := range 8 {
			for col := range 4 {
				g.Set(at(row, col), 100+row*10+col)
			}
		}
	}
	return map[string]func(g *Table[int]){
		"Drop the first one":     func(g *Table[int]) { g.Drop(at(2, 0)) },
		"Drop one in the middle": func(g *Table[int]) { g.Drop(at(2, 2)) },
		"Drop the last one":      func(g *Table[int]) { g.Drop(at(5, 2)) },
		"Drop all":               dropAll,
		"Drop all, then set all": func(g *Table[int]) { dropAll(g); setAll(g) },
		"Drop one, set it back":  func(g *Table[int]) { g.Drop(at(5, 1)); g.Set(at(5, 1), 4) },
		"Set the first one anew": func(g *Table[int]) { g.Set(at(2, 0), -1) },
		"Set the last one anew":  func(g *Table[int]) { g.Set(at(5, 2), -1) },
		"Set one ahead of all":   func(g *Table[int]) { g.Set(at(0, 0), -1) },
		"Set one behind all":     func(g *Table[int]) { g.Set(at(65535, 701), -1) },
		"Set one in the midst":   func(g *Table[int]) { g.Set(at(3, 1), -1); g.Set(at(2, 3), -1) },
		"Set all":                setAll,
		"Set what is refused":    func(g *Table[int]) { g.Set(at(-1, 0), 5); g.Set(at(65536, 0), 5); g.Set(at(2, 702), 5) },
		"Change nothing":         func(g *Table[int]) { g.Get(at(2, 0)); g.Len(); g.All(); g.Over(wholeGrid()) },
	}
}

func TestChangesBetweenTheCallAndTheGoingOver(t *testing.T) {
	for _, w := range ways() {
		for what, change := range changes() {
			g, m := smallTable(t)
			places := w.open(g)
			want := m.over(w.area)
			change(g)
			checkItems(t, "P7.5: "+w.name+", then "+what, places, want)
			change(g)
			checkItems(t, "P7.5: "+w.name+", gone over, then "+what, places, want)
			checkItems(t, "P7.5: "+w.name+", gone over once more", places, want)
		}
	}
}

func TestChangesInTheMidst(t *testing.T) {
	for _, w := range ways() {
		for what, change := range changes() {
			for when := range 6 {
				g, m := smallTable(t)
				places := w.open(g)
				want := m.over(w.area)
				var got []item[int]
				for s, x := range places {
					if len(got) == when {
						change(g)
					}
					got = append(got, item[int]{s, x})
				}
				if !slices.Equal(got, want) {
					t.Errorf("P7.5: %s, within it at %d: %s: %v; want %v", w.name, when, what, got, want)
				}
				checkItems(t, "P7.5: "+w.name+", gone over again behind "+what, places, want)
			}
		}
	}
}

// TestWhatIsDoneInTheMidstIsDone: the iterator does not see it, the table has it all the same.
func TestWhatIsDoneInTheMidstIsDone(t *testing.T) {
	for what, change := range changes() {
		one, _ := smallTable(t)
		other, _ := smallTable(t)
		change(one)
		first := true
		for range other.All() {
			if first {
				change(other)
			}
			first = false
		}
		checkItems(t, "P7.5: All behind "+what+" in the midst", other.All(), collect(one.All()))
		checkLen(t, other, one.Len())
	}
}

func TestDropEachThatIsTold(t *testing.T) {
	g, m := smallTable(t)
	want := m.all()
	var got []item[int]
	for s, x := range g.All() {
		checkDrop(t, g, s, true)
		checkSet(t, g, at(s.Row+1, s.Col), x, api.OK)
		got = append(got, item[int]{s, x})
	}
	if !slices.Equal(got, want) {
		t.Errorf("P7.5: All, each moved a row down as it is told: %v", got)
	}
	for i := range want {
		want[i].at.Row++
	}
	checkItems(t, "P7.5: All behind it", g.All(), want)
}

func TestLeftEarly(t *testing.T) {
	for _, w := range ways() {
		g, m := smallTable(t)
		places := w.open(g)
		want := m.over(w.area)
		for before := range len(want) {
			calls := 0
			var got []item[int]
			// Asked without a range, so that a call behind the last one is counted.
			places(func(s api.Spot, x int) bool {
				calls++
				got = append(got, item[int]{s, x})
				return calls <= before
			})
			if !slices.Equal(got, want[:before+1]) {
				t.Errorf("P7.5: %s, left behind %d: %v", w.name, before+1, got)
			}
			// Leaving it early leaves nothing behind for the next one, nor does a change meanwhile.
			g.Drop(at(2, before))
			g.Set(at(5, before), 90+before)
			checkItems(t, "P7.5: "+w.name+", left early and gone over again", places, want)
		}
	}
}

func TestWithinItself(t *testing.T) {
	for _, w := range ways() {
		g, m := smallTable(t)
		places := w.open(g)
		want := m.over(w.area)
		var outer []item[int]
		for s, x := range places {
			outer = append(outer, item[int]{s, x})
			g.Drop(s)
			var inner []item[int]
			for s, x := range places {
				g.Set(s, x+50)
				inner = append(inner, item[int]{s, x})
			}
			if !slices.Equal(inner, want) {
				t.Errorf("P7.5: %s, within itself: %v; want %v", w.name, inner, want)
			}
			for range places {
				break
			}
		}
		if !slices.Equal(outer, want) {
			t.Errorf("P7.5: %s, around itself: %v; want %v", w.name, outer, want)
		}
	}
}

// TestIteratorsOfManyTimes: each goes over what lay there at its own call.
func TestIteratorsOfManyTimes(t *testing.T) {
	g, m := New[int](), &model{}
	throw := dice(11)
	var all, part []iter.Seq2[api.Spot, int]
	var wantAll, wantPart [][]item[int]
	for step := range 200 {
		s := at(throw.below(6), throw.below(6))
		if throw.below(3) < 2 {
			g.Set(s, step)
			m.set(s, step)
		} else {
			g.Drop(s)
			m.drop(s)
		}
		a := rect(throw.below(3), throw.below(3), 3+throw.below(3), 3+throw.below(3))
		all, wantAll = append(all, g.All()), append(wantAll, m.all())
		part, wantPart = append(part, g.Over(a)), append(wantPart, m.over(a))
	}
	for range 2 {
		for i := range all {
			checkItems(t, "P7.5: All of step "+strconv.Itoa(i), all[i], wantAll[i])
			checkItems(t, "P7.5: Over of step "+strconv.Itoa(i), part[i], wantPart[i])
		}
	}
}

func TestSlicesShareTheirMemory(t *testing.T) {
	l := []int{1, 2, 3}
	g := New[[]int]()
	checkSet(t, g, at(3, 3), l, api.OK)
	checkSet(t, g, at(4, 4), l[:1], api.OK)
	places := g.All()
	l[0] = 9
	if x, some := g.Get(at(3, 3)); !some || !slices.Equal(x, []int{9, 2, 3}) || &x[0] != &l[0] {
		t.Errorf("P7.6: Get of a slice: %v, %v", x, some)
	}
	if x, _ := g.Get(at(4, 4)); !slices.Equal(x, []int{9}) || cap(x) != cap(l) || &x[0] != &l[0] {
		t.Errorf("P7.6: Get of a piece of it: %v", x)
	}
	for s, x := range places {
		if &x[0] != &l[0] {
			t.Errorf("P7.6: All, %+v: %v", s, x)
		}
		x[0]--
	}
	if l[0] != 7 {
		t.Errorf("P7.6: what was written into what All told: %v", l)
	}
	checkSet(t, g, at(5, 5), nil, api.OK)
	if x, some := g.Get(at(5, 5)); x != nil || !some {
		t.Errorf("P7.6: Get of nil: %v, %v", x, some)
	}
}

func TestPointersAndMapsShareTheirMemory(t *testing.T) {
	n := 5
	g := New[*int]()
	checkSet(t, g, at(0, 0), &n, api.OK)
	checkSet(t, g, at(1, 1), &n, api.OK)
	checkSet(t, g, at(2, 2), nil, api.OK)
	checkGet(t, g, at(0, 0), &n, true)
	checkGet(t, g, at(2, 2), nil, true)
	checkItems(t, "P7.6: All of pointers", g.All(), []item[*int]{{at(0, 0), &n}, {at(1, 1), &n}, {at(2, 2), nil}})
	x, _ := g.Get(at(1, 1))
	*x = 6
	if n != 6 {
		t.Errorf("P7.6: written through a pointer: %d", n)
	}
	kept := map[string]int{"a": 1}
	h := New[map[string]int]()
	checkSet(t, h, at(0, 0), kept, api.OK)
	kept["b"] = 2
	if x, some := h.Get(at(0, 0)); len(x) != 2 || !some {
		t.Errorf("P7.6: Get of a map: %v", x)
	}
}

// TestPlainThingsAreCopies: a struct or an array that is changed behind its handing in has no memory to share.
func TestPlainThingsAreCopies(t *testing.T) {
	x := [3]int{1, 2, 3}
	g := New[[3]int]()
	checkSet(t, g, at(0, 0), x, api.OK)
	x[0] = 9
	checkGet(t, g, at(0, 0), [3]int{1, 2, 3}, true)
	got, _ := g.Get(at(0, 0))
	got[1] = 9
	checkGet(t, g, at(0, 0), [3]int{1, 2, 3}, true)
	for range 2 {
		for _, told := range g.All() {
			if told != [3]int{1, 2, 3} {
				t.Errorf("P7.6: All: %v", told)
			}
			told[2] = 9
		}
	}
}

func TestFunctionsAndTablesInTables(t *testing.T) {
	f := New[func() int]()
	checkSet(t, f, at(0, 0), func() int { return 42 }, api.OK)
	if call, some := f.Get(at(0, 0)); !some || call() != 42 {
		t.Error("P7.6: a function that was set is another one")
	}
	g := New[*Table[int]]()
	inner := New[int]()
	checkSet(t, g, at(0, 0), inner, api.OK)
	checkSet(t, inner, at(9, 9), 3, api.OK)
	checkGet(t, g, at(0, 0), inner, true)
	checkLen(t, g, 1)
}

func TestFloatsThatAreNoNumbers(t *testing.T) {
	g := New[float64]()
	checkSet(t, g, at(0, 0), math.NaN(), api.OK)
	checkSet(t, g, at(0, 0), math.NaN(), api.OK)
	checkLen(t, g, 1)
	if x, some := g.Get(at(0, 0)); !math.IsNaN(x) || !some {
		t.Errorf("P7.3: Get: %v, %v", x, some)
	}
	checkDrop(t, g, at(0, 0), true)
	checkLen(t, g, 0)
}

func TestTablesSideBySide(t *testing.T) {
	g, h, other := New[int](), New[int](), New[string]()
	checkSet(t, g, at(1, 1), 1, api.OK)
	checkSet(t, g, at(2, 2), 2, api.OK)
	checkLen(t, h, 0)
	checkLen(t, other, 0)
	checkGet(t, h, at(1, 1), 0, false)
	checkSet(t, h, at(1, 1), 7, api.OK)
	checkSet(t, other, at(1, 1), "a", api.OK)
	checkDrop(t, h, at(2, 2), false)
	checkGet(t, g, at(1, 1), 1, true)
	checkGet(t, g, at(2, 2), 2, true)
	places := g.All()
	checkDrop(t, h, at(1, 1), true)
	checkItems(t, "P7.6: All", places, []item[int]{{at(1, 1), 1}, {at(2, 2), 2}})
	checkItems(t, "P7.6: All of the other one", h.All(), nil)
	checkGet(t, other, at(1, 1), "a", true)
	full, _ := fullTable(t, 1)
	checkSet(t, full, at(65535, 0), 1, api.ErrFull)
	checkSet(t, g, at(65535, 0), 1, api.OK)
	checkLen(t, g, 3)
}

// session does the same calls with a table of its own, and gives all that they answer.
func session() []int {
	g := New[int]()
	throw := dice(5)
	var told []int
	for step := range 3000 {
		s := at(throw.below(20)-1, throw.below(20)-1)
		switch throw.below(6) {
		case 0:
			if g.Drop(s) {
				told = append(told, step)
			}
		case 1:
			for s, x := range g.Over(rect(3, 3, 3+throw.below(10), 3+throw.below(10))) {
				told = append(told, s.Row, s.Col, x)
			}
		default:
			told = append(told, int(g.Set(s, step)), g.Len())
		}
	}
	for s, x := range g.All() {
		told = append(told, s.Row, s.Col, x)
	}
	return told
}

func TestAnswersHangOnWhatTheTableWasTold(t *testing.T) {
	want := session()
	answers := make([][]int, 8)
	var all sync.WaitGroup
	for i := range answers {
		all.Go(func() { answers[i] = session() })
	}
	all.Wait()
	for _, got := range answers {
		if !slices.Equal(got, want) {
			t.Error("P0.5, P7.6: the same calls, from several goroutines with a table each, answered another thing")
		}
	}
}
