package fold

import (
	"fmt"
	"math"
	"slices"
	"strings"
	"testing"
	"time"

	"quadrille/api"
)

const (
	low  = math.MinInt64
	high = math.MaxInt64
)

// within fails the test if the work goes on for far longer than it can.
func within(t *testing.T, what string, work func()) {
	t.Helper()
	done := make(chan struct{})
	go func() {
		defer close(done)
		work()
	}()
	select {
	case <-done:
	case <-time.After(60 * time.Second):
		t.Fatalf("P0.1: %s is not done", what)
	}
}

// num, txt, bad, yes, no and blank are values, made apart from the program's own.
func num(n int64) api.Value { return api.Value{Kind: api.VInt, Int: n} }

func txt(s string) api.Value { return api.Value{Kind: api.VText, Text: s} }

func bad(e int64) api.Value { return api.Value{Kind: api.VErr, Int: e} }

func yes() api.Value { return api.Value{Kind: api.VBool, Int: 1} }

func no() api.Value { return api.Value{Kind: api.VBool} }

func blank() api.Value { return api.Value{} }

func xs(many int) string { return strings.Repeat("x", many) }

// place reads a place such as B7.
func place(s string) api.Spot {
	letters := strings.IndexAny(s, "0123456789")
	col := 0
	for _, r := range s[:letters] {
		col = col*26 + int(r-'A') + 1
	}
	row := 0
	for _, r := range s[letters:] {
		row = row*10 + int(r-'0')
	}
	return api.Spot{Row: row - 1, Col: col - 1}
}

// over is an argument that is an area, such as A1:B2 or A1.
func over(corners string) api.Arg {
	from, to, two := strings.Cut(corners, ":")
	if !two {
		to = from
	}
	a, b := place(from), place(to)
	return api.Arg{IsArea: true, Area: api.Area{Top: a.Row, Left: a.Col, Bottom: b.Row, Right: b.Col}}
}

// val is an argument that is a given value.
func val(v api.Value) api.Arg { return api.Arg{Value: v} }

// args writes arguments shortly: an api.Arg stands for itself, a string is an area, a value and a number are given.
func args(all ...any) []api.Arg {
	out := make([]api.Arg, len(all))
	for i, one := range all {
		switch x := one.(type) {
		case api.Arg:
			out[i] = x
		case string:
			out[i] = over(x)
		case api.Value:
			out[i] = val(x)
		case int:
			out[i] = val(num(int64(x)))
		}
	}
	return out
}

// told is a place that is wanted, and the value that is handed in for it.
type told struct {
	at string
	v  api.Value
}

// brief writes a value without the most of a long text.
func brief(v api.Value) string {
	return fmt.Sprintf("{kind %d, %d, %.40q of %d bytes}", v.Kind, v.Int, v.Text, len(v.Text))
}

// called writes a call, with its first arguments.
func called(f int, all []api.Arg) string {
	parts := make([]string, min(len(all), 7))
	for i, a := range all[:len(parts)] {
		parts[i] = brief(a.Value)
		if a.IsArea {
			parts[i] = fmt.Sprint(a.Area)
		}
	}
	return fmt.Sprintf("function %d of %d (%s)", f, len(all), strings.Join(parts, ", "))
}

// begin begins a function that is not refused.
func begin(t *testing.T, f int, all ...any) *Fold {
	t.Helper()
	a := args(all...)
	w, e := Begin(f, a...)
	if e != api.OK || w == nil {
		t.Fatalf("P15.1: %s is refused: %d", called(f, a), e)
	}
	return w
}

// wanting checks that a function wants a place, and has not ended.
func wanting(t *testing.T, what string, w *Fold, want api.Spot) {
	t.Helper()
	if at, some := w.Next(); at != want || !some {
		t.Errorf("P15.2: %s wants %v, %t; it should want %v", what, at, some, want)
	}
	if v, over := w.End(); v != (api.Value{}) || over {
		t.Errorf("P15.4: %s has ended with %s, %t; it should want %v", what, brief(v), over, want)
	}
}

// ending checks that a function has ended, with what, and that it wants and takes nothing any more.
func ending(t *testing.T, what string, w *Fold, want api.Value) {
	t.Helper()
	if at, some := w.Next(); at != (api.Spot{}) || some {
		t.Errorf("P15.2: %s wants %v, %t; it should have ended with %s", what, at, some, brief(want))
	}
	for range 2 {
		if v, over := w.End(); v != want || !over {
			t.Errorf("P15.4: %s ends with %s, %t; want %s", what, brief(v), over, brief(want))
		}
		for _, v := range []api.Value{num(1), {Kind: 9}} {
			if e := w.Give(v); e != api.ErrStill {
				t.Errorf("P15.3: %s was given %s behind its end: %d", what, brief(v), e)
			}
		}
	}
}

// giving hands a value to a function that wants one.
func giving(t *testing.T, what string, w *Fold, v api.Value) {
	t.Helper()
	if e := w.Give(v); e != api.OK {
		t.Errorf("P15.3: %s was given %s: %d", what, brief(v), e)
	}
}

// run checks a call with all that it wants, and what it ends with.
func run(t *testing.T, f int, a []api.Arg, gets []told, want api.Value) {
	t.Helper()
	w, e := Begin(f, a...)
	if e != api.OK || w == nil {
		t.Errorf("P15.1: %s is refused: %d", called(f, a), e)
		return
	}
	for i, g := range gets {
		what := fmt.Sprintf("%s behind %d values", called(f, a), i)
		wanting(t, what, w, place(g.at))
		giving(t, what, w, g.v)
	}
	ending(t, called(f, a), w, want)
}

func TestNumbersOfTheDocumentsExamples(t *testing.T) {
	run(t, api.FSum, args("A1:B1", 5), []told{{"A1", num(2)}, {"B1", txt("7")}}, num(7))
	run(t, api.FSum, args("A1:A3"), []told{{"A1", num(1)}, {"A2", bad(api.ENA)}}, bad(api.ENA))
	run(t, api.FSum, args(num(high), 1, "A1"), nil, bad(api.ENum))
	run(t, api.FSum, args(txt("7"), yes(), blank()), nil, num(8))
	run(t, api.FSum, args(txt("x")), nil, bad(api.EValue))
	run(t, api.FCount, args("A1:A3", txt("x"), txt("1")), []told{{"A1", num(1)}, {"A2", bad(api.ENA)}, {"A3", yes()}}, num(2))
	run(t, api.FAverage, args("A1:A2"), []told{{"A1", blank()}, {"A2", blank()}}, bad(api.EDiv))
	run(t, api.FMedian, args(num(low), num(high), 1, 2), nil, num(1))
	run(t, api.FLarge, args("A1:A3", 2), []told{{"A1", num(5)}, {"A2", num(5)}, {"A3", num(1)}}, num(5))
	run(t, api.FSumif, args("A1:A2", 1, "C5:C6"), []told{{"A1", num(1)}, {"C5", num(7)}, {"A2", num(3)}}, num(7))
	run(t, api.FSumproduct, args("A1:A2", "B1:B2"), []told{{"A1", num(2)}, {"B1", num(3)}, {"A2", blank()}, {"B2", num(9)}}, num(6))
}

func TestTheOtherExamplesOfTheDocument(t *testing.T) {
	run(t, api.FAnd, args("A1:A3"), []told{{"A1", num(1)}, {"A2", num(0)}}, no())
	run(t, api.FOr, args("A1"), []told{{"A1", blank()}}, bad(api.EValue))
	run(t, api.FJoin, args(txt("-"), "A1:A3", blank()), []told{{"A1", num(1)}, {"A2", blank()}, {"A3", txt("b")}}, txt("1-b-"))
	run(t, api.FMatch, args(2, "A1:B2"), []told{{"A1", num(1)}, {"B1", bad(api.ENA)}, {"A2", num(2)}}, num(3))
	run(t, api.FMatch, args(0, "A1"), []told{{"A1", blank()}}, num(1))
	run(t, api.FVlookup, args(2, "A1:C2", 3), []told{{"A1", num(1)}, {"A2", num(2)}, {"C2", bad(api.ERef)}}, bad(api.ERef))
	run(t, api.FVlookup, args(2, "A1:C2", 4), nil, bad(api.ERef))
	run(t, api.FFirst, args(blank(), "A1:A2"), []told{{"A1", blank()}, {"A2", bad(api.ENA)}}, bad(api.ENA))
}

// walking gives the functions of the class, each with how many arguments it takes; -1: any number.
func walking() []struct{ f, fewest, most int } {
	return []struct{ f, fewest, most int }{
		{api.FSum, 1, -1}, {api.FProduct, 1, -1}, {api.FCount, 1, -1}, {api.FCounta, 1, -1}, {api.FCountblank, 1, -1}, {api.FMin, 1, -1}, {api.FMax, 1, -1}, {api.FAverage, 1, -1}, {api.FMedian, 1, -1},
		{api.FLarge, 2, 2}, {api.FSmall, 2, 2}, {api.FAnd, 1, -1}, {api.FOr, 1, -1}, {api.FXor, 1, -1}, {api.FConcat, 1, -1}, {api.FJoin, 2, -1}, {api.FMatch, 2, 2}, {api.FVlookup, 3, 3}, {api.FHlookup, 3, 3},
		{api.FSumif, 2, 3}, {api.FCountif, 2, 2}, {api.FSumproduct, 2, 2}, {api.FFirst, 1, -1},
	}
}

// refused checks a call of Begin that is refused.
func refused(t *testing.T, f int, a []api.Arg, want api.Errno) {
	t.Helper()
	if w, e := Begin(f, a...); w != nil || e != want {
		t.Errorf("P15.1: %s: %v, %d; want nil, %d", called(f, a), w, e, want)
	}
}

// wrongValues gives what is no value: kinds that there are none of, and for each kind what its values have not.
func wrongValues() []api.Value {
	return []api.Value{
		{Kind: -1}, {Kind: 5}, {Kind: 9, Int: 3, Text: "x"}, {Kind: low}, {Kind: high}, {Kind: 1 << 32},
		{Int: 1}, {Int: low}, {Text: "x"}, {Text: "\x00"}, {Kind: api.VInt, Text: "x"}, {Kind: api.VInt, Int: 5, Text: "5"},
		{Kind: api.VBool, Int: 2}, {Kind: api.VBool, Int: -1}, {Kind: api.VBool, Int: 1, Text: "TRUE"}, {Kind: api.VText, Int: 1}, {Kind: api.VText, Int: -1, Text: "x"},
		txt(xs(32768)), txt(xs(1 << 17)), bad(0), bad(api.ECycle), bad(8), bad(-1), bad(low), bad(high), {Kind: api.VErr, Int: api.ENA, Text: "#N/A"},
	}
}

// wrongAreas gives what may not be an area.
func wrongAreas() []api.Area {
	return []api.Area{
		{Top: 1}, {Left: 1}, {Top: -1}, {Left: -1}, {Bottom: -1}, {Right: -1}, {Bottom: 65536}, {Right: 702}, {Bottom: high}, {Right: high}, {Top: low}, {Left: low},
		{Top: low, Left: low, Bottom: high, Right: high}, {Top: 65536, Bottom: 65536}, {Left: 702, Right: 702}, {Top: 5, Left: 5, Bottom: 4, Right: 5}, {Top: 5, Left: 5, Bottom: 5, Right: 4},
		{Top: high, Left: high, Bottom: low, Right: low},
	}
}

// greatAreas gives areas of more than 4,096 places.
func greatAreas() []api.Area {
	return []api.Area{
		{Bottom: 4096}, {Bottom: 65535}, {Bottom: 65535, Right: 701}, {Bottom: 16, Right: 240}, {Bottom: 5, Right: 682}, {Top: 61439, Left: 701, Bottom: 65535, Right: 701}, {Top: 9, Left: 5, Bottom: 72, Right: 69},
	}
}

func TestFunctionsOfOtherClassesAreRefused(t *testing.T) {
	// What is amiss with the arguments is not told of a function that does not walk.
	lists := [][]api.Arg{nil, args(1), args("A1"), args(1, 2), args("A1", 1, "A1"), {val(bad(api.ECycle))}, {{IsArea: true, Area: api.Area{Top: 1}}}, {{IsArea: true, Area: api.Area{Bottom: 65535}}}}
	for f := -100; f <= 200; f++ {
		if api.FSum <= f && f <= api.FFirst {
			continue
		}
		for _, a := range lists {
			refused(t, f, a, api.ErrKind)
		}
	}
	for _, f := range []int{low, low + 1, low + api.FSum, -api.FSum, -1 << 32, 1<<32 + api.FSum, 1 << 32, 256 + api.FSum, high - 1, high} {
		refused(t, f, args("A1"), api.ErrKind)
	}
}

func TestTooFewAndTooManyArguments(t *testing.T) {
	for _, r := range walking() {
		for many := range 8 {
			good := make([]api.Arg, many)
			wrong := make([]api.Arg, many)
			for i := range many {
				good[i], wrong[i] = over("B2"), val(bad(api.ECycle))
			}
			if many < r.fewest || r.most >= 0 && many > r.most {
				refused(t, r.f, good, api.ErrArg)
				refused(t, r.f, wrong, api.ErrArg)
				continue
			}
			if w, e := Begin(r.f, good...); w == nil || e != api.OK {
				t.Errorf("P15.1: %s: %d", called(r.f, good), e)
			}
			refused(t, r.f, wrong, api.ErrValue)
		}
	}
}

// TestTheFirstArgumentThatIsAmiss takes each wrong argument in each place, behind good ones and ahead of another wrong one.
func TestTheFirstArgumentThatIsAmiss(t *testing.T) {
	amiss := map[api.Errno][]api.Arg{}
	for _, v := range wrongValues() {
		amiss[api.ErrValue] = append(amiss[api.ErrValue], val(v))
	}
	for _, a := range wrongAreas() {
		amiss[api.ErrArea] = append(amiss[api.ErrArea], api.Arg{IsArea: true, Area: a})
	}
	for _, a := range greatAreas() {
		amiss[api.ErrLong] = append(amiss[api.ErrLong], api.Arg{IsArea: true, Area: a})
	}
	for _, r := range walking() {
		for want, wrong := range amiss {
			for _, one := range wrong {
				for at := range r.fewest {
					a := slices.Repeat(args("A1"), r.fewest)
					a[at] = one
					refused(t, r.f, a, want)
					for _, other := range []api.Arg{amiss[api.ErrValue][0], amiss[api.ErrArea][0], amiss[api.ErrLong][0]} {
						for behind := at + 1; behind < r.fewest; behind++ {
							b := slices.Clone(a)
							b[behind] = other
							refused(t, r.f, b, want)
						}
					}
				}
			}
		}
	}
	// An argument that ends the function is no reason not to look at those behind it.
	refused(t, api.FSum, args(bad(api.ENA), api.Arg{IsArea: true, Area: api.Area{Top: 1}}), api.ErrArea)
	refused(t, api.FFirst, args(1, api.Arg{IsArea: true, Area: api.Area{Bottom: 4096}}), api.ErrLong)
	refused(t, api.FLarge, args("A1", val(bad(api.ECycle))), api.ErrValue)
}

// TestOnlyOneHalfOfAnArgumentCounts has wrong values beside areas, and wrong areas beside given values.
func TestOnlyOneHalfOfAnArgumentCounts(t *testing.T) {
	for _, v := range wrongValues() {
		a := over("B2")
		a.Value = v
		run(t, api.FSum, []api.Arg{a}, []told{{"B2", num(4)}}, num(4))
		run(t, api.FCountblank, []api.Arg{a}, []told{{"B2", blank()}}, num(1))
		run(t, api.FLarge, args(3, a), nil, bad(api.EValue))
		run(t, api.FVlookup, args(4, a, 1), []told{{"B2", num(4)}, {"B2", num(5)}}, num(5))
	}
	for _, area := range slices.Concat(wrongAreas(), greatAreas()) {
		a := api.Arg{Area: area, Value: num(4)}
		run(t, api.FSum, []api.Arg{a}, nil, num(4))
		run(t, api.FLarge, []api.Arg{a, val(num(1))}, nil, num(4))
		run(t, api.FMatch, args(4, a), nil, bad(api.EValue))
		run(t, api.FVlookup, args(4, a, 1), nil, bad(api.EValue))
		run(t, api.FHlookup, args(4, a, 1), nil, bad(api.EValue))
		run(t, api.FSumif, args("A1", 4, a), nil, bad(api.EValue))
		run(t, api.FSumif, args(a, 4, a), nil, bad(api.EValue))
		run(t, api.FSumproduct, []api.Arg{a, a}, nil, bad(api.EValue))
		run(t, api.FMatch, []api.Arg{a, over("A1")}, []told{{"A1", num(4)}}, num(1))
	}
}

// TestValuesThatMayNotBe hands in wrong values at each step, which changes nothing.
func TestValuesThatMayNotBe(t *testing.T) {
	w := begin(t, api.FSumif, "A1:A2", 1, "C5:C6")
	gets := []told{{"A1", num(1)}, {"C5", num(7)}, {"A2", num(1)}, {"C6", num(8)}}
	for _, g := range gets {
		for _, v := range wrongValues() {
			if e := w.Give(v); e != api.ErrValue {
				t.Errorf("P15.3: given %s: %d", brief(v), e)
			}
			wanting(t, "SUMIF behind a value that may not be", w, place(g.at))
		}
		giving(t, "SUMIF", w, g.v)
	}
	ending(t, "SUMIF", w, num(15))
}
