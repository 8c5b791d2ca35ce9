package sheet

import (
	"iter"
	"slices"
	"strings"
	"testing"
	"time"

	"quadrille/api"
	"quadrille/parse"
	"quadrille/spot"
	"quadrille/tree"
)

// within fails the test if the work goes on for far longer than it can.
func within(t *testing.T, what string, work func()) {
	t.Helper()
	done := make(chan struct{})
	go func() {
		defer close(done)
		work()
	}()
	select {
	case <-done:
	case <-time.After(60 * time.Second):
		t.Fatalf("P0.1: %s is not done", what)
	}
}

func at(row, col int) api.Spot { return api.Spot{Row: row, Col: col} }

func rect(top, left, bottom, right int) api.Area {
	return api.Area{Top: top, Left: left, Bottom: bottom, Right: right}
}

// place gives the place that a test writes as a text.
func place(text string) api.Spot {
	s, e := spot.Read(text)
	if e != api.OK {
		panic("the test's own fault: no place: " + text)
	}
	return s
}

// places gives those that a test writes with blanks between.
func places(text string) []api.Spot {
	var all []api.Spot
	for _, s := range strings.Fields(text) {
		all = append(all, place(s))
	}
	return all
}

// span gives the area that a test writes as a text.
func span(text string) api.Area {
	a, e := spot.ReadArea(text)
	if e != api.OK {
		panic("the test's own fault: no area: " + text)
	}
	return a
}

func set(s, text string) api.Edit { return api.Edit{Kind: api.EditSet, At: place(s), Text: text} }

func clearOf(a string) api.Edit { return api.Edit{Kind: api.EditClear, Area: span(a)} }

func paste(a, to string) api.Edit {
	return api.Edit{Kind: api.EditPaste, Area: span(a), To: place(to)}
}

// Rows and columns are counted from 0 on here.
func rowsIn(row, n int) api.Edit { return api.Edit{Kind: api.EditRowsIn, At: at(row, 0), N: n} }

func rowsOut(row, n int) api.Edit { return api.Edit{Kind: api.EditRowsOut, At: at(row, 0), N: n} }

func colsIn(col, n int) api.Edit { return api.Edit{Kind: api.EditColsIn, At: at(0, col), N: n} }

func colsOut(col, n int) api.Edit { return api.Edit{Kind: api.EditColsOut, At: at(0, col), N: n} }

// item is a cell that is not blank.
type item struct {
	at   api.Spot
	text string
}

func collect(all iter.Seq2[api.Spot, string]) []item {
	var l []item
	for s, text := range all {
		l = append(l, item{s, text})
	}
	return l
}

// items gives the cells that a test writes as places and texts by turns.
func items(cells ...string) []item {
	var l []item
	for i := 0; i < len(cells); i += 2 {
		l = append(l, item{place(cells[i]), cells[i+1]})
	}
	return l
}

// show writes cells for a message, as many as it can bear.
func show(l []item) string {
	var b strings.Builder
	for _, i := range l[:min(len(l), 24)] {
		s, _ := spot.Text(i.at)
		b.WriteString(s + " `" + i.text[:min(len(i.text), 60)] + "` ")
	}
	return b.String()
}

// checkCells holds the cells of a sheet, and what it tells of all of them together, against those that it should have.
func checkCells(t *testing.T, what string, s *Sheet, want []item) {
	t.Helper()
	if got := collect(s.All()); !slices.Equal(got, want) {
		t.Errorf("%s: All: %s; want %s", what, show(got), show(want))
	}
	bytes := 0
	for _, i := range want {
		bytes += len(i.text)
		if got := s.Text(i.at); got != i.text {
			t.Errorf("%s: Text(%v): %.60q; want %.60q", what, i.at, got, i.text)
		}
	}
	if s.Len() != len(want) || s.Bytes() != bytes {
		t.Errorf("%s: Len %d, Bytes %d; want %d, %d", what, s.Len(), s.Bytes(), len(want), bytes)
	}
}

// do does edits that are to be done.
func do(t *testing.T, s *Sheet, es ...api.Edit) {
	t.Helper()
	if k, e := s.Apply(es...); k != 0 || e != api.OK {
		t.Fatalf("P19.2: Apply of %d edits: %d, %d; want 0, OK", len(es), k, e)
	}
}

// refuse does edits that are to be refused, and looks whether all is as it was.
func refuse(t *testing.T, s *Sheet, k int, want api.Errno, es ...api.Edit) {
	t.Helper()
	was, bytes := collect(s.All()), s.Bytes()
	if gotK, e := s.Apply(es...); gotK != k || e != want {
		t.Errorf("P19.2: Apply of %d edits, the last %.200s: %d, %d; want %d, %d", len(es), spell(es), gotK, e, k, want)
	}
	if s.Bytes() != bytes || s.Len() != len(was) || !slices.Equal(collect(s.All()), was) {
		t.Errorf("P19.2: a refused batch (%d, %d) has changed the sheet: %s; want %s", k, want, show(collect(s.All())), show(was))
	}
}

// sheetOf gives a sheet with cells that a test writes as places and texts by turns.
func sheetOf(t *testing.T, cells ...string) *Sheet {
	t.Helper()
	s := New()
	for _, i := range items(cells...) {
		do(t, s, api.Edit{Kind: api.EditSet, At: i.at, Text: i.text})
	}
	return s
}

func times(n int, s string) string { return strings.Repeat(s, n) }

func num(n int64) api.Value { return api.Value{Kind: api.VInt, Int: n} }

func txt(s string) api.Value { return api.Value{Kind: api.VText, Text: s} }

func truth(n int64) api.Value { return api.Value{Kind: api.VBool, Int: n} }

func bad(n int64) api.Value { return api.Value{Kind: api.VErr, Int: n} }

func TestNew(t *testing.T) {
	s, other := New(), New()
	checkCells(t, "P19.1: a new sheet", s, nil)
	for _, p := range places("A1 ZZ65536 ZZ1 A65536 M77") {
		if v, e := s.Value(p); s.Text(p) != "" || s.What(p) != api.CellBlank || v != (api.Value{}) || e != api.OK {
			t.Errorf("P19.1: %v of a new sheet: %q, %d, %v, %d", p, s.Text(p), s.What(p), v, e)
		}
		if _, e := s.Tree(p); e != api.ErrKind {
			t.Errorf("P19.1: Tree(%v) of a new sheet: %d", p, e)
		}
	}
	do(t, s, set("A1", "5"))
	checkCells(t, "P19.1: another new sheet", other, nil)
	checkCells(t, "P19.1: a third one", New(), nil)
}

func TestExamples(t *testing.T) {
	s := New()
	do(t, s, set("A1", "5"), set("B1", "=A1+1"), set("C1", "=a1 + $a$1"))
	checkCells(t, "P19.2: three cells", s, items("A1", "5", "B1", "=A1+1", "C1", "=a1 + $a$1"))
	if s.What(place("B1")) != 2 {
		t.Errorf("P19.3: What(B1): %d", s.What(place("B1")))
	}
	do(t, s, paste("A1:C1", "A2"))
	checkCells(t, "P19.2: paste", s, items("A1", "5", "B1", "=A1+1", "C1", "=a1 + $a$1", "A2", "5", "B2", "=A2+1", "C2", "=A2+$A$1"))
	do(t, s, rowsIn(1, 2))
	checkCells(t, "P19.2: rows in", s, items("A1", "5", "B1", "=A1+1", "C1", "=a1 + $a$1", "A4", "5", "B4", "=A4+1", "C4", "=A4+$A$1"))
	do(t, s, rowsOut(0, 1))
	checkCells(t, "P19.2: rows out", s, items("A3", "5", "B3", "=A3+1", "C3", "=A3+#REF!"))
	do(t, s, set("D1", "=A1:B2"), paste("D1:D1", "A1"))
	checkCells(t, "P19.2: paste to the left", s, items("A1", "=#REF!", "D1", "=A1:B2", "A3", "5", "B3", "=A3+1", "C3", "=A3+#REF!"))
	refuse(t, s, 1, api.ErrSpot, set("A1", "x"), api.Edit{Kind: api.EditSet, At: at(65536, 0)})
	do(t, s, api.Edit{Kind: api.EditClear, Area: rect(0, 0, 65535, 701)})
	checkCells(t, "P19.2: clear", s, nil)
	do(t, s, set("A65536", "z"))
	refuse(t, s, 0, api.ErrSpot, rowsIn(65535, 1))
}

// kind is a text and what a cell with it is.
type kind struct {
	text  string
	what  int
	value api.Value // of a formula: none
}

// kinds gives texts of each row of doc/00's table, those at the rows' edges with them.
func kinds() []kind {
	formula := func(text string) kind { return kind{text: text, what: api.CellFormula} }
	broken := func(text string) kind { return kind{text, api.CellBroken, bad(api.EName)} }
	literal := func(text string, v api.Value) kind { return kind{text, api.CellLiteral, v} }
	itself := func(text string) kind { return kind{text, api.CellLiteral, txt(text)} }
	all := []kind{
		{},
		formula("=1"), formula("=A1"), formula("= a1 + $a$1 "), formula("=SUM(A1:ZZ65536)"), formula("=aaa1"), formula("=NA()"), formula("=\"=\""), formula("=#N/A"), formula("=9223372036854775807"), formula("=1\t\n+1"),
		formula("=" + times(65534, " ") + "1"), formula("=\"" + times(16384, "x") + "\""), formula("=SUM(" + times(510, "1,") + "1)"), formula("=" + times(63, "-") + "1"), formula("=" + times(256, "(") + "1" + times(256, ")")),
		broken("="), broken("=="), broken("=1+"), broken("= "), broken("=NOPE(1)"), broken("=NA"), broken("=ABS()"), broken("=1.5"), broken("=#CYCLE!"), broken("=9223372036854775808"), broken("=A1 B1"), broken("=\xff"), broken("=\x00"), broken("=\"a"),
		broken("=" + times(65535, " ") + "1"), broken("=\"" + times(16385, "x") + "\""), broken("=SUM(" + times(511, "1,") + "1)"), broken("=" + times(64, "-") + "1"), broken("=" + times(257, "(") + "1" + times(257, ")")), broken("=" + times(1<<20, "(")),
		literal("'", txt("")), literal("'5", txt("5")), literal("'=1", txt("=1")), literal("''", txt("'")), literal("'TRUE", txt("TRUE")), literal("' x ", txt(" x ")), literal("'#N/A", txt("#N/A")), literal("'\xff\x00", txt("\xff\x00")),
		literal("'"+times(32767, "x"), txt(times(32767, "x"))), literal("'"+times(32768, "x"), bad(api.EValue)),
		literal("0", num(0)), literal("5", num(5)), literal("-7", num(-7)), literal("9223372036854775807", num(9223372036854775807)), literal("-9223372036854775808", num(-9223372036854775808)),
		literal("TRUE", truth(1)), literal("FALSE", truth(0)),
		literal("#NAME?", bad(api.EName)), literal("#NUM!", bad(api.ENum)), literal("#REF!", bad(api.ERef)), literal("#VALUE!", bad(api.EValue)), literal("#DIV/0!", bad(api.EDiv)), literal("#N/A", bad(api.ENA)),
		literal(times(32768, "x"), bad(api.EValue)), literal(times(65537, "1"), bad(api.EValue)),
	}
	for _, text := range []string{"x", "#CYCLE!", "-0", "007", "+5", "5 ", " 5", " ", "\t", "1.5", "9223372036854775808", "-9223372036854775809", "true", "True", "FALSE ", "#n/a", "#N/A ", "#", "#REF", " =1", "\x00=1", "A1", "\"", "-", "\xff", "é", "\n", times(32767, "x"), times(32767, "\xff"), times(20000, "9")} {
		all = append(all, itself(text))
	}
	return all
}

func TestWhatEachTextIs(t *testing.T) {
	s, p := New(), place("C7")
	var last string
	for _, k := range kinds() {
		do(t, s, set("C7", k.text))
		last = k.text
		if got := s.Text(p); got != k.text {
			t.Errorf("P19.3: Text: %.60q; want %.60q", got, k.text)
		}
		if got := s.What(p); got != k.what {
			t.Errorf("P19.3: What of %.60q: %d; want %d", k.text, got, k.what)
		}
		checkValue(t, s, p, k)
		checkTree(t, s, p, k)
		if s.Bytes() != len(last) || s.Len() != min(len(last), 1) {
			t.Errorf("P19.5: Bytes, Len with %.60q: %d, %d", last, s.Bytes(), s.Len())
		}
	}
}

func checkValue(t *testing.T, s *Sheet, p api.Spot, k kind) {
	t.Helper()
	wantE := api.OK
	if k.what == api.CellFormula {
		wantE = api.ErrKind
	}
	if v, e := s.Value(p); v != k.value || e != wantE {
		t.Errorf("P19.4: Value of %.60q: %.60v, %d; want %.60v, %d", k.text, v, e, k.value, wantE)
	}
}

func checkTree(t *testing.T, s *Sheet, p api.Spot, k kind) {
	t.Helper()
	got, e := s.Tree(p)
	if k.what != api.CellFormula {
		if e != api.ErrKind || !tree.Same(got, api.Expr{}) {
			t.Errorf("P19.4: Tree of %.60q: %.60v, %d; want none, ErrKind", k.text, got, e)
		}
		return
	}
	want, _, wrong := parse.Formula(k.text)
	if wrong != api.OK {
		t.Fatalf("the test's own fault: no formula: %.60q", k.text)
	}
	if e != api.OK || !tree.Same(got, want) {
		t.Errorf("P19.4: Tree of %.60q: %.60v, %d; want %.60v", k.text, got, e, want)
	}
}

// wrongPlaces gives places that are none of the grid's: each number that is none by itself, both at once, and such as would be places if a number were cut.
func wrongPlaces() []api.Spot {
	const least, most = -1 << 63, 1<<63 - 1
	return []api.Spot{
		at(-1, 0), at(0, -1), at(-1, -1), at(65536, 0), at(0, 702), at(65536, 702), at(65536, 5), at(5, 702), at(-1, 5), at(5, -1),
		at(least, 0), at(0, least), at(least, least), at(most, 0), at(0, most), at(most, most), at(1<<32, 0), at(0, 1<<32), at(1<<16+5, 5), at(5, 1<<10+5), at(1<<32+5, 5), at(5, 1<<32+5), at(least+5, 5), at(5, least+5),
	}
}

func TestOfNoPlace(t *testing.T) {
	s := sheetOf(t, "A1", "=B1", "F6", "=A1", "ZZ65536", "x", "A65536", "7", "ZZ1", "=1+")
	for _, p := range wrongPlaces() {
		if s.Text(p) != "" || s.What(p) != api.CellBlank {
			t.Errorf("P19.3: of %v, which is no place: %q, %d", p, s.Text(p), s.What(p))
		}
		if x, e := s.Tree(p); e != api.ErrSpot || !tree.Same(x, api.Expr{}) {
			t.Errorf("P19.4: Tree(%v), which is no place: %v, %d", p, x, e)
		}
		if v, e := s.Value(p); e != api.ErrSpot || v != (api.Value{}) {
			t.Errorf("P19.4: Value(%v), which is no place: %v, %d", p, v, e)
		}
	}
}

func TestAllInRowOrder(t *testing.T) {
	s := sheetOf(t, "ZZ65536", "a", "B1", "b", "A2", "c", "AA1", "d", "Z1", "e", "A65536", "f", "A1", "g", "A10", "h", "A9", "i", "ZZ1", "j")
	checkCells(t, "P19.5: All", s, items("A1", "g", "B1", "b", "Z1", "e", "AA1", "d", "ZZ1", "j", "A2", "c", "A9", "i", "A10", "h", "A65536", "f", "ZZ65536", "a"))
	var early []api.Spot
	for p := range s.All() {
		if early = append(early, p); len(early) == 3 {
			break
		}
	}
	if !slices.Equal(early, places("A1 B1 Z1")) {
		t.Errorf("P0.7: All, left early: %v", early)
	}
	n, all := 0, s.All()
	for range all {
		for range all {
			n++
		}
	}
	if n != 100 {
		t.Errorf("P0.7: All within All: %d", n)
	}
}

func TestAllAsItWasAtTheCall(t *testing.T) {
	s := sheetOf(t, "A1", "1", "B1", "=A1", "A2", "3")
	was := collect(s.All())
	all := s.All()
	do(t, s, set("A1", ""), set("B1", "x"), set("C9", "new"), rowsIn(0, 7))
	if got := collect(all); !slices.Equal(got, was) {
		t.Errorf("P19.5: All of a sheet that was changed behind the call: %s; want %s", show(got), show(was))
	}
	now := collect(s.All())
	i := 0
	for p, text := range s.All() {
		if p != now[i].at || text != now[i].text {
			t.Errorf("P19.5: All, the sheet changed within it: %v %q; want %v", p, text, now[i])
		}
		i++
		do(t, s, clearOf("A1:M60"))
	}
	if i != len(now) || s.Len() != 0 {
		t.Errorf("P19.5: All, the sheet changed within it: %d cells; want %d", i, len(now))
	}
}

func TestCopy(t *testing.T) {
	cells := []string{"A1", "5", "B1", "=A1+1", "C1", "=a1 +1", "D1", "=1+", "E1", "'x", "ZZ65536", "=ZZ65535"}
	s := sheetOf(t, cells...)
	c := s.Copy()
	if c == s {
		t.Error("P19.6: Copy gives the sheet itself")
	}
	checkCells(t, "P19.6: Copy", c, items(cells...))
	for _, i := range items(cells...) {
		if c.What(i.at) != s.What(i.at) {
			t.Errorf("P19.6: What of %v in a copy: %d; want %d", i.at, c.What(i.at), s.What(i.at))
		}
	}
	do(t, c, set("A1", "6"), clearOf("B1:B1"), set("F1", "new"), colsOut(2, 1))
	checkCells(t, "P19.6: a sheet whose copy was changed", s, items(cells...))
	cAfter := collect(c.All())
	do(t, s, set("A1", "7"), rowsOut(0, 1))
	checkCells(t, "P19.6: a copy whose sheet was changed", c, cAfter)
	checkCells(t, "P19.6: a copy of a new sheet", New().Copy(), nil)
	refuse(t, c, 1, api.ErrKind, set("A1", "9"), api.Edit{})
	checkCells(t, "P19.6: a sheet whose copy has refused", s, collect(s.All()))
}

func TestDiffer(t *testing.T) {
	cells := []string{"A1", "5", "B1", "=A1+1", "AA1", "x", "C2", "=1+", "ZZ65536", "=ZZ65535"}
	s := sheetOf(t, cells...)
	for _, c := range []struct {
		edits []api.Edit
		want  string
	}{
		{nil, ""},
		{[]api.Edit{set("B1", "=A1+1")}, ""},
		{[]api.Edit{set("B1", "= A1+1")}, "B1"},
		{[]api.Edit{set("B1", "=A1+2"), set("B1", "=A1+1")}, ""},
		{[]api.Edit{set("A1", "'5")}, "A1"},
		{[]api.Edit{set("A1", "")}, "A1"},
		{[]api.Edit{set("ZY65536", "1"), set("AA1", "X"), set("A1", "4"), set("B2", "n")}, "A1 AA1 B2 ZY65536"},
		{[]api.Edit{set("D2", "1"), set("C2", ""), set("B2", "1"), set("C1", "1")}, "C1 B2 C2 D2"},
		{[]api.Edit{{Kind: api.EditClear, Area: rect(0, 0, 65535, 701)}}, "A1 B1 AA1 C2 ZZ65536"},
		{[]api.Edit{rowsOut(0, 1)}, "A1 B1 C1 AA1 C2 ZZ65535 ZZ65536"},
	} {
		o := s.Copy()
		do(t, o, c.edits...)
		if got := s.Differ(o); !slices.Equal(got, places(c.want)) {
			t.Errorf("P19.6: Differ behind %s: %v; want %s", spell(c.edits), got, c.want)
		}
		if got := o.Differ(s); !slices.Equal(got, places(c.want)) {
			t.Errorf("P19.6: Differ behind %s, the other way: %v; want %s", spell(c.edits), got, c.want)
		}
		checkCells(t, "P19.6: a sheet behind Differ", s, items(cells...))
	}
	if got := s.Differ(nil); !slices.Equal(got, places("A1 B1 AA1 C2 ZZ65536")) {
		t.Errorf("P19.6: Differ(nil): %v", got)
	}
	if got := s.Differ(s); len(got) != 0 {
		t.Errorf("P19.6: Differ of the sheet itself: %v", got)
	}
	if got := New().Differ(nil); len(got) != 0 {
		t.Errorf("P19.6: Differ(nil) of a new sheet: %v", got)
	}
}
