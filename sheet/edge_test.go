package sheet

import (
	"math"
	"slices"
	"strconv"
	"testing"

	"quadrille/api"
)

// corners gives a sheet with cells at the corners of the grid, and one in its midst.
func corners(t *testing.T) *Sheet {
	t.Helper()
	return sheetOf(t, "A1", "=A1", "ZZ1", "=1+", "C3", "x", "A65536", "=ZZ65536", "ZZ65536", "7")
}

// wrongAreas gives areas that may not be.
func wrongAreas() []api.Area {
	const least, most = math.MinInt, math.MaxInt
	return []api.Area{
		rect(1, 0, 0, 0), rect(0, 1, 0, 0), rect(1, 1, 0, 0), rect(5, 0, 4, 9), rect(0, 9, 5, 8), rect(-1, 0, 0, 0), rect(0, -1, 0, 0), rect(0, 0, 65536, 0), rect(0, 0, 0, 702), rect(-1, -1, -1, -1), rect(65536, 0, 65536, 0), rect(0, 702, 0, 702),
		rect(0, 0, 65536, 702), rect(least, least, most, most), rect(most, most, least, least), rect(most, most, most, most), rect(least, 0, least, 0), rect(0, 0, most, 0), rect(0, 0, 0, most), rect(0, 0, 1<<32, 0), rect(1<<32, 1<<32, 1<<32, 1<<32), rect(0, 0, -1, -1),
	}
}

// wrongNumbers gives numbers that are far from how many lines there are.
func wrongNumbers() []int {
	return []int{0, -1, -2, -65536, 65537, 65538, 1 << 31, 1 << 32, 1<<32 + 1, 1<<62 + 1, math.MaxInt - 1, math.MaxInt, math.MinInt, math.MinInt + 1}
}

// line is a kind of edit that puts lines in, or takes them out.
type line struct {
	kind, count int
	at          func(n int) api.Spot // the other number is that of no line: it is not looked at
}

func lineKinds() []line {
	row := func(n int) api.Spot { return at(n, -1) }
	col := func(n int) api.Spot { return at(math.MaxInt, n) }
	return []line{{api.EditRowsIn, 65536, row}, {api.EditRowsOut, 65536, row}, {api.EditColsIn, 702, col}, {api.EditColsOut, 702, col}}
}

func TestRefusedSetsAndClears(t *testing.T) {
	s := corners(t)
	for _, p := range wrongPlaces() {
		for _, text := range []string{"", "5", "=A1", times(1<<20, "x")} {
			refuse(t, s, 0, api.ErrSpot, api.Edit{Kind: api.EditSet, At: p, Text: text, Area: span("A1:B2"), To: place("C3"), N: 1})
		}
	}
	for _, a := range wrongAreas() {
		refuse(t, s, 0, api.ErrArea, api.Edit{Kind: api.EditClear, Area: a, At: place("A1"), To: place("C3"), N: 1})
	}
}

func TestRefusedPastes(t *testing.T) {
	s := corners(t)
	tooGreat := []api.Area{rect(0, 0, 4096, 0), rect(0, 0, 5, 701), rect(0, 0, 65535, 701), rect(0, 0, 63, 64), rect(0, 0, 64, 63), rect(65535-4096, 0, 65535, 0), rect(0, 0, 4096, 1), rect(0, 0, 65535, 0)}
	for _, a := range append(wrongAreas(), tooGreat...) {
		for _, to := range append(wrongPlaces(), place("A1"), place("ZZ65536")) {
			refuse(t, s, 0, api.ErrArea, api.Edit{Kind: api.EditPaste, Area: a, To: to})
		}
	}
	for _, a := range []api.Area{span("A1:A1"), span("A1:C3"), span("ZZ65536:ZZ65536"), rect(0, 0, 4095, 0), rect(0, 0, 63, 63)} {
		for _, to := range wrongPlaces() {
			refuse(t, s, 0, api.ErrSpot, api.Edit{Kind: api.EditPaste, Area: a, To: to})
		}
	}
	for _, c := range []struct {
		a  api.Area
		to string
	}{
		{span("A1:A2"), "A65536"}, {span("A1:B1"), "ZZ1"}, {span("A1:B2"), "ZZ65535"}, {span("A1:B2"), "ZY65536"}, {span("C3:E5"), "ZX65535"}, {span("C3:E5"), "ZY65534"}, {rect(0, 0, 4095, 0), "A61442"}, {rect(0, 0, 4, 701), "B1"}, {rect(65534, 700, 65535, 701), "ZZ65536"},
	} {
		refuse(t, s, 0, api.ErrSpot, api.Edit{Kind: api.EditPaste, Area: c.a, To: place(c.to)})
	}
	// As far as it can go.
	for _, c := range []struct {
		a  api.Area
		to string
	}{
		{span("A2:A3"), "A65535"}, {span("A2:B2"), "ZY1"}, {span("D4:E5"), "ZY65535"}, {rect(1, 5, 4096, 5), "A61441"}, {rect(1, 0, 5, 701), "A7"}, {rect(65530, 700, 65531, 701), "ZY65535"}, {rect(0, 0, 63, 63), "A1"},
	} {
		do(t, s, api.Edit{Kind: api.EditPaste, Area: c.a, To: place(c.to), At: at(-1, -1), N: -1, Text: times(100, "x")})
	}
}

func TestRefusedLines(t *testing.T) {
	for _, l := range lineKinds() {
		out := l.kind == api.EditRowsOut || l.kind == api.EditColsOut
		s := corners(t)
		edit := func(first, n int) api.Edit {
			return api.Edit{Kind: l.kind, At: l.at(first), N: n, Area: rect(-1, -1, -1, -1), To: at(-1, -1), Text: "x"}
		}
		wrong := []int{-1, l.count, l.count + 1, 1 << 32, 1<<16 + 5, math.MinInt, math.MaxInt, -l.count}
		for _, first := range wrong {
			for _, n := range append(wrongNumbers(), 1, 2, l.count, l.count+1, -l.count) {
				refuse(t, s, 0, api.ErrSpot, edit(first, n))
			}
		}
		for _, first := range []int{0, 1, 2, 3, l.count / 2, l.count - 2, l.count - 1} {
			numbers := append(wrongNumbers(), l.count+1)
			if out {
				numbers = append(numbers, l.count-first+1, l.count-first+2)
			}
			for _, n := range numbers {
				refuse(t, s, 0, api.ErrArg, edit(first, n))
			}
			if !out {
				// There is a cell on the last line.
				for _, n := range []int{1, 2, l.count - 1, l.count} {
					refuse(t, s, 0, api.ErrSpot, edit(first, n))
				}
				continue
			}
			for _, n := range []int{1, l.count - first} {
				c := s.Copy()
				do(t, c, edit(first, n))
			}
		}
	}
}

func TestRefusedKinds(t *testing.T) {
	s := corners(t)
	for _, k := range []int{0, 8, 9, -1, -3, 257, 1 << 32, 1<<32 + 1, math.MinInt, math.MaxInt} {
		refuse(t, s, 0, api.ErrKind, api.Edit{Kind: k, At: at(-1, -1), Area: rect(-1, -1, -1, -1), N: -1})
		refuse(t, s, 0, api.ErrKind, api.Edit{Kind: k, Text: "5", N: 1})
		refuse(t, s, 2, api.ErrKind, set("A1", "8"), clearOf("C3:C3"), api.Edit{Kind: k}, set("A1", "9"))
	}
}

// TestCellsThatWouldLeave puts lines in where there is just so much room behind the last cell.
func TestCellsThatWouldLeave(t *testing.T) {
	for _, room := range []int{1, 2, 5, 60000} {
		s := New()
		do(t, s, api.Edit{Kind: api.EditSet, At: at(65535-room, 3), Text: "last"}, set("A1", "first"))
		refuse(t, s, 0, api.ErrSpot, rowsIn(65535-room, room+1))
		refuse(t, s, 0, api.ErrSpot, rowsIn(0, room+1))
		refuse(t, s, 0, api.ErrSpot, rowsIn(0, 65536))
		do(t, s, rowsIn(65535-room, room))
		if s.Text(at(65535, 3)) != "last" || s.Text(place("A1")) != "first" || s.Len() != 2 {
			t.Errorf("P19.2: %d rows in: %s", room, show(collect(s.All())))
		}
		refuse(t, s, 1, api.ErrSpot, set("B1", "x"), rowsIn(65535, 1))
	}
	for _, room := range []int{1, 2, 5, 600} {
		s := New()
		do(t, s, api.Edit{Kind: api.EditSet, At: at(3, 701-room), Text: "last"}, set("A1", "first"))
		refuse(t, s, 0, api.ErrSpot, colsIn(701-room, room+1))
		refuse(t, s, 0, api.ErrSpot, colsIn(0, 702))
		do(t, s, colsIn(701-room, room))
		if s.Text(at(3, 701)) != "last" || s.Text(place("A1")) != "first" || s.Len() != 2 {
			t.Errorf("P19.2: %d columns in: %s", room, show(collect(s.All())))
		}
		refuse(t, s, 1, api.ErrSpot, set("B1", "x"), colsIn(701, 1))
	}
	// Cells ahead of the line stay, so they can't leave; nor can what is blank.
	s := sheetOf(t, "A1", "=B1", "ZZ1", "x", "A65535", "y")
	do(t, s, rowsIn(65535, 65536), rowsIn(1, 1), rowsOut(1, 1), rowsIn(65535, 1))
	checkCells(t, "P19.2: rows in behind all cells", s, items("A1", "=B1", "ZZ1", "x", "A65535", "y"))
	empty := New()
	do(t, empty, rowsIn(0, 65536), colsIn(0, 702), rowsOut(0, 65536), colsOut(0, 702), colsOut(701, 1), rowsOut(65535, 1))
	checkCells(t, "P19.2: lines of a blank sheet", empty, nil)
}

// TestTakenBack does all kinds of edits, and then one that is refused.
func TestTakenBack(t *testing.T) {
	s := sheetOf(t, "A1", "5", "B1", "=A1+1", "C1", "=a1 + $a$1", "A2", "=1+", "B2", "=SUM(A1:C9)", "C3", "'x", "ZZ65536", "=ZZ65536", "E5", "=E4")
	all := []api.Edit{
		set("A1", "6"), set("B1", ""), set("D9", "new"), set("C1", "=B7"), clearOf("A1:B2"), clearOf("A1:ZZ5"), paste("A1:C3", "B2"), paste("A1:C3", "A1"), paste("B2:D4", "A1"), rowsOut(0, 1), rowsOut(1, 65535), rowsOut(0, 65536), colsOut(0, 1), colsOut(1, 701), colsOut(0, 702),
	}
	bad := []struct {
		x api.Edit
		e api.Errno
	}{
		{api.Edit{}, api.ErrKind}, {api.Edit{Kind: api.EditSet, At: at(-1, 0)}, api.ErrSpot}, {rowsIn(0, 65537), api.ErrArg}, {api.Edit{Kind: api.EditClear, Area: rect(1, 0, 0, 0)}, api.ErrArea}, {paste("A1:B1", "ZZ1"), api.ErrSpot},
	}
	for i, a := range all {
		for _, w := range bad {
			refuse(t, s, 1, w.e, a, w.x)
			refuse(t, s, 1, w.e, a, w.x, a)
			for _, b := range all {
				refuse(t, s, 2, w.e, a, b, w.x)
			}
			refuse(t, s, len(all), w.e, append(slices.Concat(all[i:], all[:i]), w.x)...)
		}
	}
	moving := []api.Edit{set("ZZ65536", ""), rowsIn(0, 1), rowsIn(1, 7), colsIn(2, 300), rowsOut(3, 2), colsOut(0, 2), rowsIn(2, 60000)}
	for n := range moving {
		refuse(t, s, n, api.ErrKind, append(slices.Clone(moving[:n]), api.Edit{})...)
	}
	for _, p := range places("A1 B1 C1 A2 B2 C3 ZZ65536 E5 D9") {
		checkCell(t, s, p, s.Text(p))
	}
}

// TestEachEditOnWhatTheOneAheadLeft hangs on the order of edits.
func TestEachEditOnWhatTheOneAheadLeft(t *testing.T) {
	for _, c := range []struct {
		edits []api.Edit
		want  []item
	}{
		{nil, nil},
		{[]api.Edit{set("A1", "1"), set("A1", "2")}, items("A1", "2")},
		{[]api.Edit{set("A1", "1"), set("A1", "")}, nil},
		{[]api.Edit{set("A1", ""), set("A1", "")}, nil},
		{[]api.Edit{set("A1", "1"), clearOf("A1:B2"), set("B2", "2")}, items("B2", "2")},
		{[]api.Edit{set("A1", "=B1"), paste("A1:A1", "A2"), paste("A2:A2", "B3"), set("A1", "x")}, items("A1", "x", "A2", "=B2", "B3", "=C3")},
		{[]api.Edit{set("A1", "=A2"), rowsIn(1, 1), set("A2", "x"), rowsIn(0, 1)}, items("A2", "=A4", "A3", "x")},
		{[]api.Edit{set("A1", "=A2"), rowsOut(1, 1), rowsIn(1, 1)}, items("A1", "=#REF!")},
		{[]api.Edit{set("B2", "=A1"), colsOut(0, 1), rowsOut(0, 1), colsIn(0, 1)}, items("B1", "=#REF!")},
		{[]api.Edit{set("A65536", "x"), clearOf("A65536:A65536"), rowsIn(0, 1)}, nil},
		{[]api.Edit{set("A65535", "x"), rowsIn(65534, 1), set("A65535", "y")}, items("A65535", "y", "A65536", "x")},
	} {
		s := New()
		do(t, s, c.edits...)
		checkCells(t, "P19.2: behind "+spell(c.edits), s, c.want)
	}
}

func TestPastesThatLieOverTheirSource(t *testing.T) {
	cells := []string{"A1", "1", "B1", "=A1", "C1", "=1+", "A2", "= A1 + B1", "B3", "'x", "C3", "=$A1+A$1"}
	for _, c := range []struct {
		a, to string
		want  []item
	}{
		// Onto itself: just the formulas' texts are another one.
		{"A1:C3", "A1", items("A1", "1", "B1", "=A1", "C1", "=1+", "A2", "=A1+B1", "B3", "'x", "C3", "=$A1+A$1")},
		{"A1:C3", "B2", items("A1", "1", "B1", "=A1", "C1", "=1+", "A2", "= A1 + B1", "B2", "1", "C2", "=B2", "D2", "=1+", "B3", "=B2+C2", "C4", "'x", "D4", "=$A2+B$1")},
		{"A1:B2", "B1", items("A1", "1", "B1", "1", "C1", "=B1", "A2", "= A1 + B1", "B2", "=B1+C1", "B3", "'x", "C3", "=$A1+A$1")},
		{"B2:D4", "A1", items("A2", "'x", "B2", "=#REF!+#REF!")},
		// Blank cells are pasted, too.
		{"D4:E5", "A1", items("C1", "=1+", "B3", "'x", "C3", "=$A1+A$1")},
		{"A1:A1", "C3", items("A1", "1", "B1", "=A1", "C1", "=1+", "A2", "= A1 + B1", "B3", "'x", "C3", "1")},
	} {
		s := sheetOf(t, cells...)
		do(t, s, paste(c.a, c.to))
		checkCells(t, "P19.2: paste "+c.a+" to "+c.to, s, c.want)
	}
}

// TestTextsThatAreNotMoved holds that just a formula whose tree is another one gets another text.
func TestTextsThatAreNotMoved(t *testing.T) {
	typed := []string{"A1", "= a1 ", "B1", "=sum( A1 : B2 )", "C1", "=((1))", "D1", "=1+", "E1", "A9", "F1", "'=A9", "G1", "=\"A9\"", "H1", "=indirect(\"A9\")", "I1", "=#ref!", "J1", "=A9 B9", "K1", "=$b$2:a1", "L1", "=aaa9", "M1", "=row( )"}
	// A reference off the grid is no reference, and so is what a text spells: these stay as they were typed.
	s := sheetOf(t, typed...)
	do(t, s, rowsIn(8, 3), rowsOut(8, 3), colsIn(13, 4), colsOut(13, 4), rowsIn(2, 1), colsOut(20, 600))
	checkCells(t, "P19.2: formulas that are not moved", s, items(typed...))
	// Now all that speak of row 1 or of column A are laid anew.
	do(t, s, rowsIn(0, 1))
	checkCells(t, "P19.2: a row in", s, items("A2", "=A2", "B2", "=SUM(A2:B3)", "C2", "=((1))", "D2", "=1+", "E2", "A9", "F2", "'=A9", "G2", "=\"A9\"", "H2", "=indirect(\"A9\")", "I2", "=#ref!", "J2", "=A9 B9", "K2", "=$B$3:A2", "L2", "=aaa9", "M2", "=row( )"))
	do(t, s, colsOut(1, 1))
	checkCells(t, "P19.2: a column out", s, items("A2", "=A2", "B2", "=((1))", "C2", "=1+", "D2", "A9", "E2", "'=A9", "F2", "=\"A9\"", "G2", "=indirect(\"A9\")", "H2", "=#ref!", "I2", "=A9 B9", "J2", "=$A$3:A2", "K2", "=aaa9", "L2", "=row( )"))
}

// TestMovedFormulas moves those that stay where they are, those that are moved themselves, and those that speak of what is gone.
func TestMovedFormulas(t *testing.T) {
	cells := []string{"A1", "=A5", "B1", "=$A$3", "C1", "=SUM(A2:A6)", "A3", "=A1", "B3", "=A3", "A5", "=A3+A5", "C9", "=C8"}
	for _, c := range []struct {
		x    api.Edit
		want []item
	}{
		{rowsIn(2, 2), items("A1", "=A7", "B1", "=$A$5", "C1", "=SUM(A2:A8)", "A5", "=A1", "B5", "=A5", "A7", "=A5+A7", "C11", "=C10")},
		{rowsOut(2, 1), items("A1", "=A4", "B1", "=#REF!", "C1", "=SUM(A2:A5)", "A4", "=#REF!+A4", "C8", "=C7")},
		{rowsOut(2, 3), items("A1", "=#REF!", "B1", "=#REF!", "C1", "=SUM(A2:A3)", "C6", "=C5")},
		{rowsOut(1, 65535), items("A1", "=#REF!", "B1", "=#REF!", "C1", "=SUM(#REF!)")},
		{rowsOut(0, 65536), nil},
		{rowsOut(65535, 1), items(cells...)},
		{rowsIn(65535, 1), items(cells...)},
		{rowsIn(9, 65536), items(cells...)},
		{colsIn(0, 1), items("B1", "=B5", "C1", "=$B$3", "D1", "=SUM(B2:B6)", "B3", "=B1", "C3", "=B3", "B5", "=B3+B5", "D9", "=D8")},
		{colsOut(0, 1), items("A1", "=#REF!", "B1", "=SUM(#REF!)", "A3", "=#REF!", "B9", "=B8")},
		{colsOut(0, 702), nil},
		{colsOut(3, 699), items(cells...)},
	} {
		s := sheetOf(t, cells...)
		do(t, s, c.x)
		checkCells(t, "P19.2: behind "+spell([]api.Edit{c.x}), s, c.want)
		for _, i := range c.want {
			checkCell(t, s, i.at, i.text)
		}
	}
}

// TestReferencesThatLeave puts rows in so that a reference leaves the grid, though no cell does.
func TestReferencesThatLeave(t *testing.T) {
	s := sheetOf(t, "A1", "=A65536", "B1", "=SUM(B2:B65536)", "C1", "=ZZ1", "D1", "=65535")
	do(t, s, rowsIn(5, 1), colsIn(9, 1))
	checkCells(t, "P19.2: references that leave the grid", s, items("A1", "=#REF!", "B1", "=SUM(#REF!)", "C1", "=#REF!", "D1", "=65535"))
}

func TestTooLongBatches(t *testing.T) {
	s := sheetOf(t, "A1", "5")
	many := func(n int) []api.Edit { return slices.Repeat([]api.Edit{set("A1", "x")}, n) }
	do(t, s, many(4096)...)
	refuse(t, s, 0, api.ErrLong, many(4097)...)
	refuse(t, s, 0, api.ErrLong, make([]api.Edit, 4097)...)
	refuse(t, s, 0, api.ErrLong, make([]api.Edit, 1<<17)...)
	refuse(t, s, 4095, api.ErrKind, append(many(4095), api.Edit{})...)
	half := times(1<<23, "x")
	do(t, s, set("A1", half), set("A1", half))
	refuse(t, s, 0, api.ErrLong, set("A1", half), set("A1", half), set("A1", "y"))
	refuse(t, s, 0, api.ErrLong, set("A1", half+half+"y"))
	// That it is too long comes ahead of all faults of its edits; where they are no sets, their texts are not looked at.
	refuse(t, s, 0, api.ErrLong, api.Edit{}, set("A1", half+half+"y"))
	refuse(t, s, 0, api.ErrLong, api.Edit{Kind: api.EditSet, At: at(-1, -1), Text: half + half + "y"})
	refuse(t, s, 1, api.ErrKind, set("A1", "z"), api.Edit{Text: half + half + "y"})
	x := clearOf("A1:A1")
	x.Text = half + half + half
	do(t, s, x, set("B1", half+half))
	if s.Bytes() != 1<<24 || s.Len() != 1 {
		t.Errorf("P19.5: Bytes, Len: %d, %d", s.Bytes(), s.Len())
	}
	do(t, s)
}

// fullSheet gives a sheet of 65,536 cells, the rows 1 to 1024 of 64 columns each.
func fullSheet(t *testing.T, text string) *Sheet {
	t.Helper()
	s := sheetOf(t, "A1", text)
	for n := 1; n < 64; n *= 2 {
		do(t, s, api.Edit{Kind: api.EditPaste, Area: rect(0, 0, 0, n-1), To: at(0, n)})
	}
	for n := 1; n < 1024; n *= 2 {
		for top := 0; top < n; top += 64 {
			do(t, s, api.Edit{Kind: api.EditPaste, Area: rect(top, 0, top+min(n, 64)-1, 63), To: at(n+top, 0)})
		}
	}
	if s.Len() != 65536 {
		t.Fatalf("P19.2: %d cells; want 65,536", s.Len())
	}
	return s
}

func TestNoRoomForCells(t *testing.T) {
	for _, text := range []string{"7", "=A1"} {
		s := fullSheet(t, text)
		refuse(t, s, 0, api.ErrFull, set("ZZ1", "x"))
		refuse(t, s, 0, api.ErrFull, set("ZZ65536", "x"), set("A1", ""))
		do(t, s, rowsIn(0, 64512), rowsOut(0, 64512), rowsIn(5, 3), colsIn(5, 3), colsOut(70, 3))
		if s.Len() != 65536 {
			t.Errorf("P19.2: %d cells behind rows and columns", s.Len())
		}
		do(t, s, rowsOut(5, 3), colsOut(5, 3))
		refuse(t, s, 1, api.ErrKind, rowsIn(0, 1), api.Edit{})
		refuse(t, s, 2, api.ErrFull, set("A1", "x"), colsIn(9, 1), set("A65536", "x"))
		refuse(t, s, 1, api.ErrFull, paste("A1:BL64", "A2"), paste("A1:BL64", "B2"), rowsOut(1, 1))
		refuse(t, s, 1, api.ErrFull, set("A1", "x"), paste("A1:B2", "BL1"))
		// A place that is taken already, and one that is left first.
		do(t, s, set("A1", "x"), set("ZZ1", ""), set("B1", ""), set("ZZ1", "y"), set("ZZ1", ""), set("B1", "z"))
		if s.Len() != 65536 || s.Text(place("B1")) != "z" {
			t.Errorf("P19.2: %d cells, B1 %q", s.Len(), s.Text(place("B1")))
		}
		refuse(t, s, 1, api.ErrFull, set("B1", "x"), set("ZZ1", "x"))
		// As many cells behind the edit as ahead of it, though some are new.
		do(t, s, clearOf("C1:D1"), set("ZY9", "a"), set("ZZ9", "b"))
		do(t, s, api.Edit{Kind: api.EditPaste, Area: rect(1500, 0, 1500, 63), To: at(9, 0)}, set("ZZ1", "c"), api.Edit{Kind: api.EditPaste, Area: rect(20, 0, 20, 62), To: at(9, 0)})
		if s.Len() != 65536 {
			t.Errorf("P19.2: %d cells", s.Len())
		}
		// One place of the paste becomes blank, another one gets a cell.
		do(t, s, set("ZZ1", ""), set("ZY1", "v"))
		do(t, s, api.Edit{Kind: api.EditPaste, Area: rect(0, 699, 0, 700), To: at(0, 700)})
		if s.Len() != 65536 || s.Text(place("ZZ1")) != "v" || s.Text(place("ZY1")) != "" {
			t.Errorf("P19.2: %d cells, %q, %q", s.Len(), s.Text(place("ZY1")), s.Text(place("ZZ1")))
		}
		do(t, s, api.Edit{Kind: api.EditClear, Area: rect(0, 0, 65535, 701)}, set("A1", "x"))
		checkCells(t, "P19.2: a full sheet that was cleared", s, items("A1", "x"))
	}
}

func TestNoRoomForBytes(t *testing.T) {
	most := times(1<<24, "x")
	s := New()
	for i := range 4 {
		do(t, s, api.Edit{Kind: api.EditSet, At: at(i, 0), Text: most})
	}
	if s.Bytes() != 1<<26 {
		t.Fatalf("P19.5: Bytes: %d", s.Bytes())
	}
	refuse(t, s, 0, api.ErrFull, set("B1", "y"))
	refuse(t, s, 0, api.ErrFull, set("B1", "y"), set("A1", ""))
	refuse(t, s, 1, api.ErrFull, set("B1", ""), paste("A1:A1", "B1"))
	refuse(t, s, 0, api.ErrFull, paste("A1:A4", "A2"))
	// No place of the grid comes ahead of no room.
	refuse(t, s, 0, api.ErrSpot, api.Edit{Kind: api.EditSet, At: at(-1, 0), Text: most})
	refuse(t, s, 0, api.ErrSpot, api.Edit{Kind: api.EditPaste, Area: span("A1:A4"), To: at(65533, 0)})
	do(t, s, set("A1", most[1:]), set("B1", "y"))
	refuse(t, s, 0, api.ErrFull, set("B2", "y"))
	do(t, s, set("A1", most[6:]), set("B1", ""), set("B2", "=A9"), set("B3", "=A9"))
	if s.Bytes() != 1<<26 {
		t.Fatalf("P19.5: Bytes: %d", s.Bytes())
	}
	// Formulas that are moved get longer, or no longer, or shorter texts.
	refuse(t, s, 0, api.ErrFull, rowsIn(8, 1))
	refuse(t, s, 0, api.ErrFull, rowsOut(8, 1))
	do(t, s, rowsIn(9, 1), rowsOut(9, 1))
	if s.Text(place("B2")) != "=A9" || s.Bytes() != 1<<26 {
		t.Errorf("P19.2: %q, %d bytes", s.Text(place("B2")), s.Bytes())
	}
	do(t, s, set("B3", ""), rowsIn(8, 1))
	if s.Text(place("B2")) != "=A10" || s.Bytes() != 1<<26-2 {
		t.Errorf("P19.2: %q, %d bytes", s.Text(place("B2")), s.Bytes())
	}
	do(t, s, paste("B1:B4", "A1"), clearOf("A1:A1"))
	if s.Bytes() >= 100 {
		t.Errorf("P19.5: Bytes: %d", s.Bytes())
	}
}

// TestAnyNumbers hands in edits of numbers of any size.
func TestAnyNumbers(t *testing.T) {
	within(t, "edits of any numbers", func() {
		c, s := newChance(77), corners(t)
		any := func() int {
			return []int{0, 1, 5, 701, 702, 65535, 65536, -1, math.MinInt, math.MaxInt, math.MinInt + 1, math.MaxInt - 1, 1 << 32, 1 << 62, -1 << 62, int(c.Uint64())}[c.Intn(16)]
		}
		m := model{}
		for _, i := range collect(s.All()) {
			m[i.at] = i.text
		}
		for range 20000 {
			x := api.Edit{Kind: 1 + c.Intn(7), At: at(any(), any()), Area: rect(any(), any(), any(), any()), To: at(any(), any()), N: any(), Text: "n"}
			if x.Kind == api.EditClear && mayBe(x.Area) || x.Kind == api.EditPaste && c.Intn(2) == 0 {
				x.Area = span("B2:C3")
			}
			next, k, e := m.apply([]api.Edit{x})
			if gotK, gotE := s.Apply(x); gotK != k || gotE != e {
				t.Errorf("P19.2: %s: %d, %d; want %d, %d", spell([]api.Edit{x}), gotK, gotE, k, e)
				return
			}
			if m = next; s.Len() != len(m) {
				t.Errorf("P19.2: %s: %d cells; want %d", spell([]api.Edit{x}), s.Len(), len(m))
				return
			}
		}
	})
}

// TestLongBatches does as many edits as a batch may have, of each kind.
func TestLongBatches(t *testing.T) {
	within(t, "long batches", func() {
		s := New()
		var es []api.Edit
		for n := range 4096 {
			es = append(es, api.Edit{Kind: api.EditSet, At: at(n, n%702), Text: "=A" + strconv.Itoa(n+1) + "+1"})
		}
		do(t, s, es...)
		if s.Len() != 4096 {
			t.Errorf("P19.2: %d cells; want 4096", s.Len())
		}
		refuse(t, s, 4095, api.ErrKind, append(slices.Repeat([]api.Edit{paste("A1:AF32", "B2")}, 4095), api.Edit{})...)
		do(t, s, clearOf("A20:ZZ21"), api.Edit{Kind: api.EditClear, Area: rect(20, 0, 65535, 701)})
		was := collect(s.All())
		do(t, s, slices.Repeat([]api.Edit{rowsIn(3, 1), rowsOut(3, 1)}, 2048)...)
		if got := collect(s.All()); !slices.Equal(got, was) {
			t.Errorf("P19.2: rows in and out: %s; want %s", show(got), show(was))
		}
		refuse(t, s, 4095, api.ErrKind, append(slices.Repeat([]api.Edit{colsIn(1, 1), rowsIn(2, 1), colsOut(0, 1)}, 1365), api.Edit{})...)
		refuse(t, s, 4095, api.ErrArea, append(slices.Repeat([]api.Edit{set("A1", "x"), set("A1", ""), clearOf("A1:Z9")}, 1365), api.Edit{Kind: api.EditClear, Area: rect(1, 0, 0, 0)})...)
	})
}
