package spot

import (
	"math"
	"regexp"
	"slices"
	"strconv"
	"strings"
	"testing"
	"time"

	"quadrille/api"
)

const (
	least = math.MinInt
	most  = math.MaxInt
)

// within fails the test if the work goes on for far longer than it can.
func within(t *testing.T, what string, work func()) {
	t.Helper()
	done := make(chan struct{})
	go func() {
		defer close(done)
		work()
	}()
	select {
	case <-done:
	case <-time.After(20 * time.Second):
		t.Fatalf("P0.1: %s is not done", what)
	}
}

// columnNames gives all columns' letters in their order, by going through the alphabet.
func columnNames() []string {
	const capitals = "ABCDEFGHIJKLMNOPQRSTUVWXYZ"
	names := strings.Split(capitals, "")
	for _, first := range capitals {
		for _, second := range capitals {
			names = append(names, string(first)+string(second))
		}
	}
	return names
}

// offGrid gives places that there are not, on each side of the grid and at the ends of the numbers.
func offGrid() []api.Spot {
	return []api.Spot{
		{Row: -1}, {Col: -1}, {Row: -1, Col: -1}, {Row: 65536}, {Col: 702}, {Row: 65536, Col: 702}, {Row: 65535, Col: 702}, {Row: 65536, Col: 701},
		{Row: least}, {Col: least}, {Row: least, Col: least}, {Row: most}, {Col: most}, {Row: most, Col: most}, {Row: most - 1}, {Col: most - 1},
		{Row: least, Col: most}, {Row: 1 << 32}, {Col: 1 << 32}, {Row: 1 << 62}, {Col: -1 << 62}, {Row: 65536 + 1<<32}, {Row: 5, Col: -7}, {Row: -5, Col: 7},
	}
}

func TestMay(t *testing.T) {
	for _, s := range []api.Spot{{}, {Row: 65535}, {Col: 701}, {Row: 65535, Col: 701}, {Row: 9, Col: 26}, {Row: 701, Col: 1}, {Row: 702, Col: 700}, {Row: 30000, Col: 350}} {
		if !May(s) {
			t.Errorf("P2.1: May(%+v) is false", s)
		}
	}
	for _, s := range offGrid() {
		if May(s) {
			t.Errorf("P2.1: May(%+v) is true", s)
		}
	}
}

func TestText(t *testing.T) {
	for _, c := range []struct {
		at   api.Spot
		want string
	}{
		{api.Spot{}, "A1"}, {api.Spot{Col: 1}, "B1"}, {api.Spot{Row: 1}, "A2"}, {api.Spot{Row: 6, Col: 1}, "B7"}, {api.Spot{Col: 25}, "Z1"}, {api.Spot{Col: 26}, "AA1"},
		{api.Spot{Row: 9, Col: 26}, "AA10"}, {api.Spot{Col: 27}, "AB1"}, {api.Spot{Col: 51}, "AZ1"}, {api.Spot{Col: 52}, "BA1"}, {api.Spot{Row: 98, Col: 675}, "YZ99"},
		{api.Spot{Row: 99, Col: 676}, "ZA100"}, {api.Spot{Row: 65534, Col: 700}, "ZY65535"}, {api.Spot{Row: 65535, Col: 701}, "ZZ65536"}, {api.Spot{Row: 65535}, "A65536"},
	} {
		if s, e := Text(c.at); s != c.want || e != api.OK {
			t.Errorf("P2.2: Text(%+v): %q, %d; want %q", c.at, s, e, c.want)
		}
	}
	for _, at := range offGrid() {
		if s, e := Text(at); s != "" || e != api.ErrSpot {
			t.Errorf("P2.2, P2.8: Text(%+v): %q, %d", at, s, e)
		}
	}
}

// checkThereAndBack holds a place's text against the name that it should have, and what that reads as against the place.
func checkThereAndBack(t *testing.T, at api.Spot, want string) {
	t.Helper()
	if s, e := Text(at); s != want || e != api.OK {
		t.Errorf("P2.2: Text(%+v): %q, %d; want %q", at, s, e, want)
	}
	if back, e := Read(want); back != at || e != api.OK {
		t.Errorf("P2.3: Read(%q): %+v, %d; want %+v", want, back, e, at)
	}
	for pins := range 4 {
		r := api.Ref{Row: at.Row, Col: at.Col, PinRow: pins&1 != 0, PinCol: pins&2 != 0}
		s, e := RefText(r)
		if strings.ReplaceAll(s, "$", "") != want || e != api.OK {
			t.Errorf("P2.4: RefText(%+v): %q, %d; want %q with its pins", r, s, e, want)
		}
		if back, n, e := ReadRef(s); back != r || n != len(s) || e != api.OK {
			t.Errorf("P2.5: ReadRef(%q): %+v, %d, %d; want %+v", s, back, n, e, r)
		}
	}
}

func TestAllColumnsAndAllRows(t *testing.T) {
	names := columnNames()
	if len(names) != api.MaxCols {
		t.Fatalf("%d names of columns", len(names))
	}
	for col, name := range names {
		for _, row := range []int{0, 8, 9, 99, 65534, 65535} {
			checkThereAndBack(t, api.Spot{Row: row, Col: col}, name+strconv.Itoa(row+1))
		}
	}
	for row := range api.MaxRows {
		checkThereAndBack(t, api.Spot{Row: row, Col: 701}, "ZZ"+strconv.Itoa(row+1))
	}
}

func checkRead(t *testing.T, s string, want api.Spot, wantE api.Errno) {
	t.Helper()
	if at, e := Read(s); at != want || e != wantE {
		t.Errorf("P2.3: Read(%.40q): %+v, %d; want %+v, %d", s, at, e, want, wantE)
	}
}

func TestRead(t *testing.T) {
	checkRead(t, "A1", api.Spot{}, api.OK)
	checkRead(t, "B7", api.Spot{Row: 6, Col: 1}, api.OK)
	checkRead(t, "AA10", api.Spot{Row: 9, Col: 26}, api.OK)
	checkRead(t, "ZZ65536", api.Spot{Row: 65535, Col: 701}, api.OK)
	for _, s := range []string{
		"AAA1", "AAA65536", "A65537", "A65540", "A66000", "A70000", "A100000", "ZZ65537", "ZZZ1", "ABCDEFG99999999", "A99999999999999999999",
		// As numbers that wrap these would be places.
		"A18446744073709551617", "A4294967297", "A9223372036854775808",
	} {
		checkRead(t, s, api.Spot{}, api.ErrSpot)
	}
	for _, s := range []string{
		"", "A", "AA", "1", "12", "1A", "b7", "aA1", "Aa1", "zz65536", "B07", "B0", "B00", "B007", "B065536", "$B7", "B$7", "$B$7", "B7$", "$", "$$", "B$", "B7:", "B7:C8", ":",
		"B7 ", " B7", "B 7", "B7C", "B7C8", "B-7", "B+7", "B7.0", "B7\n", "B7\x00", "\x00B7", "\xff", "B\xff7", "B7\xff", "\u00c47", "\u212a1", "\uff211", "B\u0667", "B\uff17",
		"@1", "[1", "`1", "{1", "B/", "B:", "A/1", "A:1",
		// The form comes ahead of the grid.
		"aaa1", "AAA", "AAA0", "AAA01", "AAAa1", "$AAA1", "AAA$1", "AAA1 ", "A65537x", "a65537", "A065537", "A$65537", "A99999999999999999999!",
	} {
		checkRead(t, s, api.Spot{}, api.ErrSyntax)
	}
}

func TestRefText(t *testing.T) {
	for _, c := range []struct {
		r    api.Ref
		want string
	}{
		{api.Ref{}, "A1"}, {api.Ref{PinCol: true}, "$A1"}, {api.Ref{PinRow: true}, "A$1"}, {api.Ref{PinRow: true, PinCol: true}, "$A$1"},
		{api.Ref{Row: 11, Col: 27}, "AB12"}, {api.Ref{Row: 11, Col: 27, PinCol: true}, "$AB12"}, {api.Ref{Row: 11, Col: 27, PinRow: true}, "AB$12"}, {api.Ref{Row: 11, Col: 27, PinRow: true, PinCol: true}, "$AB$12"},
		{api.Ref{Row: 65535, Col: 701, PinRow: true, PinCol: true}, "$ZZ$65536"},
	} {
		if s, e := RefText(c.r); s != c.want || e != api.OK {
			t.Errorf("P2.4: RefText(%+v): %q, %d; want %q", c.r, s, e, c.want)
		}
	}
	for _, at := range offGrid() {
		for pins := range 4 {
			r := api.Ref{Row: at.Row, Col: at.Col, PinRow: pins&1 != 0, PinCol: pins&2 != 0}
			if s, e := RefText(r); s != "" || e != api.ErrSpot {
				t.Errorf("P2.4, P2.8: RefText(%+v): %q, %d", r, s, e)
			}
		}
	}
}

func checkReadRef(t *testing.T, s string, want api.Ref, wantN int, wantE api.Errno) {
	t.Helper()
	if r, n, e := ReadRef(s); r != want || n != wantN || e != wantE {
		t.Errorf("P2.5: ReadRef(%.40q): %+v, %d, %d; want %+v, %d, %d", s, r, n, e, want, wantN, wantE)
	}
}

func TestReadRef(t *testing.T) {
	checkReadRef(t, "$ab$12+1", api.Ref{Row: 11, Col: 27, PinRow: true, PinCol: true}, 6, api.OK)
	checkReadRef(t, "A1B2", api.Ref{}, 2, api.OK)
	checkReadRef(t, "a1", api.Ref{}, 2, api.OK)
	checkReadRef(t, "$a1", api.Ref{PinCol: true}, 3, api.OK)
	checkReadRef(t, "a$1", api.Ref{PinRow: true}, 3, api.OK)
	checkReadRef(t, "zZ65536", api.Ref{Row: 65535, Col: 701}, 7, api.OK)
	checkReadRef(t, "Zz65536", api.Ref{Row: 65535, Col: 701}, 7, api.OK)
	checkReadRef(t, "$z$9", api.Ref{Row: 8, Col: 25, PinRow: true, PinCol: true}, 4, api.OK)
	// What stands behind it is not looked at, whatever it is.
	for _, behind := range []string{"", "$", "$2", ":", ":B2", "a", "(", " ", "\x00", "\xff", ".5", "\u0667", "$$$", "B"} {
		checkReadRef(t, "b$7"+behind, api.Ref{Row: 6, Col: 1, PinRow: true}, 3, api.OK)
		checkReadRef(t, "AAA1"+behind, api.Ref{}, 4, api.ErrSpot)
		checkReadRef(t, "$a$65537"+behind, api.Ref{}, 8, api.ErrSpot)
	}
	checkReadRef(t, "ZZZ70000)", api.Ref{}, 8, api.ErrSpot)
	checkReadRef(t, "A4294967297", api.Ref{}, 11, api.ErrSpot)
	checkReadRef(t, "A18446744073709551617", api.Ref{}, 21, api.ErrSpot)
	for _, s := range []string{
		"", "$", "$$", "a", "$a", "a$", "$a$", "ab", "1", "$1", "$$1", "a0", "a$0", "$a0", "a00", "a01", "$a$01", "$$a1", "a$$1", "$a$$1", "aaa", "aaa0", "aaa$0", "a$b1",
		" a1", "a 1", "a-1", ":a1", "'a1", "\xffa1", "a\xff1", "\u00e41", "a\u06671", "\u212a1", "(", "@1", "[1", "`1", "{1", "A/1", "A:1", "\x00",
	} {
		checkReadRef(t, s, api.Ref{}, 0, api.ErrSyntax)
	}
}

func checkReadArea(t *testing.T, s string, want api.Area, wantE api.Errno) {
	t.Helper()
	if a, e := ReadArea(s); a != want || e != wantE {
		t.Errorf("P2.6: ReadArea(%.40q): %+v, %d; want %+v, %d", s, a, e, want, wantE)
	}
}

func TestReadArea(t *testing.T) {
	checkReadArea(t, "C3", api.Area{Top: 2, Left: 2, Bottom: 2, Right: 2}, api.OK)
	checkReadArea(t, "$c$3", api.Area{Top: 2, Left: 2, Bottom: 2, Right: 2}, api.OK)
	checkReadArea(t, "C3:C3", api.Area{Top: 2, Left: 2, Bottom: 2, Right: 2}, api.OK)
	checkReadArea(t, "ZZ65536", api.Area{Top: 65535, Left: 701, Bottom: 65535, Right: 701}, api.OK)
	for _, s := range []string{"B3:D9", "D9:B3", "B9:D3", "D3:B9", "$b3:D$9", "d$9:$B$3", "$B$9:$d$3"} {
		checkReadArea(t, s, api.Area{Top: 2, Left: 1, Bottom: 8, Right: 3}, api.OK)
	}
}

func TestAreasAtTheirLimit(t *testing.T) {
	checkReadArea(t, "A1:A4096", api.Area{Bottom: 4095}, api.OK)
	checkReadArea(t, "A4096:A1", api.Area{Bottom: 4095}, api.OK)
	checkReadArea(t, "A1:BL64", api.Area{Bottom: 63, Right: 63}, api.OK)
	checkReadArea(t, "ZZ65536:ZY63489", api.Area{Top: 63488, Left: 700, Bottom: 65535, Right: 701}, api.OK)
	checkReadArea(t, "A1:ZZ5", api.Area{Bottom: 4, Right: 701}, api.OK)
	for _, s := range []string{"A1:A4097", "A4097:A1", "A1:Q241", "A1:BL65", "A1:BM64", "A65:BL1", "ZZ65536:ZY63488", "A1:ZZ6", "A1:ZZ65536", "zz$65536:$a1", "A1:A65536", "A1:B65536"} {
		checkReadArea(t, s, api.Area{}, api.ErrArea)
	}
}

func TestReadAreaOfWrongTexts(t *testing.T) {
	for _, s := range []string{"AAA1", "A65537", "A1:AAA1", "AAA1:A1", "AAA1:AAA1", "A1:A65537", "a65537:a1", "$AAA$1:B$99999999999999999999", "A1:A4294967297"} {
		checkReadArea(t, s, api.Area{}, api.ErrSpot)
	}
	for _, s := range []string{
		"", ":", "::", "A1:", ":A1", "A1::B2", "A1:B2:", "A1:B2:C3", "A1 :B2", "A1: B2", " A1", "A1 ", "A1:B2 ", "A1B2", "A1;B2", "A1-B2", "A1..B2", "A1,", "A1,B2", "A1:B", "A1:2", "A:B", "1:2", "A1:B0", "A0:B1", "A01:B1", "A1:B02",
		"A1$:B2", "A1:$", "A1:$$B2", "A1:B2$", "A$$1:B2", "$:B2", "A1:\xff", "\xff:B2", "A1\uff1aB2", "A1:B2\x00",
		// The form of both comes ahead of the grid and of the size.
		"AAA1:", "AAA1:B", "AAA1x", "A65537:b0", "A:AAA1", "A0:AAA1", "AAA1:A1:A1", "A1:ZZ65536:", "A1:ZZ65536 ", "A1:AAA1!",
	} {
		checkReadArea(t, s, api.Area{}, api.ErrSyntax)
	}
}

func TestCompare(t *testing.T) {
	ordered := []api.Spot{
		{Row: least, Col: least}, {Row: least}, {Row: least, Col: most}, {Row: least + 1, Col: least}, {Row: -1, Col: 5}, {Col: least}, {Col: -1}, {}, {Col: 1}, {Col: 701}, {Col: most},
		{Row: 1, Col: least}, {Row: 1, Col: -1}, {Row: 1}, {Row: 1, Col: 1}, {Row: 2}, {Row: 65535, Col: 701}, {Row: 65536, Col: -3}, {Row: most - 1, Col: most}, {Row: most, Col: least}, {Row: most, Col: most - 1}, {Row: most, Col: most},
	}
	for i, a := range ordered {
		for k, b := range ordered {
			want := 0
			switch {
			case i < k:
				want = -1
			case i > k:
				want = 1
			}
			if got := Compare(a, b); got != want {
				t.Errorf("P2.7: Compare(%+v, %+v): %d; want %d", a, b, got, want)
			}
		}
	}
}

// texts gives all texts of at most so many of the pieces.
func texts(pieces []string, longest int) []string {
	all, last := []string{""}, []string{""}
	for range longest {
		var longer []string
		for _, s := range last {
			for _, piece := range pieces {
				longer = append(longer, s+piece)
			}
		}
		all, last = append(all, longer...), longer
	}
	return all
}

// model reads references as the document spells their form, by another way than the program's.
type model struct {
	names      []string
	ref, place *regexp.Regexp
	area       *regexp.Regexp
}

func newModel() model {
	return model{
		names: columnNames(),
		ref:   regexp.MustCompile(`^(\$?)([A-Za-z]+)(\$?)([1-9][0-9]*)`),
		place: regexp.MustCompile(`^[A-Z]+[1-9][0-9]*$`),
		area:  regexp.MustCompile(`^\$?[A-Za-z]+\$?[1-9][0-9]*(:\$?[A-Za-z]+\$?[1-9][0-9]*)?$`),
	}
}

func (m model) readRef(s string) (api.Ref, int, api.Errno) {
	// A text of 0 behind letters is of no form, which the expression knows, since it asks for 1 to 9 first.
	parts := m.ref.FindStringSubmatch(s)
	if parts == nil {
		return api.Ref{}, 0, api.ErrSyntax
	}
	col := slices.Index(m.names, strings.ToUpper(parts[2]))
	row, err := strconv.Atoi(parts[4])
	if col < 0 || err != nil || row > 65536 {
		return api.Ref{}, len(parts[0]), api.ErrSpot
	}
	return api.Ref{Row: row - 1, Col: col, PinRow: parts[3] != "", PinCol: parts[1] != ""}, len(parts[0]), api.OK
}

func (m model) read(s string) (api.Spot, api.Errno) {
	if !m.place.MatchString(s) {
		return api.Spot{}, api.ErrSyntax
	}
	r, _, e := m.readRef(s)
	return api.Spot{Row: r.Row, Col: r.Col}, e
}

func (m model) readArea(s string) (api.Area, api.Errno) {
	if !m.area.MatchString(s) {
		return api.Area{}, api.ErrSyntax
	}
	head, tail, two := strings.Cut(s, ":")
	if !two {
		tail = head
	}
	a, _, e := m.readRef(head)
	b, _, f := m.readRef(tail)
	if e != api.OK || f != api.OK {
		return api.Area{}, api.ErrSpot
	}
	rows, cols := []int{a.Row, b.Row}, []int{a.Col, b.Col}
	slices.Sort(rows)
	slices.Sort(cols)
	if (rows[1]-rows[0]+1)*(cols[1]-cols[0]+1) > 4096 {
		return api.Area{}, api.ErrArea
	}
	return api.Area{Top: rows[0], Left: cols[0], Bottom: rows[1], Right: cols[1]}, api.OK
}

func TestReadingAgainstTheModel(t *testing.T) {
	m := newModel()
	short := texts([]string{"A", "z", "$", "0", "1", "9", ":", " ", "\xc4"}, 5)
	areas := texts([]string{"$", "A", "zy", "Zz", "AAA", "1", "4097", "65536", "0", ":"}, 5)
	for _, s := range slices.Concat(short, areas) {
		want, wantE := m.read(s)
		checkRead(t, s, want, wantE)
		ref, n, wantE := m.readRef(s)
		checkReadRef(t, s, ref, n, wantE)
		area, wantE := m.readArea(s)
		checkReadArea(t, s, area, wantE)
	}
}

func TestTextsWithoutEnd(t *testing.T) {
	const long = 1 << 22
	manyLetters, manySmall, manyDigits, manyZeros, manyPins := strings.Repeat("A", long), strings.Repeat("z", long), strings.Repeat("9", long), strings.Repeat("0", long), strings.Repeat("$", long)
	within(t, "reading of long texts", func() {
		checkRead(t, manyLetters+"1", api.Spot{}, api.ErrSpot)
		checkRead(t, "A"+manyDigits, api.Spot{}, api.ErrSpot)
		checkRead(t, "A1"+manyZeros, api.Spot{}, api.ErrSpot)
		checkRead(t, manyLetters+manyDigits, api.Spot{}, api.ErrSpot)
		checkRead(t, manyLetters, api.Spot{}, api.ErrSyntax)
		checkRead(t, manyDigits, api.Spot{}, api.ErrSyntax)
		checkRead(t, "A"+manyZeros+"1", api.Spot{}, api.ErrSyntax)
		checkRead(t, manySmall+"1", api.Spot{}, api.ErrSyntax)
		checkReadRef(t, "$"+manySmall+"$1", api.Ref{}, long+3, api.ErrSpot)
		checkReadRef(t, "a"+manyDigits+"x", api.Ref{}, long+1, api.ErrSpot)
		checkReadRef(t, manySmall+manyDigits, api.Ref{}, 2*long, api.ErrSpot)
		checkReadRef(t, manySmall, api.Ref{}, 0, api.ErrSyntax)
		checkReadRef(t, "a"+manyZeros+"1", api.Ref{}, 0, api.ErrSyntax)
		checkReadRef(t, manyPins+"a1", api.Ref{}, 0, api.ErrSyntax)
		checkReadRef(t, "a1"+manyDigits+manyPins, api.Ref{}, long+2, api.ErrSpot)
		checkReadArea(t, "A1:"+manySmall+"1", api.Area{}, api.ErrSpot)
		checkReadArea(t, manyLetters+"1:A1", api.Area{}, api.ErrSpot)
		checkReadArea(t, "A1:A"+manyDigits, api.Area{}, api.ErrSpot)
		checkReadArea(t, "A1:"+manySmall, api.Area{}, api.ErrSyntax)
		checkReadArea(t, strings.Repeat("A1:", long/3)+"A1", api.Area{}, api.ErrSyntax)
	})
}

func TestAnswersHangOnArgumentsAlone(t *testing.T) {
	for _, s := range []string{"B7", "$b$7:c9", "AAA1", "A1:A4097", "x", ""} {
		at, e := Read(s)
		r, n, f := ReadRef(s)
		a, g := ReadArea(s)
		for range 3 {
			Read("ZZ65536")
			ReadRef("$Q$9")
			ReadArea("D4:F6")
			Text(api.Spot{Row: 3, Col: 300})
			checkRead(t, s, at, e)
			checkReadRef(t, s, r, n, f)
			checkReadArea(t, s, a, g)
		}
	}
}
