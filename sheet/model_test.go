package sheet

import (
	"cmp"
	"maps"
	"math/big"
	"math/rand"
	"regexp"
	"slices"
	"strconv"
	"strings"
	"testing"

	"quadrille/api"
	"quadrille/parse"
	"quadrille/print"
	"quadrille/shift"
	"quadrille/tree"
)

// spell writes edits for a message.
func spell(es []api.Edit) string {
	var b strings.Builder
	for _, x := range es {
		b.WriteString("{" + strconv.Itoa(x.Kind))
		for _, n := range []int{x.At.Row, x.At.Col, x.Area.Top, x.Area.Left, x.Area.Bottom, x.Area.Right, x.To.Row, x.To.Col, x.N} {
			b.WriteString(" " + strconv.Itoa(n))
		}
		b.WriteString(" " + strconv.Quote(x.Text[:min(len(x.Text), 40)]) + "} ")
	}
	return b.String()
}

// model keeps texts alone, and makes a new sheet of them for each edit.
type model map[api.Spot]string

// treeOf reads a formula.
func treeOf(text string) (api.Expr, bool) {
	if len(text) > 65536 {
		return api.Expr{}, false
	}
	x, _, e := parse.Formula(text)
	return x, e == api.OK
}

func printed(x api.Expr) string {
	s, e := print.Formula(x)
	if e != api.OK {
		panic("the test's own fault: no tree")
	}
	return s
}

// apply gives the sheet behind edits, or itself and why.
func (m model) apply(es []api.Edit) (model, int, api.Errno) {
	bytes := 0
	for _, x := range es {
		if x.Kind == api.EditSet {
			bytes += len(x.Text)
		}
	}
	if len(es) > 4096 || bytes > 1<<24 {
		return m, 0, api.ErrLong
	}
	now := m
	for k, x := range es {
		next, e := now.edit(x)
		if e == api.OK && (len(next) > 65536 || next.bytes() > 1<<26) {
			e = api.ErrFull
		}
		if e != api.OK {
			return m, k, e
		}
		now = next
	}
	return now, 0, api.OK
}

func (m model) bytes() int {
	n := 0
	for _, text := range m {
		n += len(text)
	}
	return n
}

// edit gives the sheet behind an edit, blank cells left away.
func (m model) edit(x api.Edit) (model, api.Errno) {
	next, e := m.done(x)
	maps.DeleteFunc(next, func(_ api.Spot, text string) bool { return text == "" })
	return next, e
}

func (m model) done(x api.Edit) (model, api.Errno) {
	next := maps.Clone(m)
	switch x.Kind {
	case 1:
		if !onGrid(x.At) {
			return nil, api.ErrSpot
		}
		next[x.At] = x.Text
	case 2:
		if !mayBe(x.Area) {
			return nil, api.ErrArea
		}
		maps.DeleteFunc(next, func(s api.Spot, _ string) bool { return liesIn(s, x.Area) })
	case 3:
		return m.paste(x)
	case 4:
		return m.lines(65536, x.At.Row, x.N, false, rowOf, shift.Rows)
	case 5:
		return m.lines(65536, x.At.Row, x.N, true, rowOf, shift.Rows)
	case 6:
		return m.lines(702, x.At.Col, x.N, false, colOf, shift.Cols)
	case 7:
		return m.lines(702, x.At.Col, x.N, true, colOf, shift.Cols)
	default:
		return nil, api.ErrKind
	}
	return next, api.OK
}

func rowOf(s *api.Spot) *int { return &s.Row }

func colOf(s *api.Spot) *int { return &s.Col }

func onGrid(s api.Spot) bool {
	return s.Row >= 0 && s.Row <= 65535 && s.Col >= 0 && s.Col <= 701
}

func mayBe(a api.Area) bool {
	return onGrid(at(a.Top, a.Left)) && onGrid(at(a.Bottom, a.Right)) && a.Top <= a.Bottom && a.Left <= a.Right
}

func liesIn(s api.Spot, a api.Area) bool {
	return s.Row >= a.Top && s.Row <= a.Bottom && s.Col >= a.Left && s.Col <= a.Right
}

func (m model) paste(x api.Edit) (model, api.Errno) {
	a := x.Area
	if !mayBe(a) || (a.Bottom-a.Top+1)*(a.Right-a.Left+1) > 4096 {
		return nil, api.ErrArea
	}
	if !onGrid(x.To) || !onGrid(at(x.To.Row+a.Bottom-a.Top, x.To.Col+a.Right-a.Left)) {
		return nil, api.ErrSpot
	}
	next := maps.Clone(m)
	for row := a.Top; row <= a.Bottom; row++ {
		for col := a.Left; col <= a.Right; col++ {
			dr, dc := x.To.Row-a.Top, x.To.Col-a.Left
			text := m[at(row, col)]
			if f, is := treeOf(text); is {
				moved, _ := shift.Paste(f, int64(dr), int64(dc))
				text = printed(moved)
			}
			next[at(row+dr, col+dc)] = text
		}
	}
	return next, api.OK
}

// lines lays all rows (or columns) side by side, puts some in or takes some out, and looks where each one lies then.
func (m model) lines(count, first, n int, out bool, of func(*api.Spot) *int, move func(t api.Expr, at, n int64) (api.Expr, api.Errno)) (model, api.Errno) {
	if first < 0 || first >= count {
		return nil, api.ErrSpot
	}
	if n < 1 || n > count || out && first+n > count {
		return nil, api.ErrArg
	}
	side := make([]int, count)
	for i := range side {
		side[i] = i
	}
	by := int64(n)
	if out {
		side, by = slices.Delete(side, first, first+n), -by
	} else {
		side = slices.Insert(side, first, slices.Repeat([]int{-1}, n)...)
	}
	next := model{}
	for s, text := range m {
		now := slices.Index(side, *of(&s))
		if now >= count {
			return nil, api.ErrSpot
		}
		if now < 0 {
			continue
		}
		*of(&s) = now
		next[s] = movedText(text, func(f api.Expr) (api.Expr, api.Errno) { return move(f, int64(first), by) })
	}
	return next, api.OK
}

// movedText gives the text of a cell whose formula is moved.
func movedText(text string, move func(api.Expr) (api.Expr, api.Errno)) string {
	f, is := treeOf(text)
	if !is {
		return text
	}
	moved, e := move(f)
	if e != api.OK {
		panic("the test's own fault: no line")
	}
	if tree.Same(f, moved) {
		return text
	}
	return printed(moved)
}

// all gives the cells in row order.
func (m model) all() []item {
	var l []item
	for s, text := range m {
		l = append(l, item{s, text})
	}
	slices.SortFunc(l, func(a, b item) int {
		return cmp.Compare(a.at.Row*702+a.at.Col, b.at.Row*702+b.at.Col)
	})
	return l
}

// differ gives the places whose texts are unlike in two.
func (m model) differ(o model) []api.Spot {
	both := maps.Clone(m)
	maps.Copy(both, o)
	var l []api.Spot
	for _, i := range both.all() {
		if m[i.at] != o[i.at] {
			l = append(l, i.at)
		}
	}
	return l
}

var wholeForm = regexp.MustCompile(`^(0|-?[1-9][0-9]*)$`)

// kindOf tells by doc/00's table what a cell with a text is.
func kindOf(text string) kind {
	long := func(s string) api.Value {
		if len(s) > 32767 {
			return bad(4)
		}
		return txt(s)
	}
	is := func(v api.Value) kind { return kind{text, 1, v} }
	if text == "" {
		return kind{}
	}
	if text[0] == '=' {
		if _, is := treeOf(text); is {
			return kind{text: text, what: 2}
		}
		return kind{text, 3, bad(1)}
	}
	if text[0] == '\'' {
		return is(long(text[1:]))
	}
	if wholeForm.MatchString(text) {
		if n, _ := new(big.Int).SetString(text, 10); n.IsInt64() {
			return is(num(n.Int64()))
		}
	}
	if n := slices.Index([]string{"FALSE", "TRUE"}, text); n >= 0 {
		return is(truth(int64(n)))
	}
	if n := slices.Index([]string{"#NAME?", "#NUM!", "#REF!", "#VALUE!", "#DIV/0!", "#N/A"}, text); n >= 0 {
		return is(bad(int64(n + 1)))
	}
	return is(long(text))
}

// checkSheet holds all that a sheet tells against the model.
func checkSheet(t *testing.T, what string, s *Sheet, m model) {
	t.Helper()
	checkCells(t, what, s, m.all())
	for p, text := range m {
		checkCell(t, s, p, text)
		for _, near := range []api.Spot{at(p.Row+1, p.Col), at(p.Row, p.Col+1)} {
			if onGrid(near) {
				checkCell(t, s, near, m[near])
			}
		}
	}
}

func checkCell(t *testing.T, s *Sheet, p api.Spot, text string) {
	t.Helper()
	k := kindOf(text)
	if s.Text(p) != text || s.What(p) != k.what {
		t.Errorf("P19.3: %v: %q, %d; want %q, %d", p, s.Text(p), s.What(p), text, k.what)
	}
	checkValue(t, s, p, k)
	checkTree(t, s, p, k)
}

// chance makes edits.
type chance struct{ *rand.Rand }

func newChance(seed int64) chance { return chance{rand.New(rand.NewSource(seed))} }

// row gives mostly one of few rows, at one end of the grid or at the other, now and then any, or none.
func (c chance) line(count int) int {
	switch c.Intn(40) {
	case 0:
		return c.Intn(count)
	case 1:
		return []int{-1, count, count + 1, -1 << 63, 1<<63 - 1}[c.Intn(5)]
	case 2, 3, 4, 5, 6:
		return count - 1 - c.Intn(4)
	}
	return c.Intn(6)
}

func (c chance) spot() api.Spot { return at(c.line(65536), c.line(702)) }

func (c chance) area() api.Area {
	s := c.spot()
	a := rect(s.Row, s.Col, s.Row, s.Col)
	if c.Intn(12) == 0 {
		to := c.spot()
		return rect(s.Row, s.Col, to.Row, to.Col)
	}
	if onGrid(s) {
		a.Bottom += c.Intn(4)
		a.Right += c.Intn(4)
	}
	return a
}

// many gives how many lines are put in or taken out, mostly few.
func (c chance) many(count int) int {
	switch c.Intn(20) {
	case 0:
		return []int{0, -1, count, count + 1, count - 1, -count, -1 << 63, 1<<63 - 1}[c.Intn(8)]
	case 1:
		return 1 + c.Intn(count)
	}
	return 1 + c.Intn(3)
}

func (c chance) edit() api.Edit {
	// All fields are filled in: those that a kind does not name are not looked at.
	x := api.Edit{At: c.spot(), Area: c.area(), To: c.spot(), Text: c.text()}
	switch n := c.Intn(100); {
	case n < 50:
		x.Kind = api.EditSet
	case n < 55:
		x.Kind = api.EditClear
	case n < 75:
		x.Kind = api.EditPaste
	case n < 86:
		x.Kind, x.N = api.EditRowsIn+c.Intn(2), c.many(65536)
	case n < 97:
		x.Kind, x.N = api.EditColsIn+c.Intn(2), c.many(702)
	default:
		x.Kind = []int{0, 8, -1, 1 << 32, 1<<32 + 1, -1 << 63}[c.Intn(6)]
	}
	if x.Kind != api.EditRowsIn && x.Kind != api.EditRowsOut && x.Kind != api.EditColsIn && x.Kind != api.EditColsOut {
		x.N = c.many(702)
	}
	return x
}

// ref writes a reference, mostly to where the cells are.
func (c chance) ref() string {
	col := []string{"A", "B", "C", "D", "E", "F", "a", "b", "ZX", "ZY", "ZZ", "AAA"}[c.Intn(12)]
	row := []string{"1", "2", "3", "4", "5", "6", "7", "65534", "65535", "65536", "65537"}[c.Intn(11)]
	pins := []string{"", "$"}
	return pins[c.Intn(2)] + col + pins[c.Intn(2)] + row
}

func (c chance) text() string {
	switch c.Intn(8) {
	case 0:
		return ""
	case 1, 2:
		plain := []string{"5", "-7", "x", "TRUE", "#REF!", "'=A1", "'", "A1", "=1+", "=A1 B1", "=", "=NOPE(A1)", "#CYCLE!", " =A1"}
		return plain[c.Intn(len(plain))]
	}
	blank := []string{"", " "}
	kid := func() string {
		switch c.Intn(6) {
		case 0:
			return c.ref() + ":" + c.ref()
		case 1:
			return []string{"1", "\"A1\"", "TRUE", "#N/A", "(A1)", "-(1+$B2)", "(2*A1)*3"}[c.Intn(7)]
		}
		return c.ref()
	}
	switch c.Intn(4) {
	case 0:
		return "=" + kid()
	case 1:
		return "=" + blank[c.Intn(2)] + kid() + blank[c.Intn(2)] + "+" + kid()
	case 2:
		return "=sum(" + kid() + "," + kid() + blank[c.Intn(2)] + ")"
	}
	return "=IF(" + kid() + "," + kid() + "*" + kid() + ",-" + kid() + ")"
}

func (c chance) batch() []api.Edit {
	es := make([]api.Edit, c.Intn(7))
	for i := range es {
		es[i] = c.edit()
	}
	return es
}

// TestByChance holds batches against the model, those that are done and those that are refused.
func TestByChance(t *testing.T) {
	done, refused := 0, 0
	for seed := range int64(60) {
		c, s, m := newChance(seed), New(), model{}
		for range 60 {
			es := c.batch()
			next, k, e := m.apply(es)
			was := s.Copy()
			if gotK, gotE := s.Apply(es...); gotK != k || gotE != e {
				t.Fatalf("P19.2: seed %d: %s: %d, %d; want %d, %d", seed, spell(es), gotK, gotE, k, e)
			}
			checkSheet(t, "P19.2: behind "+spell(es), s, next)
			if got := was.Differ(s); !slices.Equal(got, m.differ(next)) {
				t.Errorf("P19.6: Differ behind %s: %v; want %v", spell(es), got, m.differ(next))
			}
			if t.Failed() {
				t.Fatalf("seed %d", seed)
			}
			m = next
			if e == api.OK {
				done++
			} else {
				refused++
			}
		}
	}
	if done < 1000 || refused < 500 {
		t.Errorf("the test's own fault: %d batches done, %d refused", done, refused)
	}
}

// TestBatchesCutInPieces does edits one by one, which comes to the same.
func TestBatchesCutInPieces(t *testing.T) {
	for seed := range int64(40) {
		c, whole, pieces := newChance(1000+seed), New(), New()
		for range 30 {
			var es []api.Edit
			for range 5 {
				x := c.edit()
				if _, e := pieces.Apply(x); e == api.OK {
					es = append(es, x)
				}
			}
			do(t, whole, es...)
			if !slices.Equal(collect(whole.All()), collect(pieces.All())) || whole.Bytes() != pieces.Bytes() {
				t.Fatalf("P19.2: seed %d: %s: %s; one by one %s", seed, spell(es), show(collect(whole.All())), show(collect(pieces.All())))
			}
		}
	}
}
