package shift

import (
	"math"
	"math/big"
	"math/rand"
	"slices"
	"testing"

	"quadrille/api"
)

// layout tells where each row (or column) of the grid is behind a change; -1: nowhere.
type layout struct {
	now []int
	out []bool // it is taken out
}

// layoutOf lays all rows (or columns) side by side, puts some in or takes some out, and looks where each one lies then.
func layoutOf(count, at int, n int64) layout {
	lines := make([]int, count)
	for i := range lines {
		lines[i] = i
	}
	l := layout{slices.Repeat([]int{-1}, count), make([]bool, count)}
	if n < 0 {
		end := at
		for left := n; left < 0 && end < count; left++ {
			l.out[end] = true
			end++
		}
		lines = slices.Delete(lines, at, end)
	}
	if n > 0 {
		fresh := slices.Repeat([]int{-1}, int(min(n, int64(count))))
		lines = slices.Insert(lines, at, fresh...)[:count]
	}
	for i, line := range lines {
		if line >= 0 {
			l.now[line] = i
		}
	}
	return l
}

// of gives where a line is then, one that is taken out given way step by step towards its partner.
func (l layout) of(line, partner int) int {
	for l.out[line] && line < partner {
		line++
	}
	for l.out[line] && line > partner {
		line--
	}
	return l.now[line]
}

// modelled gives a tree in which each reference is told by a function, with the other one of its node; false: off the grid.
func modelled(t api.Expr, told func(r, partner api.Ref) (api.Ref, bool)) api.Expr {
	lost := bad(api.ERef)
	switch t.Kind {
	case api.XRef:
		if r, on := told(t.Ref, t.Ref); on {
			return ref(r)
		}
		return lost
	case api.XRange:
		from, fromOn := told(t.Ref, t.To)
		to, toOn := told(t.To, t.Ref)
		if fromOn && toOn {
			return span(from, to)
		}
		return lost
	}
	kids := slices.Clone(t.Kids)
	for i := range kids {
		kids[i] = modelled(kids[i], told)
	}
	t.Kids = kids
	return t
}

func modelRows(t api.Expr, l layout) api.Expr {
	return modelled(t, func(r, partner api.Ref) (api.Ref, bool) {
		r.Row = l.of(r.Row, partner.Row)
		return r, r.Row >= 0
	})
}

func modelCols(t api.Expr, l layout) api.Expr {
	return modelled(t, func(r, partner api.Ref) (api.Ref, bool) {
		r.Col = l.of(r.Col, partner.Col)
		return r, r.Col >= 0
	})
}

// added gives a sum in numbers of any width, and whether it is one of so many lines.
func added(line int, by int64, count int) (int, bool) {
	sum := big.NewInt(int64(line))
	sum.Add(sum, big.NewInt(by))
	if sum.Sign() < 0 || sum.Cmp(big.NewInt(int64(count))) >= 0 {
		return 0, false
	}
	return int(sum.Int64()), true
}

func modelPaste(t api.Expr, dr, dc int64) api.Expr {
	return modelled(t, func(r, _ api.Ref) (api.Ref, bool) {
		rowOn, colOn := true, true
		if !r.PinRow {
			r.Row, rowOn = added(r.Row, dr, 65536)
		}
		if !r.PinCol {
			r.Col, colOn = added(r.Col, dc, 702)
		}
		return r, rowOn && colOn
	})
}

// far gives numbers about a count, about the ends of 64 bits and of 32, and small ones, of both signs.
func far(count int64) []int64 {
	all := []int64{0, 1, 2, 3, 5, count - 2, count - 1, count, count + 1, 2 * count, 1<<16 - 1, 1 << 16, 1<<16 + 1, 1 << 31, 1<<31 - 1, 1 << 32, 1<<32 - 1, 1<<32 + 1, 1 << 62, math.MaxInt64 - 1<<16, math.MaxInt64 - 1, math.MaxInt64, math.MinInt64}
	for _, n := range all {
		all = append(all, -n, n^math.MaxInt64)
	}
	slices.Sort(all)
	return slices.Compact(all)
}

// near gives lines at both ends of so many, and some between.
func near(count int) []int {
	return []int{0, 1, 2, 3, 4, count / 2, count/2 + 1, count - 3, count - 2, count - 1}
}

// pinned gives a reference with each choice of pins.
func pinned(row, col int) []api.Ref {
	all := make([]api.Ref, 4)
	for i := range all {
		all[i] = api.Ref{Row: row, Col: col, PinRow: i&2 != 0, PinCol: i&1 != 0}
	}
	return all
}

func TestEveryStepOfAPaste(t *testing.T) {
	var all []api.Expr
	for _, row := range []int{0, 1, 40000, 65534, 65535} {
		for _, col := range []int{0, 1, 300, 700, 701} {
			for i, r := range pinned(row, col) {
				all = append(all, ref(r))
				for _, other := range []api.Ref{place(0, 0), place(65535, 701), pinned(9, 9)[i], pinned(9, 9)[3-i]} {
					all = append(all, span(r, other), span(other, r))
				}
			}
		}
	}
	for _, dr := range far(65536) {
		for _, dc := range far(702) {
			// All steps of one way with few of the other one are enough.
			if dr%7 != 0 && dc%5 != 0 {
				continue
			}
			for some := range slices.Chunk(all, 511) {
				x := fun(api.FSum, some...)
				check(t, paste(dr, dc), x, modelPaste(x, dr, dc))
			}
		}
	}
}

// pairsOf gives a sum of ranges between all lines of a list, by a way to lay a range between two.
func pairsOf(lines []int, lay func(a, b int) api.Expr) api.Expr {
	var kids []api.Expr
	for _, a := range lines {
		for _, b := range lines {
			kids = append(kids, lay(a, b))
		}
	}
	return fun(api.FSum, kids...)
}

func TestEveryCornerOfARange(t *testing.T) {
	count := 0
	upright := func(a, b int) api.Expr {
		count++
		return span(pinned(a, count%702)[count%4], pinned(b, count%5)[count/4%4])
	}
	flat := func(a, b int) api.Expr {
		count++
		return span(pinned(count%65536, a)[count%4], pinned(count%5, b)[count/4%4])
	}
	single := func(a, b int) api.Expr {
		return bin(api.BAdd, ref(place(a, 0)), ref(pinned(b, 1)[3]))
	}
	tall := []api.Expr{pairsOf(near(65536), upright), pairsOf(near(65536), single)}
	for _, at := range near(65536) {
		for _, n := range slices.Concat(far(65536), far(32768), []int64{int64(65536 - at), int64(at - 65536), int64(65535 - at), int64(at - 65535)}) {
			l := layoutOf(65536, at, n)
			for _, x := range tall {
				check(t, rows(int64(at), n), x, modelRows(x, l))
			}
		}
	}
	wide := []api.Expr{pairsOf(near(702), flat), pairsOf(near(702), func(a, b int) api.Expr {
		return bin(api.BAdd, ref(place(0, a)), ref(pinned(1, b)[3]))
	})}
	for _, at := range near(702) {
		for _, n := range slices.Concat(far(702), far(351), []int64{int64(702 - at), int64(at - 702), int64(701 - at), int64(at - 701)}) {
			l := layoutOf(702, at, n)
			for _, x := range wide {
				check(t, cols(int64(at), n), x, modelCols(x, l))
			}
		}
	}
}

// chance makes trees by chance, of at most so many levels.
type chance struct{ *rand.Rand }

func (c chance) line(count int) int {
	switch c.Intn(4) {
	case 0:
		return c.Intn(8)
	case 1:
		return count - 1 - c.Intn(8)
	case 2:
		return min(c.Intn(40), count-1)
	}
	return c.Intn(count)
}

func (c chance) ref() api.Ref {
	return api.Ref{Row: c.line(65536), Col: c.line(702), PinRow: c.Intn(3) == 0, PinCol: c.Intn(3) == 0}
}

func (c chance) tree(levels int) api.Expr {
	if levels == 1 || c.Intn(6) == 0 {
		return []api.Expr{num(c.Int63()), txt("$A$1"), truth(int64(c.Intn(2))), bad(1 + int64(c.Intn(6))), ref(c.ref()), ref(c.ref()), ref(c.ref()), span(c.ref(), c.ref()), span(c.ref(), c.ref()), fun(api.FRow)}[c.Intn(10)]
	}
	switch c.Intn(4) {
	case 0:
		return un(1+c.Intn(3), c.tree(levels-1))
	case 1:
		return bin(1+c.Intn(12), c.tree(levels-1), c.tree(levels-1))
	case 2:
		return fun(api.FIf, c.tree(levels-1), c.tree(levels-1), c.tree(levels-1))
	}
	var kids []api.Expr
	for range 1 + c.Intn(5) {
		kids = append(kids, c.tree(levels-1))
	}
	return fun(api.FSum, kids...)
}

// step gives a number to move by.
func (c chance) step(count int64) int64 {
	all := far(count)
	switch c.Intn(4) {
	case 0:
		return all[c.Intn(len(all))]
	case 1:
		return c.Int63n(2*count) - count
	}
	return c.Int63n(17) - 8
}

func TestByChance(t *testing.T) {
	c := chance{rand.New(rand.NewSource(12))}
	for range 3000 {
		x := c.tree(1 + c.Intn(5))
		dr, dc := c.step(65536), c.step(702)
		check(t, paste(dr, dc), x, modelPaste(x, dr, dc))
		at, n := c.line(702), c.step(702)
		check(t, cols(int64(at), n), x, modelCols(x, layoutOf(702, at, n)))
	}
	for range 300 {
		at, n := c.line(65536), c.step(65536)
		l := layoutOf(65536, at, n)
		for range 5 {
			x := c.tree(1 + c.Intn(5))
			check(t, rows(int64(at), n), x, modelRows(x, l))
		}
	}
}

// turned gives a tree with rows for columns, and columns for rows.
func turned(t api.Expr) api.Expr {
	turn := func(r api.Ref) api.Ref { return api.Ref{Row: r.Col, Col: r.Row, PinRow: r.PinCol, PinCol: r.PinRow} }
	t.Ref, t.To = turn(t.Ref), turn(t.To)
	kids := slices.Clone(t.Kids)
	for i := range kids {
		kids[i] = turned(kids[i])
	}
	t.Kids = kids
	return t
}

func TestColumnsAreLikeRows(t *testing.T) {
	c := chance{rand.New(rand.NewSource(5))}
	for range 3000 {
		x := modelled(c.tree(1+c.Intn(5)), func(r, _ api.Ref) (api.Ref, bool) { r.Row %= 300; r.Col %= 300; return r, true })
		at, n := c.Int63n(300), c.Int63n(700)-300
		tall, e := Rows(x, at, n)
		wide, e2 := Cols(turned(x), at, n)
		if e != e2 || spell(tall) != spell(turned(wide)) {
			t.Errorf("P12.5: at %d by %d: Rows gives %s, Cols the other way round %s", at, n, brief(written(tall)), brief(written(wide)))
		}
	}
}

// hasLost tells whether a tree has a #REF!.
func hasLost(t api.Expr) bool {
	return t.Kind == api.XErr && t.Int == api.ERef || slices.ContainsFunc(t.Kids, hasLost)
}

// withoutErrors gives a tree with numbers in the places of its errors, so that one that comes is seen.
func withoutErrors(t api.Expr) api.Expr {
	if t.Kind == api.XErr {
		return num(t.Int)
	}
	kids := slices.Clone(t.Kids)
	for i := range kids {
		kids[i] = withoutErrors(kids[i])
	}
	t.Kids = kids
	return t
}

func TestAPasteAndAnotherOne(t *testing.T) {
	c := chance{rand.New(rand.NewSource(7))}
	held, both := 0, 0
	for range 20000 {
		x := withoutErrors(c.tree(1 + c.Intn(4)))
		a, b := c.Int63n(41)-20, c.Int63n(41)-20
		further, aside := c.step(65536), c.step(702)
		first, e := Paste(x, a, b)
		if e != api.OK || hasLost(first) {
			continue
		}
		held++
		if s, d := a+further, b+aside; (s > a) == (further > 0) && (d > b) == (aside > 0) {
			both++
			want, _ := Paste(x, s, d)
			check(t, paste(further, aside), first, want)
		}
	}
	if held < 1000 || both < 1000 {
		t.Errorf("the test's own fault: %d, %d", held, both)
	}
}

func TestPutInAndTakenOutAgain(t *testing.T) {
	c := chance{rand.New(rand.NewSource(8))}
	held := 0
	for range 20000 {
		x := withoutErrors(c.tree(1 + c.Intn(4)))
		for _, there := range []change{rows(int64(c.line(65536)), 1+c.Int63n(9)), cols(int64(c.line(702)), 1+c.Int63n(9)), rows(int64(c.line(65536)), 1+c.Int63n(65536)), rows(0, 1), cols(701, 1)} {
			y, e := there.of(x)
			if e != api.OK || hasLost(y) {
				continue
			}
			held++
			back := there
			back.b = -there.b
			check(t, back, y, x)
		}
	}
	if held < 1000 {
		t.Errorf("the test's own fault: %d", held)
	}
}
