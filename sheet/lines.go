package sheet

import (
	"quadrille/api"
	"quadrille/shift"
	"quadrille/tree"
)

// gone stands for a line that is taken out; it is none of the grid's.
const gone = -1

// lines are the rows of the grid, or its columns: whichever an edit puts in or takes out.
type lines struct {
	count int                                                         // how many there are
	of    func(at api.Spot) int                                       // the one on which a place lies
	with  func(at api.Spot, line int) api.Spot                        // the place on another one
	shift func(t api.Expr, at, n int64) (moved api.Expr, e api.Errno) // what becomes of a formula
}

func rows() lines {
	return lines{
		count: api.MaxRows,
		of:    func(at api.Spot) int { return at.Row },
		with:  func(at api.Spot, line int) api.Spot { return api.Spot{Row: line, Col: at.Col} },
		shift: shift.Rows,
	}
}

func cols() lines {
	return lines{
		count: api.MaxCols,
		of:    func(at api.Spot) int { return at.Col },
		with:  func(at api.Spot, line int) api.Spot { return api.Spot{Row: at.Row, Col: line} },
		shift: shift.Cols,
	}
}

// putIn puts n lines in ahead of one.
func (s *Sheet) putIn(l lines, at, n int) ([]put, api.Errno) {
	if at < 0 || at >= l.count {
		return nil, api.ErrSpot
	}
	if n < 1 || n > l.count {
		return nil, api.ErrArg
	}
	return s.shifted(l, at, n)
}

// takenOut takes n lines out from one on.
func (s *Sheet) takenOut(l lines, at, n int) ([]put, api.Errno) {
	if at < 0 || at >= l.count {
		return nil, api.ErrSpot
	}
	if n < 1 || n > l.count-at {
		return nil, api.ErrArg
	}
	return s.shifted(l, at, -n)
}

// moved gives where a line is, if n are put in ahead of the one at a place or, with n below 0, taken out from there on.
func (l lines) moved(line, at, n int) int {
	switch {
	case line < at:
		return line
	case line < at-n:
		return gone
	}
	return line + n
}

// shifted moves cells with their lines, and then all formulas. A cell that is as it was, where it was, is not laid.
func (s *Sheet) shifted(l lines, at, n int) ([]put, api.Errno) {
	var puts []put
	for from, c := range s.cells.All() {
		line := l.of(from)
		now := l.moved(line, at, n)
		if now >= l.count {
			return nil, api.ErrSpot
		}
		if now != line {
			puts = append(puts, put{at: from})
		}
		if now == gone {
			continue
		}
		other, isOther := l.shiftedCell(c, at, n)
		if now != line || isOther {
			puts = append(puts, put{l.with(from, now), other})
		}
	}
	return puts, api.OK
}

// shiftedCell gives what becomes of a cell whose formula is moved, and whether that is another one. A text stays as it was typed as long as its tree is the same.
func (l lines) shiftedCell(c cell, at, n int) (cell, bool) {
	if c.tree == nil {
		return c, false
	}
	moved, _ := l.shift(*c.tree, int64(at), int64(n))
	if tree.Same(moved, *c.tree) {
		return c, false
	}
	return laid(moved), true
}
