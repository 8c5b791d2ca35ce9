package sheet

import (
	"quadrille/api"
	"quadrille/area"
	"quadrille/print"
	"quadrille/shift"
	"quadrille/spot"
)

// planned gives what an edit lays. Nothing is changed yet; whether there is room for it is not asked here.
func (s *Sheet) planned(x api.Edit) ([]put, api.Errno) {
	switch x.Kind {
	case api.EditSet:
		return s.setAt(x.At, x.Text)
	case api.EditClear:
		return s.cleared(x.Area)
	case api.EditPaste:
		return s.pasted(x.Area, x.To)
	case api.EditRowsIn:
		return s.putIn(rows(), x.At.Row, x.N)
	case api.EditRowsOut:
		return s.takenOut(rows(), x.At.Row, x.N)
	case api.EditColsIn:
		return s.putIn(cols(), x.At.Col, x.N)
	case api.EditColsOut:
		return s.takenOut(cols(), x.At.Col, x.N)
	}
	return nil, api.ErrKind
}

// setAt gives a place another text.
func (s *Sheet) setAt(at api.Spot, text string) ([]put, api.Errno) {
	if !spot.May(at) {
		return nil, api.ErrSpot
	}
	return []put{{at, cellOf(text)}}, api.OK
}

// cleared leaves all places of an area blank.
func (s *Sheet) cleared(a api.Area) ([]put, api.Errno) {
	if e := area.May(a); e != api.OK {
		return nil, e
	}
	var puts []put
	for at := range s.cells.Over(a) {
		puts = append(puts, put{at: at})
	}
	return puts, api.OK
}

// pasted copies what stands in an area to another one of its size.
func (s *Sheet) pasted(a api.Area, to api.Spot) ([]put, api.Errno) {
	size, e := area.Size(a)
	if e != api.OK {
		return nil, api.ErrArea
	}
	if !spot.May(to) {
		return nil, api.ErrSpot
	}
	dr, dc := to.Row-a.Top, to.Col-a.Left
	if _, e := area.Move(a, int64(dr), int64(dc)); e != api.OK {
		return nil, e
	}
	puts := make([]put, 0, size)
	for at := range area.All(a) {
		c, _ := s.cells.Get(at)
		puts = append(puts, put{api.Spot{Row: at.Row + dr, Col: at.Col + dc}, c.pastedBy(dr, dc)})
	}
	return puts, api.OK
}

// pastedBy gives what a cell becomes some rows and columns away.
func (c cell) pastedBy(dr, dc int) cell {
	if c.tree == nil {
		return c
	}
	tree, _ := shift.Paste(*c.tree, int64(dr), int64(dc))
	return laid(tree)
}

// laid gives the cell that gets the text of a tree.
func laid(tree api.Expr) cell {
	text, _ := print.Formula(tree)
	return cell{text, &tree}
}
