package sheet

import (
	"iter"
	"slices"
	"strings"

	"quadrille/api"
	"quadrille/spot"
	"quadrille/tree"
	"quadrille/value"
)

// Text tells a cell's text.
func (s *Sheet) Text(at api.Spot) string {
	c, _ := s.cells.Get(at)
	return c.text
}

// What tells what a cell is.
func (s *Sheet) What(at api.Spot) int {
	c, _ := s.cells.Get(at)
	switch {
	case c.text == "":
		return api.CellBlank
	case c.tree != nil:
		return api.CellFormula
	case strings.HasPrefix(c.text, "="):
		return api.CellBroken
	}
	return api.CellLiteral
}

// Tree tells a formula's tree.
func (s *Sheet) Tree(at api.Spot) (api.Expr, api.Errno) {
	if !spot.May(at) {
		return api.Expr{}, api.ErrSpot
	}
	c, _ := s.cells.Get(at)
	if c.tree == nil {
		return api.Expr{}, api.ErrKind
	}
	return tree.Copy(*c.tree)
}

// Value tells the value of a cell that is no formula.
func (s *Sheet) Value(at api.Spot) (api.Value, api.Errno) {
	if !spot.May(at) {
		return api.Value{}, api.ErrSpot
	}
	c, _ := s.cells.Get(at)
	if c.tree != nil {
		return api.Value{}, api.ErrKind
	}
	v, isLiteral := value.Literal(c.text)
	if !isLiteral {
		return api.Value{Kind: api.VErr, Int: api.EName}, api.OK
	}
	return v, api.OK
}

// Len tells how many cells are not blank.
func (s *Sheet) Len() int { return s.cells.Len() }

// Bytes tells the bytes of all texts.
func (s *Sheet) Bytes() int { return s.bytes }

// All goes over the cells that are not blank, in row order.
func (s *Sheet) All() iter.Seq2[api.Spot, string] {
	// The cells are asked for now, since the sheet may be another one when they are gone over.
	cells := s.cells.All()
	return func(yield func(api.Spot, string) bool) {
		for at, c := range cells {
			if !yield(at, c.text) {
				return
			}
		}
	}
}

// Copy gives another sheet with the same texts.
func (s *Sheet) Copy() *Sheet {
	own := New()
	for at, c := range s.cells.All() {
		own.set(put{at, c})
	}
	return own
}

// Differ tells the places whose texts are unlike in two sheets.
func (s *Sheet) Differ(o *Sheet) []api.Spot {
	if o == nil {
		o = New()
	}
	var places []api.Spot
	for at, c := range s.cells.All() {
		if o.Text(at) != c.text {
			places = append(places, at)
		}
	}
	for at := range o.cells.All() {
		if s.Text(at) == "" {
			places = append(places, at)
		}
	}
	slices.SortFunc(places, spot.Compare)
	return places
}
