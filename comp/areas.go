package comp

import (
	"quadrille/api"
	"quadrille/area"
)

// areas gives what lays a node in an area's place, by its kind.
func areas() map[int]laying {
	return map[int]laying{
		api.XErr:   literal(api.VErr),
		api.XRef:   single,
		api.XRange: between,
		api.XCall:  pointing,
	}
}

// pointers gives what lays a call in an area's place, by its function.
func pointers() map[int]laying {
	return map[int]laying{
		api.FIndirect: indirect,
		api.FOffset:   pointed(api.IOffset),
		api.FIndex:    pointed(api.IIndex),
	}
}

// area lays a node in an area's place.
func (l *layer) area(t api.Expr) { laidBy(l.areas, t.Kind)(l, t) }

// laidBy gives what lays a node there, also one that can't stand there.
func laidBy(table map[int]laying, key int) laying {
	if lay, some := table[key]; some {
		return lay
	}
	return noValue
}

func single(l *layer, t api.Expr) { l.areaBetween(t.Ref, t.Ref) }

func between(l *layer, t api.Expr) { l.areaBetween(t.Ref, t.To) }

// areaBetween lays the area between two corners.
func (l *layer) areaBetween(a, b api.Ref) {
	both := area.Of(api.Spot{Row: a.Row, Col: a.Col}, api.Spot{Row: b.Row, Col: b.Col})
	if _, e := area.Size(both); e != api.OK {
		l.constant(fault(api.ERef))
		return
	}
	l.lay(api.Ins{Op: api.IArea, A: both.Top, B: both.Left, C: both.Bottom, D: both.Right})
}

func pointing(l *layer, t api.Expr) { laidBy(l.pointers, t.Fun)(l, t) }

// indirect lays an area that a text spells.
func indirect(l *layer, t api.Expr) {
	l.value(t.Kids[0])
	l.lay(api.Ins{Op: api.IIndirect})
}

// pointed gives what lays an area that is told by another one and by numbers.
func pointed(op int) laying {
	return func(l *layer, t api.Expr) {
		l.area(t.Kids[0])
		ends := []shut{l.leaveAtError(0)}
		ends = append(ends, l.arguments(t.Kids[1:], 1)...)
		l.lay(api.Ins{Op: op, A: len(t.Kids) - 1})
		closed(ends)
	}
}
