package fold

import (
	"cmp"

	"quadrille/api"
	"quadrille/value"
	"quadrille/whole"
)

// asNumber gives an argument that must be a value as a number, or the error of that.
func asNumber(a api.Arg) (int64, int) {
	if a.IsArea {
		return 0, api.EValue
	}
	return value.Number(a.Value)
}

// asText gives an argument that must be a value as a text, or the error of that.
func asText(a api.Arg) (string, int) {
	if a.IsArea {
		return "", api.EValue
	}
	return value.AsText(a.Value)
}

// amissAsArea tells the error of an argument that must be an area; 0: none.
func amissAsArea(a api.Arg) int {
	if !a.IsArea {
		return api.EValue
	}
	return 0
}

// amissAsSought tells the error of an argument that cells are held against; 0: none.
func amissAsSought(x api.Arg) int {
	switch {
	case x.IsArea:
		return api.EValue
	case x.Value.Kind == api.VErr:
		return int(x.Value.Int)
	}
	return 0
}

// amissAsPair tells the error of two arguments that must be areas with as many rows and columns; 0: none.
func amissAsPair(a, b api.Arg) int {
	if !a.IsArea || !b.IsArea || lines(a.Area) != lines(b.Area) || columns(a.Area) != columns(b.Area) {
		return api.EValue
	}
	return 0
}

// lines gives how many rows an area has.
func lines(a api.Area) int { return a.Bottom - a.Top + 1 }

// columns gives how many columns an area has.
func columns(a api.Area) int { return a.Right - a.Left + 1 }

// isSought tells whether a cell's value is equal to what is sought. That is no error, and so none is equal to it.
func isSought(v api.Value, x api.Arg) bool { return value.Compare(v, x.Value) == 0 }

func match(args []api.Arg) rule {
	x := args[0]
	if bad := cmp.Or(amissAsSought(x), amissAsArea(args[1])); bad != 0 {
		return ended(fault(bad))
	}
	place := int64(0)
	cell := func(v api.Value) step {
		place++
		if isSought(v, x) {
			return endWith(number(place))
		}
		return step{}
	}
	return rule{through: args[1:], cell: cell, last: func() api.Value { return fault(api.ENA) }}
}

// way is how a table is looked through: which line of it is walked, how many lines lie beside one another, and which place of the k-th of them belongs to one of the first.
type way struct {
	line   func(a api.Area) api.Area
	many   func(a api.Area) int
	beside func(a api.Area, at api.Spot, k int) api.Spot
}

func lookDown(args []api.Arg) rule {
	return looking(args, way{
		line:   func(a api.Area) api.Area { return api.Area{Top: a.Top, Left: a.Left, Bottom: a.Bottom, Right: a.Left} },
		many:   columns,
		beside: func(a api.Area, at api.Spot, k int) api.Spot { return api.Spot{Row: at.Row, Col: a.Left + k - 1} },
	})
}

func lookAlong(args []api.Arg) rule {
	return looking(args, way{
		line:   func(a api.Area) api.Area { return api.Area{Top: a.Top, Left: a.Left, Bottom: a.Top, Right: a.Right} },
		many:   lines,
		beside: func(a api.Area, at api.Spot, k int) api.Spot { return api.Spot{Row: a.Top + k - 1, Col: at.Col} },
	})
}

func looking(args []api.Arg, w way) rule {
	x, table := args[0], args[1].Area
	k, bad := asNumber(args[2])
	if bad = cmp.Or(amissAsSought(x), amissAsArea(args[1]), bad); bad != 0 {
		return ended(fault(bad))
	}
	if k < 1 || k > int64(w.many(table)) {
		return ended(fault(api.ERef))
	}
	return rule{
		through: []api.Arg{{IsArea: true, Area: w.line(table)}},
		cell:    func(v api.Value) step { return step{beside: isSought(v, x)} },
		beside:  func(at api.Spot) api.Spot { return w.beside(table, at, int(k)) },
		second:  endWith,
		last:    func() api.Value { return fault(api.ENA) },
	}
}

func countIf(args []api.Arg) rule {
	x := args[1]
	if bad := cmp.Or(amissAsArea(args[0]), amissAsSought(x)); bad != 0 {
		return ended(fault(bad))
	}
	counts := func(v api.Value) bool { return isSought(v, x) }
	return counting(args[:1], counts, counts)
}

func sumIf(args []api.Arg) rule {
	// Without another area the values themselves are summed.
	a, x, b := args[0], args[1], args[0]
	if len(args) == 3 {
		b = args[2]
	}
	if bad := cmp.Or(amissAsArea(a), amissAsSought(x), amissAsPair(a, b)); bad != 0 {
		return ended(fault(bad))
	}
	total := int64(0)
	add := ofNumbers(into(&total, whole.Add[int64]))
	cell := func(v api.Value) step {
		switch {
		case !isSought(v, x):
			return step{}
		case len(args) == 3:
			return step{beside: true}
		}
		return add(v)
	}
	return rule{through: args[:1], cell: cell, beside: likewise(a.Area, b.Area), second: add, last: func() api.Value { return number(total) }}
}

func sumProduct(args []api.Arg) rule {
	if bad := amissAsPair(args[0], args[1]); bad != 0 {
		return ended(fault(bad))
	}
	var left api.Value
	total := int64(0)
	add := into(&total, whole.Add[int64])
	cell := func(v api.Value) step {
		if v.Kind == api.VErr {
			return endWith(v)
		}
		left = v
		return step{beside: true}
	}
	second := ofNumbers(func(n int64) step {
		if left.Kind != api.VInt {
			return step{}
		}
		both, fits := whole.Mul(left.Int, n)
		if !fits {
			return endWith(fault(api.ENum))
		}
		return add(both)
	})
	return rule{through: args[:1], cell: cell, beside: likewise(args[0].Area, args[1].Area), second: second, last: func() api.Value { return number(total) }}
}

// likewise gives of a place of one area the place that lies likewise in another one.
func likewise(a, b api.Area) func(at api.Spot) api.Spot {
	return func(at api.Spot) api.Spot {
		return api.Spot{Row: at.Row - a.Top + b.Top, Col: at.Col - a.Left + b.Left}
	}
}
