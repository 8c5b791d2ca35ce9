package comp

import "quadrille/api"

// values gives what lays a node in a value's place, by its kind.
func values() map[int]laying {
	return map[int]laying{
		api.XInt:   literal(api.VInt),
		api.XText:  literal(api.VText),
		api.XBool:  literal(api.VBool),
		api.XErr:   literal(api.VErr),
		api.XRef:   fetch,
		api.XRange: noValue,
		api.XUn:    unary,
		api.XBin:   binary,
		api.XCall:  call,
	}
}

// calls gives what lays a call in a value's place, by its function's class.
func calls() map[int]laying {
	return map[int]laying{
		api.ClassScalar:  scalar,
		api.ClassAsking:  scalar,
		api.ClassLazy:    lazy,
		api.ClassPlace:   place,
		api.ClassArea:    only,
		api.ClassWalking: walking,
	}
}

// value lays a node in a value's place.
func (l *layer) value(t api.Expr) { l.values[t.Kind](l, t) }

// arguments lays nodes in values' places, where so many arguments stand ahead of them; an error of each but the last one leaves. It gives what closes these jumps.
func (l *layer) arguments(all []api.Expr, ahead int) []shut {
	var ends []shut
	for i, t := range all {
		if i > 0 {
			ends = append(ends, l.leaveAtError(ahead+i-1))
		}
		l.value(t)
	}
	return ends
}

// literal gives what lays a node that is itself a value of a kind.
func literal(kind int) laying {
	return func(l *layer, t api.Expr) {
		l.constant(api.Value{Kind: kind, Int: t.Int, Text: t.Text})
	}
}

func fetch(l *layer, t api.Expr) {
	l.lay(api.Ins{Op: api.IFetch, A: t.Ref.Row, B: t.Ref.Col})
}

// noValue lays what stands where it can't stand.
func noValue(l *layer, _ api.Expr) { l.constant(fault(api.EValue)) }

func unary(l *layer, t api.Expr) {
	l.value(t.Kids[0])
	l.lay(api.Ins{Op: api.IUn, A: t.Op})
}

func binary(l *layer, t api.Expr) {
	ends := l.arguments(t.Kids, 0)
	l.lay(api.Ins{Op: api.IBin, A: t.Op})
	closed(ends)
}

func call(l *layer, t api.Expr) { l.calls[classOf(t)](l, t) }

// scalar lays a call that is handed single values; of one that asks there is one argument alone, which no error leaves.
func scalar(l *layer, t api.Expr) {
	ends := l.arguments(t.Kids, 0)
	l.lay(api.Ins{Op: api.ICall, A: t.Fun, B: len(t.Kids)})
	closed(ends)
}

// place lays a call that tells of an area, or of the formula's own place.
func place(l *layer, t api.Expr) {
	if len(t.Kids) == 0 {
		l.lay(api.Ins{Op: api.IHere, A: t.Fun})
		return
	}
	l.area(t.Kids[0])
	l.lay(api.Ins{Op: api.IPlace, A: t.Fun})
}

// only lays a call of an area, of whose one place the value is asked.
func only(l *layer, t api.Expr) {
	l.area(t)
	l.lay(api.Ins{Op: api.IOne})
}

// walking lays a call that looks at its arguments by itself; errors of those alone leave that ought to be areas.
func walking(l *layer, t api.Expr) {
	var ends []shut
	for i, kid := range t.Kids {
		if !isOfArea(kid) {
			l.value(kid)
			continue
		}
		l.area(kid)
		ends = append(ends, l.leaveAtError(i))
	}
	l.lay(api.Ins{Op: api.IWalk, A: t.Fun, B: len(t.Kids)})
	closed(ends)
}

// isOfArea tells whether a node is one that a walking call takes for an area.
func isOfArea(t api.Expr) bool {
	return t.Kind == api.XRef || t.Kind == api.XRange || classOf(t) == api.ClassArea
}
