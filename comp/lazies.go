package comp

import "quadrille/api"

// lazies gives what lays a call that leaves some of its arguments alone, by its function.
func lazies() map[int]laying {
	return map[int]laying{
		api.FIf:      either,
		api.FIferror: instead(0),
		api.FIfna:    instead(api.ENA),
		api.FChoose:  choose,
		api.FSwitch:  match,
	}
}

func lazy(l *layer, t api.Expr) { l.lazies[t.Fun](l, t) }

// valueOr lays the last argument, or, where it is left away, a value.
func (l *layer) valueOr(rest []api.Expr, v api.Value) {
	if len(rest) == 0 {
		l.constant(v)
		return
	}
	l.value(rest[0])
}

// either lays one of two by a truth.
func either(l *layer, t api.Expr) {
	l.value(t.Kids[0])
	l.lay(api.Ins{Op: api.IIf})
	other, end := l.open(jumpA), l.open(jumpB)
	l.value(t.Kids[1])
	over := l.leave()
	other()
	l.valueOr(t.Kids[2:], api.Value{Kind: api.VBool})
	end()
	over()
}

// instead gives what lays one that stands in for an error, or, where it is told, for that error alone.
func instead(e int) laying {
	return func(l *layer, t api.Expr) {
		l.value(t.Kids[0])
		l.lay(api.Ins{Op: api.IOk, B: e})
		end := l.open(jumpA)
		l.value(t.Kids[1])
		end()
	}
}

// choose lays one of many by a number.
func choose(l *layer, t api.Expr) {
	l.value(t.Kids[0])
	all := t.Kids[1:]
	l.lay(api.Ins{Op: api.IChoose, T: make([]int, len(all))})
	ends := []shut{l.open(jumpA)}
	var begins []shut
	for i := range all {
		begins = append(begins, l.open(func(in *api.Ins) *int { return &in.T[i] }))
	}
	for i, kid := range all {
		if i > 0 {
			ends = append(ends, l.leave())
		}
		begins[i]()
		l.value(kid)
	}
	closed(ends)
}

// match lays pairs of which the first one counts whose value is equal; what that is held against waits below it.
func match(l *layer, t api.Expr) {
	l.value(t.Kids[0])
	ends := []shut{l.leaveAtError(0)}
	rest := t.Kids[1:]
	for ; len(rest) >= 2; rest = rest[2:] {
		l.value(rest[0])
		ends = append(ends, l.leaveAtError(1))
		l.lay(api.Ins{Op: api.IMatch})
		next := l.open(jumpA)
		l.value(rest[1])
		ends = append(ends, l.leave())
		next()
	}
	l.lay(api.Ins{Op: api.IDrop})
	l.valueOr(rest, fault(api.ENA))
	closed(ends)
}
