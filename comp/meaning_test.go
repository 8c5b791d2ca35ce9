package comp

import (
	"quadrille/api"
	"quadrille/calc"
	"quadrille/fold"
	"quadrille/list"
	"quadrille/spot"
	"quadrille/value"
)

// sheet gives the value of each place.
type sheet func(at api.Spot) api.Value

// tooMany ends an evaluation at the fetch that is not made.
type tooMany struct{}

// run is one evaluation at a place: of a tree in the document's words, or of code by a machine.
type run struct {
	at      api.Spot
	cells   sheet
	fetched []api.Spot
}

func (r *run) fetch(s api.Spot) api.Value {
	if len(r.fetched) == api.MaxFetch {
		panic(tooMany{})
	}
	r.fetched = append(r.fetched, s)
	return r.cells(s)
}

// ended tells what an evaluation ends with.
func (r *run) ended(evaluate func() api.Value) (v api.Value) {
	defer func() {
		switch p := recover().(type) {
		case nil:
		case tooMany:
			v = wrong(api.ERef)
		default:
			panic(p)
		}
	}()
	return evaluate()
}

func wrong(e int64) api.Value { return api.Value{Kind: api.VErr, Int: e} }

func isWrong(v api.Value) bool { return v.Kind == api.VErr }

func number(n int) api.Value { return api.Value{Kind: api.VInt, Int: int64(n)} }

// tree evaluates a tree in a value's place.
func (r *run) tree(x api.Expr) api.Value {
	switch x.Kind {
	case api.XInt:
		return api.Value{Kind: api.VInt, Int: x.Int}
	case api.XText:
		return api.Value{Kind: api.VText, Text: x.Text}
	case api.XBool:
		return api.Value{Kind: api.VBool, Int: x.Int}
	case api.XErr:
		return wrong(x.Int)
	case api.XRef:
		return r.fetch(spotOf(x.Ref))
	case api.XRange:
		return wrong(api.EValue)
	case api.XUn:
		return calc.Un(x.Op, r.tree(x.Kids[0]))
	case api.XBin:
		left := r.tree(x.Kids[0])
		if isWrong(left) {
			return left
		}
		return calc.Bin(x.Op, left, r.tree(x.Kids[1]))
	}
	return r.call(x)
}

func spotOf(r api.Ref) api.Spot { return api.Spot{Row: r.Row, Col: r.Col} }

// call evaluates a call in a value's place, by its function's class.
func (r *run) call(x api.Expr) api.Value {
	switch told, _ := list.Info(x.Fun); told.Class {
	case api.ClassScalar:
		all, bad := r.all(x.Kids)
		if isWrong(bad) {
			return bad
		}
		v, _ := calc.Call(x.Fun, all...)
		return v
	case api.ClassAsking:
		v, _ := calc.Call(x.Fun, r.tree(x.Kids[0]))
		return v
	case api.ClassLazy:
		return r.lazy(x)
	case api.ClassPlace:
		if len(x.Kids) == 0 {
			return number(map[int]int{api.FRow: r.at.Row, api.FColumn: r.at.Col}[x.Fun] + 1)
		}
		a, bad := r.area(x.Kids[0])
		if isWrong(bad) {
			return bad
		}
		return measured(x.Fun, a)
	case api.ClassArea:
		a, bad := r.area(x)
		if isWrong(bad) {
			return bad
		}
		if a.Top != a.Bottom || a.Left != a.Right {
			return wrong(api.EValue)
		}
		return r.fetch(api.Spot{Row: a.Top, Col: a.Left})
	}
	return r.walking(x)
}

// all evaluates trees in values' places, up to the first error.
func (r *run) all(kids []api.Expr) ([]api.Value, api.Value) {
	var all []api.Value
	for _, kid := range kids {
		v := r.tree(kid)
		if isWrong(v) {
			return nil, v
		}
		all = append(all, v)
	}
	return all, api.Value{}
}

func measured(f int, a api.Area) api.Value {
	return number(map[int]int{api.FRow: a.Top + 1, api.FColumn: a.Left + 1, api.FRows: a.Bottom - a.Top + 1, api.FColumns: a.Right - a.Left + 1}[f])
}

func (r *run) lazy(x api.Expr) api.Value {
	first, n := r.tree(x.Kids[0]), len(x.Kids)
	switch x.Fun {
	case api.FIf:
		yes, bad := value.Truth(first)
		switch {
		case bad != 0:
			return wrong(int64(bad))
		case yes:
			return r.tree(x.Kids[1])
		case n == 3:
			return r.tree(x.Kids[2])
		}
		return api.Value{Kind: api.VBool}
	case api.FIferror, api.FIfna:
		if isWrong(first) && (x.Fun == api.FIferror || first.Int == api.ENA) {
			return r.tree(x.Kids[1])
		}
		return first
	case api.FChoose:
		which, bad := value.Number(first)
		if bad != 0 {
			return wrong(int64(bad))
		}
		if which < 1 || which > int64(n-1) {
			return wrong(api.EValue)
		}
		return r.tree(x.Kids[which])
	}
	if isWrong(first) {
		return first
	}
	for i := 1; i+1 < n; i += 2 {
		v := r.tree(x.Kids[i])
		if isWrong(v) {
			return v
		}
		if value.Compare(first, v) == 0 {
			return r.tree(x.Kids[i+1])
		}
	}
	if n%2 == 0 {
		return r.tree(x.Kids[n-1])
	}
	return wrong(api.ENA)
}

// walking evaluates a walking call: its arguments, then its walk.
func (r *run) walking(x api.Expr) api.Value {
	var all []api.Arg
	for _, kid := range x.Kids {
		told, _ := list.Info(kid.Fun)
		if kid.Kind != api.XRef && kid.Kind != api.XRange && told.Class != api.ClassArea {
			all = append(all, api.Arg{Value: r.tree(kid)})
			continue
		}
		a, bad := r.area(kid)
		if isWrong(bad) {
			return bad
		}
		all = append(all, api.Arg{IsArea: true, Area: a})
	}
	return r.walk(x.Fun, all)
}

func (r *run) walk(f int, all []api.Arg) api.Value {
	w, e := fold.Begin(f, all...)
	if e != api.OK {
		panic(e)
	}
	for at, wants := w.Next(); wants; at, wants = w.Next() {
		w.Give(r.fetch(at))
	}
	v, _ := w.End()
	return v
}

// area evaluates a tree in an area's place; what is no error beside it is no matter.
func (r *run) area(x api.Expr) (api.Area, api.Value) {
	switch {
	case x.Kind == api.XRef:
		return api.Area{Top: x.Ref.Row, Left: x.Ref.Col, Bottom: x.Ref.Row, Right: x.Ref.Col}, api.Value{}
	case x.Kind == api.XRange:
		a := api.Area{Top: min(x.Ref.Row, x.To.Row), Left: min(x.Ref.Col, x.To.Col), Bottom: max(x.Ref.Row, x.To.Row), Right: max(x.Ref.Col, x.To.Col)}
		return fitting(a)
	case x.Kind == api.XErr:
		return api.Area{}, wrong(x.Int)
	case x.Kind != api.XCall || x.Fun < api.FIndirect || x.Fun > api.FIndex:
		return api.Area{}, wrong(api.EValue)
	case x.Fun == api.FIndirect:
		return spelt(r.tree(x.Kids[0]))
	}
	a, bad := r.area(x.Kids[0])
	if isWrong(bad) {
		return api.Area{}, bad
	}
	all, bad := r.all(x.Kids[1:])
	if isWrong(bad) {
		return api.Area{}, bad
	}
	return derived(x.Fun, a, all)
}

// fitting gives an area of the grid that is not too great.
func fitting(a api.Area) (api.Area, api.Value) {
	if a.Top < 0 || a.Left < 0 || a.Bottom >= api.MaxRows || a.Right >= api.MaxCols || (a.Bottom-a.Top+1)*(a.Right-a.Left+1) > api.MaxArea {
		return api.Area{}, wrong(api.ERef)
	}
	return a, api.Value{}
}

// spelt gives the area that a text spells.
func spelt(v api.Value) (api.Area, api.Value) {
	s, bad := value.AsText(v)
	if bad != 0 {
		return api.Area{}, wrong(int64(bad))
	}
	a, e := spot.ReadArea(s)
	if e != api.OK {
		return api.Area{}, wrong(api.ERef)
	}
	return a, api.Value{}
}

// derived gives the area that OFFSET or INDEX tells of another one and of values that are no errors.
func derived(f int, a api.Area, all []api.Value) (api.Area, api.Value) {
	var n []int
	for _, v := range all {
		i, bad := value.Number(v)
		if bad != 0 {
			return api.Area{}, wrong(int64(bad))
		}
		// Beyond this all numbers lead off the grid.
		n = append(n, int(max(-1<<20, min(i, 1<<20))))
	}
	rows, cols := a.Bottom-a.Top+1, a.Right-a.Left+1
	if f == api.FIndex {
		row, col := n[0], 1
		if len(n) == 2 {
			col = n[1]
		}
		if row < 1 || row > rows || col < 1 || col > cols {
			return api.Area{}, wrong(api.ERef)
		}
		return api.Area{Top: a.Top + row - 1, Left: a.Left + col - 1, Bottom: a.Top + row - 1, Right: a.Left + col - 1}, api.Value{}
	}
	if len(n) > 2 {
		rows = n[2]
	}
	if len(n) > 3 {
		cols = n[3]
	}
	if rows < 1 || cols < 1 {
		return api.Area{}, wrong(api.ERef)
	}
	top, left := a.Top+n[0], a.Left+n[1]
	return fitting(api.Area{Top: top, Left: left, Bottom: top + rows - 1, Right: left + cols - 1})
}
