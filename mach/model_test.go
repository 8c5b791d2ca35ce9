package mach

import (
	"fmt"
	"math/big"
	"math/rand"
	"slices"
	"testing"

	"quadrille/api"
	"quadrille/calc"
	"quadrille/code"
	"quadrille/fold"
	"quadrille/list"
	"quadrille/spot"
	"quadrille/value"
)

// stop is what is wanted at a stop, where the machine stands then, and what it is given.
type stop struct {
	at   api.Spot
	look api.MachLook
	v    api.Value
}

// tooMany ends a run at the place that is not wanted.
type tooMany struct{}

// model runs code in the document's words: it does not stop, but asks for the value of a place.
type model struct {
	p     api.Code
	own   api.Spot
	give  func(at api.Spot) api.Value
	items []api.Arg
	doing int
	stops []stop
}

func (m *model) look() api.MachLook {
	return api.MachLook{At: m.doing, Height: len(m.items), Fetches: len(m.stops)}
}

func (m *model) fetch(at api.Spot) api.Value {
	if len(m.stops) == 65536 {
		panic(tooMany{})
	}
	s := stop{at, m.look(), m.give(at)}
	m.stops = append(m.stops, s)
	return s.v
}

// run runs code to its end, and tells what comes of it and where it stands then.
func (m *model) run() (v api.Value, last api.MachLook) {
	defer func() {
		switch p := recover().(type) {
		case nil:
		case tooMany:
			v, last = bad(api.ERef), m.look()
			last.Over = true
		default:
			panic(p)
		}
	}()
	for m.doing < len(m.p.Ins) {
		next := m.goTo(m.p.Ins[m.doing])
		if next <= m.doing {
			panic("a way back")
		}
		m.doing = next
	}
	last = m.look()
	last.Over = true
	if last.Height != 1 || m.items[0].IsArea {
		panic(fmt.Sprint("what is left is not one value: ", m.items))
	}
	return m.items[0].Value, last
}

func (m *model) lay(v api.Value) { m.items = append(m.items, api.Arg{Value: v}) }

func (m *model) layArea(a api.Area, wrong api.Value) {
	if wrong != (api.Value{}) {
		m.lay(wrong)
		return
	}
	m.items = append(m.items, api.Arg{IsArea: true, Area: a})
}

// take takes so many items, the last of which was on top.
func (m *model) take(n int) []api.Arg {
	low := len(m.items) - n
	taken := slices.Clone(m.items[low:])
	m.items = m.items[:low]
	return taken
}

// values takes so many values.
func (m *model) values(n int) []api.Value {
	var all []api.Value
	for _, item := range m.take(n) {
		if item.IsArea {
			panic("an area, where a value is asked for")
		}
		all = append(all, item.Value)
	}
	return all
}

func (m *model) value() api.Value { return m.values(1)[0] }

func isWrong(v api.Value) bool { return v.Kind == api.VErr }

func isWrongItem(item api.Arg) bool { return !item.IsArea && isWrong(item.Value) }

// goTo does an instruction, and tells which one comes next.
func (m *model) goTo(in api.Ins) int {
	switch in.Op {
	case api.IErr:
		if isWrongItem(m.items[len(m.items)-1]) {
			wrong := m.value()
			m.take(in.B)
			m.lay(wrong)
			return in.A
		}
	case api.IIf:
		truth, wrong := value.Truth(m.value())
		if wrong != 0 {
			m.lay(bad(int64(wrong)))
			return in.B
		}
		if !truth {
			return in.A
		}
	case api.IOk:
		v := m.value()
		if !isWrong(v) || in.B == 6 && v.Int != api.ENA {
			m.lay(v)
			return in.A
		}
	case api.IChoose:
		n, wrong := value.Number(m.value())
		for i, to := range in.T {
			if wrong == 0 && n == int64(i+1) {
				return to
			}
		}
		m.lay(bad(int64(max(wrong, 0))))
		if wrong == 0 {
			m.items[len(m.items)-1].Value.Int = api.EValue
		}
		return in.A
	case api.IMatch:
		upper := m.value()
		if value.Compare(m.items[len(m.items)-1].Value, upper) != 0 {
			return in.A
		}
		m.value()
	case api.IDrop:
		m.value()
	case api.IJump:
		return in.A
	default:
		m.do(in)
	}
	return m.doing + 1
}

// do does an instruction that does not jump.
func (m *model) do(in api.Ins) {
	switch in.Op {
	case api.IConst:
		m.lay(m.p.Consts[in.A])
	case api.IFetch:
		m.lay(m.fetch(api.Spot{Row: in.A, Col: in.B}))
	case api.IArea:
		m.layArea(api.Area{Top: in.A, Left: in.B, Bottom: in.C, Right: in.D}, api.Value{})
	case api.IUn:
		m.lay(calc.Un(in.A, m.value()))
	case api.IBin:
		both := m.values(2)
		m.lay(calc.Bin(in.A, both[0], both[1]))
	case api.ICall:
		v, e := calc.Call(in.A, m.values(in.B)...)
		if e != api.OK {
			panic(e)
		}
		m.lay(v)
	case api.IHere:
		m.lay(num(map[int]int64{api.FRow: int64(m.own.Row) + 1, api.FColumn: int64(m.own.Col) + 1}[in.A]))
	case api.IPlace:
		if item := m.take(1)[0]; isWrongItem(item) {
			m.lay(item.Value)
		} else {
			a := item.Area
			m.lay(num(map[int]int64{api.FRow: int64(a.Top) + 1, api.FColumn: int64(a.Left) + 1, api.FRows: int64(a.Bottom - a.Top + 1), api.FColumns: int64(a.Right - a.Left + 1)}[in.A]))
		}
	case api.IOne:
		m.lay(m.one(m.take(1)[0]))
	case api.IIndirect:
		m.layArea(modelSpelt(m.value()))
	case api.IOffset, api.IIndex:
		m.layArea(modelDerived(in.Op, m.take(in.A+1)))
	case api.IWalk:
		m.lay(m.walk(in.A, m.take(in.B)))
	default:
		panic(fmt.Sprint("no instruction: ", in.Op))
	}
}

// one gives the value of an area's one place.
func (m *model) one(item api.Arg) api.Value {
	switch a := item.Area; {
	case !item.IsArea:
		return item.Value
	case a.Top == a.Bottom && a.Left == a.Right:
		return m.fetch(api.Spot{Row: a.Top, Col: a.Left})
	}
	return bad(api.EValue)
}

func (m *model) walk(f int, all []api.Arg) api.Value {
	w, e := fold.Begin(f, all...)
	if e != api.OK {
		panic(e)
	}
	for at, wants := w.Next(); wants; at, wants = w.Next() {
		w.Give(m.fetch(at))
	}
	v, _ := w.End()
	return v
}

// modelSpelt gives the area that a value spells as a text, or an error.
func modelSpelt(v api.Value) (api.Area, api.Value) {
	s, wrong := value.AsText(v)
	if wrong != 0 {
		return api.Area{}, bad(int64(wrong))
	}
	a, e := spot.ReadArea(s)
	if e != api.OK {
		return api.Area{}, bad(api.ERef)
	}
	return a, api.Value{}
}

// modelDerived gives what IOffset or IIndex makes of items: an area, or an error. It reckons with numbers of any size.
func modelDerived(op int, all []api.Arg) (api.Area, api.Value) {
	var n []*big.Int
	for _, item := range all {
		if isWrongItem(item) {
			return api.Area{}, item.Value
		}
	}
	for _, item := range all[1:] {
		i, wrong := value.Number(item.Value)
		if wrong != 0 {
			return api.Area{}, bad(int64(wrong))
		}
		n = append(n, big.NewInt(i))
	}
	a := all[0].Area
	rows, cols := big.NewInt(int64(a.Bottom-a.Top+1)), big.NewInt(int64(a.Right-a.Left+1))
	top, left, one := big.NewInt(int64(a.Top)), big.NewInt(int64(a.Left)), big.NewInt(1)
	if op == api.IIndex {
		if n = append(n, one); n[0].Cmp(rows) > 0 || n[1].Cmp(cols) > 0 {
			return api.Area{}, bad(api.ERef)
		}
		// The place is as far from the area's first one as OFFSET would say by one less; below 1 nothing is.
		if n[0].Sign() <= 0 || n[1].Sign() <= 0 {
			return api.Area{}, bad(api.ERef)
		}
		n = []*big.Int{new(big.Int).Sub(n[0], one), new(big.Int).Sub(n[1], one), one, one}
	}
	if len(n) == 2 {
		n = append(n, rows)
	}
	if len(n) == 3 {
		n = append(n, cols)
	}
	top.Add(top, n[0])
	left.Add(left, n[1])
	bottom, right := new(big.Int).Add(top, n[2]), new(big.Int).Add(left, n[3])
	on := top.Sign() >= 0 && left.Sign() >= 0 && bottom.Cmp(big.NewInt(65536)) <= 0 && right.Cmp(big.NewInt(702)) <= 0
	if n[2].Sign() <= 0 || n[3].Sign() <= 0 || !on || new(big.Int).Mul(n[2], n[3]).Cmp(big.NewInt(4096)) > 0 {
		return api.Area{}, bad(api.ERef)
	}
	return api.Area{Top: int(top.Int64()), Left: int(left.Int64()), Bottom: int(bottom.Int64()) - 1, Right: int(right.Int64()) - 1}, api.Value{}
}

// modelled runs code by the model, and tells its stops, what comes of it, and where it stands then.
func modelled(p api.Code, own api.Spot, give func(at api.Spot) api.Value) ([]stop, api.Value, api.MachLook) {
	m := &model{p: p, own: own, give: give}
	v, last := m.run()
	return m.stops, v, last
}

// likeTheModel holds a machine against the model, stop by stop.
func likeTheModel(t *testing.T, p api.Code, own api.Spot, give func(at api.Spot) api.Value) ([]stop, api.Value) {
	t.Helper()
	stops, v, last := modelled(p, own, give)
	m := begin(t, p, own)
	for i, s := range stops {
		at, wants := m.Wants()
		early, over := m.Value()
		if at != s.at || !wants || m.Look() != s.look || early != (api.Value{}) || over {
			t.Fatalf("P18.2, P18.4, P18.5: %s behind %d values wants %v, %t, is worth %s, %t, stands at %+v; it should want %v at %+v", written(p), i, at, wants, brief(early), over, m.Look(), s.at, s.look)
		}
		if e := m.Give(s.v); e != api.OK {
			t.Fatalf("P18.3: %s behind %d values takes no %s: %d", written(p), i, brief(s.v), e)
		}
	}
	at, wants := m.Wants()
	got, over := m.Value()
	if at != (api.Spot{}) || wants || got != v || !over || m.Look() != last || m.Give(num(1)) != api.ErrStill {
		t.Fatalf("P18.2, P18.4, P18.5: %s behind %d values wants %v, %t, is worth %s, %t, stands at %+v; it should be over with %s at %+v", written(p), len(stops), at, wants, brief(got), over, m.Look(), brief(v), last)
	}
	return stops, v
}

// manyValues gives values of every kind, with such as an area, a choice or a number is told by.
func manyValues() []api.Value {
	all := []api.Value{blank(), num(0), num(1), num(2), num(3), num(-1), num(70000), num(1<<63 - 1), num(-1 << 63), yes(), no(), txt(""), txt("A1"), txt("b2:A1"), txt("$C$3:C3"), txt("A1:B4000"), txt("AAA1"), txt("2"), txt("-1"), txt("TRUE"), txt("FALSE"), txt("x")}
	for e := int64(api.EName); e <= api.ENA; e++ {
		all = append(all, bad(e))
	}
	return all
}

// inTurn gives one value after the other, whatever the place.
func inTurn(all ...api.Value) func(api.Spot) api.Value {
	next := 0
	return func(api.Spot) api.Value {
		next++
		return all[(next-1)%len(all)]
	}
}

// TestEachValueUnderEachInstruction has every value of a choice, or every two or three of them, fetched and then looked at by each instruction that takes values.
func TestEachValueUnderEachInstruction(t *testing.T) {
	var one, two []api.Code
	for op := api.UMinus; op <= api.UPercent; op++ {
		one = append(one, of(t, fmt.Sprintf("do.fetch 0 0; do.un %d", op)))
	}
	for op := api.BPow; op <= api.BMoreEq; op++ {
		two = append(two, of(t, fmt.Sprintf("do.fetch 0 0; do.fetch 0 1; do.bin %d", op)), of(t, fmt.Sprintf("do.fetch 0 0; do.err 4 0; do.fetch 0 1; do.bin %d", op)))
	}
	for f := 1; f <= api.Functions; f++ {
		told, _ := list.Info(f)
		op := "call"
		switch told.Class {
		case api.ClassLazy, api.ClassPlace, api.ClassArea:
			continue
		case api.ClassWalking:
			op = "walk"
		}
		if told.Min <= 1 && told.Max != 0 {
			one = append(one, of(t, fmt.Sprintf("do.fetch 0 0; do.%s %d 1", op, f)))
		}
		if told.Min <= 2 && (told.Max >= 2 || told.Max < 0) {
			two = append(two, of(t, fmt.Sprintf("do.fetch 0 0; do.fetch 0 1; do.%s %d 2", op, f)))
		}
	}
	for _, lines := range []string{
		"do.fetch 0 0; do.err 3 0; do.un 1", "do.fetch 0 0; do.if 5 6; do.here 47; do.un 1; do.jump 6; do.here 48", "do.fetch 0 0; do.ok 3 0; do.here 47", "do.fetch 0 0; do.ok 3 6; do.here 47",
		"do.fetch 0 0; do.choose 6 2 4 2; do.here 47; do.jump 6; do.here 48; do.jump 6", "do.fetch 0 0; do.indirect; do.place 47", "do.fetch 0 0; do.indirect; do.place 50", "do.fetch 0 0; do.indirect; do.one",
		"do.area 1 1 3 2; do.fetch 0 0; do.index 1; do.one", "do.here 47; do.fetch 0 0; do.drop",
	} {
		one = append(one, of(t, lines))
	}
	for _, lines := range []string{
		"do.fetch 0 0; do.fetch 0 1; do.match 5; do.here 47; do.jump 6; do.un 1", "do.fetch 0 0; do.fetch 0 1; do.err 4 1; do.bin 6",
		"do.area 1 1 3 2; do.fetch 0 0; do.fetch 0 1; do.index 2; do.one", "do.area 1 1 3 2; do.fetch 0 0; do.fetch 0 1; do.offset 2; do.place 47", "do.area 1 1 3 2; do.fetch 0 0; do.fetch 0 1; do.offset 2; do.place 48",
		"do.area 1 1 3 2; do.here 47; do.here 48; do.fetch 0 0; do.fetch 0 1; do.offset 4; do.place 49", "do.area 1 1 3 2; do.here 47; do.here 48; do.fetch 0 0; do.fetch 0 1; do.offset 4; do.place 50",
		"do.fetch 0 0; do.area 0 1 0 1; do.walk 57 2", "do.area 0 1 1 1; do.walk 54 1",
	} {
		two = append(two, of(t, lines))
	}
	if len(one) < 50 || len(two) < 50 {
		t.Fatalf("only %d and %d codes", len(one), len(two))
	}
	for _, v := range manyValues() {
		for _, p := range one {
			likeTheModel(t, p, place("B7"), inTurn(v, num(4)))
		}
		for _, w := range manyValues() {
			for _, p := range two {
				likeTheModel(t, p, place("B7"), inTurn(v, w, num(4)))
			}
		}
	}
}

// sheets gives sheets of few values, each in many places; the same place may have another one when it is wanted again.
func sheets(c *rand.Rand) func(at api.Spot) api.Value {
	all := manyValues()
	c.Shuffle(len(all), func(i, k int) { all[i], all[k] = all[k], all[i] })
	// Small numbers come more often: they lead farther.
	all = append(all[:1+c.Intn(len(all))], num(1), num(2), num(1), num(3))
	asked := 0
	seed := 1 + c.Intn(1000)
	return func(at api.Spot) api.Value {
		asked++
		return all[(at.Row*31+at.Col*17+asked/9+seed)*seed%1009%len(all)]
	}
}

// TestCodeByChance holds machines of code by chance against the model, such as formulas have and other.
func TestCodeByChance(t *testing.T) {
	c := rand.New(rand.NewSource(18))
	good, many, other := 0, 0, 0
	for range 20000 {
		p := byChance(c)
		if e := code.May(p); e != api.OK {
			t.Fatalf("the test's code may not be: %s: %d", written(p), e)
		}
		q := spoilt(c, p)
		for _, p := range []api.Code{p, q} {
			own := api.Spot{Row: c.Intn(9), Col: c.Intn(9)}
			if e := code.May(p); e != api.OK {
				refused(t, p, own, e)
				continue
			}
			for range 3 {
				stops, v := likeTheModel(t, p, own, sheets(c))
				if !isWrong(v) {
					good++
				}
				if len(stops) > 2 {
					many++
				}
			}
			other++
		}
	}
	if good < 15000 || many < 18000 || other < 22000 {
		t.Errorf("of %d pieces of code only %d runs end with no error, only %d stop more than twice", other, good, many)
	}
}

// TestGreatCodeByChance does the same with code that has thousands of instructions.
func TestGreatCodeByChance(t *testing.T) {
	c := rand.New(rand.NewSource(180))
	for range 30 {
		l := &layer{Rand: c}
		l.value(3)
		for l.here() < 4000 {
			l.value(4)
			l.lay(api.Ins{Op: api.IBin, A: 1 + c.Intn(12)})
		}
		for range 3 {
			likeTheModel(t, l.p, api.Spot{Row: c.Intn(9), Col: c.Intn(9)}, sheets(c))
		}
	}
}
