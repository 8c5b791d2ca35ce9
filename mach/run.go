package mach

import (
	"quadrille/api"
	"quadrille/calc"
	"quadrille/fold"
)

// run does instructions up to the next stop.
func (m *Machine) run() {
next:
	if m.look.At == len(m.code.Ins) {
		m.finish(m.items[0].Value)
		return
	}
	in, to, s := m.code.Ins[m.look.At], m.look.At+1, &m.items
	switch in.Op {
	case api.IConst:
		s.lay(m.code.Consts[in.A])
	case api.IFetch:
		m.stop(api.Spot{Row: in.A, Col: in.B})
		return
	case api.IArea:
		s.put(ofArea(in.A, in.B, in.C, in.D))
	case api.IUn:
		s.lay(calc.Un(in.A, s.value()))
	case api.IBin:
		y, x := s.value(), s.value()
		s.lay(calc.Bin(in.A, x, y))
	case api.ICall:
		v, _ := calc.Call(in.A, s.values(in.B)...)
		s.lay(v)
	case api.IErr:
		to = s.ifError(in, to)
	case api.IIf:
		to = s.ifFalse(in, to)
	case api.IOk:
		to = s.ifGood(in, to)
	case api.IChoose:
		to = s.chosen(in)
	case api.IMatch:
		to = s.ifOther(in, to)
	case api.IDrop:
		s.drop(1)
	case api.IJump:
		to = in.A
	case api.IHere:
		s.put(measured(in.A, ofArea(m.own.Row, m.own.Col, m.own.Row, m.own.Col)))
	case api.IPlace:
		s.put(measured(in.A, s.item()))
	case api.IOne:
		if at, one := s.one(); one {
			m.stop(at)
			return
		}
	case api.IIndirect:
		s.put(spelt(s.value()))
	case api.IOffset:
		s.put(derived(s.take(in.A+1), shifted))
	case api.IIndex:
		s.put(derived(s.take(in.A+1), picked))
	case api.IWalk:
		if m.walks(in) {
			return
		}
	}
	m.look.At = to
	goto next
}

// walks does IWalk up to its first stop; false: it has none.
func (m *Machine) walks(in api.Ins) bool {
	m.walk, _ = fold.Begin(in.A, m.items.take(in.B)...)
	return m.walksOn()
}

// walksOn stops at the next place that a walk wants; false: it has ended, and what it ended with is laid.
func (m *Machine) walksOn() bool {
	if at, wants := m.walk.Next(); wants {
		m.stop(at)
		return true
	}
	end, _ := m.walk.End()
	m.walk = nil
	m.items.lay(end)
	return false
}
