package mach

import (
	"fmt"
	"math/rand"
	"slices"
	"sync"
	"testing"

	"quadrille/api"
)

// story is code, a machine's own place, and what the model tells of it.
type story struct {
	p     api.Code
	own   api.Spot
	stops []stop
	end   api.Value
	last  api.MachLook
}

// someStories gives code of every form, all lists with spare room in which something stands.
func someStories(t *testing.T) []story {
	c := rand.New(rand.NewSource(181))
	all := []api.Code{
		of(t, `const i 1; const t "x"; do.fetch 0 0; do.choose 6 2 4; do.const 0; do.jump 6; do.area 0 0 1 1; do.walk 54 1`),
		of(t, `const t "-"; do.const 0; do.area 0 0 1 1; do.fetch 4 4; do.walk 69 3`),
		of(t, `do.fetch 0 0; do.indirect; do.fetch 0 1; do.fetch 0 2; do.offset 2; do.one`),
		of(t, `do.here 47`), of(t, great(2)+"do.walk 75 2"),
	}
	for range 300 {
		all = append(all, byChance(c))
	}
	var out []story
	for _, p := range all {
		s := story{p: roomy(p), own: api.Spot{Row: c.Intn(9), Col: c.Intn(9)}}
		s.stops, s.end, s.last = modelled(p, s.own, sheets(c))
		out = append(out, s)
	}
	return out
}

// tell goes through a story, with something done ahead of each step.
func (s story) tell(t *testing.T, promise string, m *Machine, ahead func()) {
	t.Helper()
	for i := range s.stops {
		ahead()
		if !s.step(t, promise, m, i) {
			return
		}
	}
	ahead()
	s.finish(t, promise, m)
}

// step goes on by one stop; false: it was another one.
func (s story) step(t *testing.T, promise string, m *Machine, i int) bool {
	t.Helper()
	if at, wants := m.Wants(); at != s.stops[i].at || !wants || m.Look() != s.stops[i].look {
		t.Errorf("%s: %s behind %d values wants %v, %t at %+v; not %v at %+v", promise, written(s.p), i, at, wants, m.Look(), s.stops[i].at, s.stops[i].look)
		return false
	}
	return m.Give(s.stops[i].v) == api.OK
}

func (s story) finish(t *testing.T, promise string, m *Machine) {
	t.Helper()
	if v, over := m.Value(); v != s.end || !over || m.Look() != s.last {
		t.Errorf("%s: %s is worth %s, %t at %+v; not %s at %+v", promise, written(s.p), brief(v), over, m.Look(), brief(s.end), s.last)
	}
}

// roomy gives code with lists of its own, all with spare room in which something stands.
func roomy(p api.Code) api.Code {
	ins := make([]api.Ins, 0, len(p.Ins)+3)
	for _, in := range p.Ins {
		in.T = append(slices.Clone(in.T), 71, 72, 73)[:len(in.T)]
		ins = append(ins, in)
	}
	ins = append(ins, api.Ins{Op: api.IChoose, A: 74, T: []int{75, 76}}, api.Ins{Op: api.IDrop}, api.Ins{Op: 99, A: 1, B: 2, C: 3, D: 4})
	values := append(slices.Clone(p.Consts), txt("behind"), blank(), bad(9))
	return api.Code{Ins: ins[:len(p.Ins)], Consts: values[:len(p.Consts)]}
}

// withRoom writes code out with its spare room.
func withRoom(p api.Code) string {
	ins := slices.Clone(p.Ins[:cap(p.Ins)])
	for i, in := range ins {
		ins[i].T = in.T[:cap(in.T)]
	}
	return fmt.Sprint(ins, p.Consts[:cap(p.Consts)])
}

// overwrite writes other things into all of a code's lists, and their spare room.
func overwrite(p api.Code) {
	ins, values := p.Ins[:cap(p.Ins)], p.Consts[:cap(p.Consts)]
	for i, in := range ins {
		for k := range in.T[:cap(in.T)] {
			in.T[:cap(in.T)][k] = -5
		}
		ins[i] = api.Ins{Op: api.IJump, A: -6, B: 1}
	}
	for i := range values {
		values[i] = txt("written over")
	}
}

// TestCodeIsNotChanged runs code and sees to it that all of its lists, and their spare room, stay as they were, also of code that is refused.
func TestCodeIsNotChanged(t *testing.T) {
	c := rand.New(rand.NewSource(182))
	for _, s := range someStories(t) {
		was := withRoom(s.p)
		s.tell(t, "P18.1", begin(t, s.p, s.own), func() {
			if withRoom(s.p) != was {
				t.Fatalf("P0.3: a machine has changed its code: %s", written(s.p))
			}
		})
		q := roomy(spoilt(c, s.p))
		was = withRoom(q)
		New(q, s.own)
		New(q, api.Spot{Row: -1})
		if withRoom(q) != was {
			t.Fatalf("P0.3: New has changed code: %s", written(q))
		}
	}
}

// TestCodeIsKeptAsItWas writes over all lists of code that a machine runs: at once, and at each of its stops.
func TestCodeIsKeptAsItWas(t *testing.T) {
	for _, s := range someStories(t) {
		for late := range min(len(s.stops), 9) + 1 {
			p := roomy(s.p)
			m := begin(t, p, s.own)
			done := 0
			s.tell(t, "P18.1", m, func() {
				if done == late {
					overwrite(p)
				}
				done++
			})
		}
	}
	// A machine that is begun behind that is of the new code.
	p := of(t, "const i 1; const i 2; do.fetch 0 0; do.choose 4 2; do.const 0; do.jump 4")
	old := begin(t, p, api.Spot{})
	p.Ins[0].A, p.Ins[2].A, p.Consts[1] = 5, 1, num(3)
	tell(t, "the new code", p, []told{{"A6", num(1)}}, num(3))
	wanting(t, "the old code", old, place("A1"), api.MachLook{})
	giving(t, "the old code", old, num(1))
	ending(t, "the old code", old, num(1), api.MachLook{At: 4, Height: 1, Fetches: 1, Over: true})
}

// TestAskingChangesNothing asks and is refused at each stop, and goes on as if it had not.
func TestAskingChangesNothing(t *testing.T) {
	for _, s := range someStories(t) {
		m := begin(t, s.p, s.own)
		s.tell(t, "P18.6", m, func() {
			for _, v := range wrongValues() {
				m.Wants()
				if e := m.Give(v); e == api.OK {
					t.Fatalf("P18.3: %s is taken", brief(v))
				}
				m.Value()
				m.Look()
			}
		})
		s.finish(t, "P18.6", m)
	}
}

// TestMachinesByTurns runs many machines by turns, two of each code with values of their own.
func TestMachinesByTurns(t *testing.T) {
	c := rand.New(rand.NewSource(183))
	var all []story
	var machines []*Machine
	for _, s := range someStories(t) {
		other := s
		other.stops, other.end, other.last = modelled(s.p, s.own, sheets(c))
		for _, one := range []story{s, other} {
			all = append(all, one)
			machines = append(machines, begin(t, one.p, one.own))
		}
	}
	for step, left := 0, true; left; step++ {
		left = false
		for _, i := range c.Perm(len(all)) {
			if step < len(all[i].stops) {
				left = all[i].step(t, "P18.6", machines[i], step) || left
			}
		}
	}
	for i, s := range all {
		s.finish(t, "P18.6", machines[i])
	}
}

// TestManyAtATime runs the same code on many goroutines, in other orders.
func TestManyAtATime(t *testing.T) {
	all := someStories(t)
	var group sync.WaitGroup
	for worker := range 8 {
		group.Go(func() {
			for _, i := range rand.New(rand.NewSource(int64(worker))).Perm(len(all)) {
				m, e := New(all[i].p, all[i].own)
				if e != api.OK {
					t.Errorf("P0.5: %s is refused beside others: %d", written(all[i].p), e)
					continue
				}
				all[i].tell(t, "P0.5", m, func() {})
			}
		})
	}
	group.Wait()
}
