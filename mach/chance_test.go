package mach

import (
	"math/rand"
	"slices"

	"quadrille/api"
	"quadrille/list"
)

// layer lays code that may be, by chance, as formulas are laid and otherwise.
type layer struct {
	*rand.Rand
	p api.Code
}

// byChance gives code that may be.
func byChance(c *rand.Rand) api.Code {
	l := &layer{Rand: c}
	l.value(1 + c.Intn(5))
	return l.p
}

// lay lays an instruction, and gives what sets its first jump to the place behind all that was laid.
func (l *layer) lay(in api.Ins) func() {
	at := l.here()
	l.p.Ins = append(l.p.Ins, in)
	return func() { l.p.Ins[at].A = l.here() }
}

func (l *layer) here() int { return len(l.p.Ins) }

// constant lays a constant, which may be one that there is already.
func (l *layer) constant(v api.Value) {
	at := slices.Index(l.p.Consts, v)
	if at < 0 {
		at = len(l.p.Consts)
		l.p.Consts = append(l.p.Consts, v)
	}
	l.lay(api.Ins{Op: api.IConst, A: at})
}

// leaf lays one instruction that leaves a value.
func (l *layer) leaf() {
	switch l.Intn(20) {
	case 0:
		l.constant(bad(1 + l.Int63n(6)))
	case 1, 2, 3:
		// A constant is no blank.
		l.constant(manyValues()[1+l.Intn(len(manyValues())-1)])
	case 4, 5:
		l.lay(api.Ins{Op: api.IHere, A: api.FRow + l.Intn(2)})
	default:
		l.lay(api.Ins{Op: api.IFetch, A: l.Intn(5), B: l.Intn(5)})
	}
}

// value lays what leaves a value, or an error.
func (l *layer) value(depth int) {
	if depth == 0 {
		l.leaf()
		return
	}
	within := func() { l.value(depth - 1) }
	switch l.Intn(11) {
	case 0:
		within()
		l.lay(api.Ins{Op: api.IUn, A: 1 + l.Intn(3)})
	case 1:
		end := l.args(2, within)
		l.lay(api.Ins{Op: api.IBin, A: 1 + l.Intn(12)})
		end()
	case 2:
		f, many := l.function(api.ClassScalar, api.ClassAsking)
		end := l.args(many, within)
		l.lay(api.Ins{Op: api.ICall, A: f, B: many})
		end()
	case 3:
		l.branch(within)
	case 4:
		within()
		end := l.lay(api.Ins{Op: api.IOk, B: 6 * l.Intn(2)})
		within()
		end()
	case 5:
		l.choice(within)
	case 6:
		l.match(within)
	case 7:
		l.area(depth - 1)
		l.lay(api.Ins{Op: api.IPlace, A: api.FRow + l.Intn(4)})
	case 8:
		l.area(depth - 1)
		l.lay(api.Ins{Op: api.IOne})
	case 9:
		within()
		within()
		l.lay(api.Ins{Op: api.IDrop})
	default:
		f, many := l.function(api.ClassWalking, api.ClassWalking)
		end := l.args(many, func() {
			if l.Intn(3) > 0 {
				l.area(depth - 1)
			} else {
				within()
			}
		})
		l.lay(api.Ins{Op: api.IWalk, A: f, B: many})
		end()
	}
}

// function gives a function of one of two classes, and how many arguments it has here.
func (l *layer) function(class, other int) (int, int) {
	for {
		f := 1 + l.Intn(api.Functions)
		told, _ := list.Info(f)
		if told.Class != class && told.Class != other {
			continue
		}
		if told.Max < 0 {
			told.Max = told.Min + 3
		}
		return f, told.Min + l.Intn(told.Max-told.Min+1)
	}
}

// args lays arguments, with jumps of errors behind some of them, and gives what sets these to the place behind all that was laid.
func (l *layer) args(many int, lay func()) func() {
	var open []func()
	for i := range many {
		lay()
		if l.Intn(2) > 0 {
			open = append(open, l.lay(api.Ins{Op: api.IErr, B: i}))
		}
	}
	return func() {
		for _, set := range open {
			set()
		}
	}
}

// branch lays two ways, one of a truth and one of no truth.
func (l *layer) branch(within func()) {
	within()
	at := l.here()
	l.lay(api.Ins{Op: api.IIf})
	within()
	end := l.lay(api.Ins{Op: api.IJump})
	l.p.Ins[at].A = l.here()
	within()
	l.p.Ins[at].B = l.here()
	end()
}

// match lays two ways, one of what is equal and one of what is not; the latter goes on with what stays there.
func (l *layer) match(within func()) {
	within()
	within()
	other := l.lay(api.Ins{Op: api.IMatch})
	within()
	end := l.lay(api.Ins{Op: api.IJump})
	other()
	if l.Intn(2) == 0 {
		l.lay(api.Ins{Op: api.IDrop})
		within()
	} else {
		l.lay(api.Ins{Op: api.IUn, A: 1 + l.Intn(3)})
	}
	end()
}

// choice lays a choice of several.
func (l *layer) choice(lay func()) {
	l.leaf()
	at := l.here()
	l.lay(api.Ins{Op: api.IChoose})
	var starts []int
	var ends []func()
	many := 1 + l.Intn(4)
	for i := range many {
		starts = append(starts, l.here())
		lay()
		if i < many-1 {
			ends = append(ends, l.lay(api.Ins{Op: api.IJump}))
		}
	}
	for range l.Intn(3) {
		starts = append(starts, starts[l.Intn(many)])
	}
	l.p.Ins[at].A, l.p.Ins[at].T = l.here(), starts
	for _, end := range ends {
		end()
	}
}

// area lays what leaves an area, or an error.
func (l *layer) area(depth int) {
	if depth == 0 {
		if l.Intn(9) == 0 {
			l.constant(bad(1 + l.Int63n(6)))
			return
		}
		top, left := l.Intn(5), l.Intn(5)
		if l.Intn(20) == 0 {
			top, left = 65533, 699
		}
		l.lay(api.Ins{Op: api.IArea, A: top, B: left, C: top + l.Intn(3), D: left + l.Intn(3)})
		return
	}
	within := func() { l.value(depth - 1) }
	switch l.Intn(4) {
	case 0:
		within()
		l.lay(api.Ins{Op: api.IIndirect})
	case 1:
		l.derived(api.IOffset, 2+l.Intn(3), depth-1)
	case 2:
		l.derived(api.IIndex, 1+l.Intn(2), depth-1)
	default:
		l.choice(func() { l.area(depth - 1) })
	}
}

// derived lays an area that hangs on another one and on values.
func (l *layer) derived(op, many, depth int) {
	first := true
	end := l.args(many+1, func() {
		if first {
			first = false
			l.area(depth)
		} else {
			l.value(l.Intn(depth + 1))
		}
	})
	l.lay(api.Ins{Op: op, A: many})
	end()
}

// spoilt gives code with one thing changed by chance; some of that may be, too.
func spoilt(c *rand.Rand, p api.Code) api.Code {
	p.Ins = slices.Clone(p.Ins)
	at := c.Intn(len(p.Ins))
	in := &p.Ins[at]
	in.T = slices.Clone(in.T)
	switch c.Intn(7) {
	case 0:
		in.Op = c.Intn(23) - 1
	case 1, 2:
		number := []*int{&in.A, &in.B, &in.C, &in.D}[c.Intn(2)]
		*number += []int{-1, 1, 2, -2}[c.Intn(4)]
	case 3:
		p.Ins = slices.Delete(p.Ins, at, at+1)
	case 4:
		p.Ins = slices.Insert(p.Ins, at, p.Ins[c.Intn(len(p.Ins))])
	case 5:
		other := c.Intn(len(p.Ins))
		p.Ins[at], p.Ins[other] = p.Ins[other], p.Ins[at]
	default:
		if len(in.T) > 0 {
			in.T[c.Intn(len(in.T))] += c.Intn(5) - 2
		} else {
			in.A = len(p.Ins)
		}
	}
	return p
}
