package comp

import "quadrille/api"

// shut closes a jump that is still open: it leads to what is laid next.
type shut func()

// closed closes all of them.
func closed(open []shut) {
	for _, end := range open {
		end()
	}
}

// Which jump of an instruction.
func jumpA(in *api.Ins) *int { return &in.A }

func jumpB(in *api.Ins) *int { return &in.B }

// open gives what closes a jump of the instruction that was laid last.
func (l *layer) open(jump func(in *api.Ins) *int) shut {
	at := len(l.ins) - 1
	return func() { *jump(&l.ins[at]) = len(l.ins) }
}

// leave lays a jump, and gives what closes it.
func (l *layer) leave() shut {
	l.lay(api.Ins{Op: api.IJump})
	return l.open(jumpA)
}

// leaveAtError lays a jump that an error takes, with so many items below it, and gives what closes it.
func (l *layer) leaveAtError(below int) shut {
	l.lay(api.Ins{Op: api.IErr, B: below})
	return l.open(jumpA)
}
