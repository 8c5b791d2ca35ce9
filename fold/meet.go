package fold

import (
	"quadrille/api"
	"quadrille/value"
)

// counting is the rule of a function that counts values, of both sorts, and is ended by none.
func counting(args []api.Arg, given, cell func(v api.Value) bool) rule {
	many := int64(0)
	when := func(counts func(v api.Value) bool) func(v api.Value) step {
		return func(v api.Value) step {
			if counts(v) {
				many++
			}
			return step{}
		}
	}
	return rule{through: args, given: when(given), cell: when(cell), last: func() api.Value { return number(many) }}
}

func count(args []api.Arg) rule {
	given := func(v api.Value) bool {
		_, bad := value.Number(v)
		return bad == 0
	}
	return counting(args, given, func(v api.Value) bool { return v.Kind == api.VInt })
}

func countFilled(args []api.Arg) rule {
	isFilled := func(v api.Value) bool { return !isBlank(v) }
	return counting(args, isFilled, isFilled)
}

func countBlank(args []api.Arg) rule { return counting(args, isBlank, isBlank) }

func isBlank(v api.Value) bool { return v.Kind == api.VBlank }

// judging is the rule of a function of truths: what it does with each, and what it ends with, if there was one.
func judging(args []api.Arg, take func(b bool) step, last func() bool) rule {
	some := false
	given := func(v api.Value) step {
		b, bad := value.Truth(v)
		if bad != 0 {
			return endWith(fault(bad))
		}
		some = true
		return take(b)
	}
	cell := func(v api.Value) step {
		// A blank and a text may be truths, too, but not in a cell.
		if isBlank(v) || v.Kind == api.VText {
			return step{}
		}
		return given(v)
	}
	return rule{through: args, given: given, cell: cell, last: func() api.Value {
		if !some {
			return fault(api.EValue)
		}
		return truth(last())
	}}
}

func and(args []api.Arg) rule { return until(args, false) }

func or(args []api.Arg) rule { return until(args, true) }

// until ends with the first truth that is the one that decides; without it the other one holds.
func until(args []api.Arg, decides bool) rule {
	take := func(b bool) step {
		if b == decides {
			return endWith(truth(b))
		}
		return step{}
	}
	return judging(args, take, func() bool { return !decides })
}

func xor(args []api.Arg) rule {
	odd := false
	take := func(b bool) step {
		odd = odd != b
		return step{}
	}
	return judging(args, take, func() bool { return odd })
}

func concat(args []api.Arg) rule { return joining("", args) }

func join(args []api.Arg) rule {
	between, bad := asText(args[0])
	if bad != 0 {
		return ended(fault(bad))
	}
	return joining(between, args[1:])
}

// joining writes values as texts one behind the other, with a text between each two. It passes over cells that are blank, which makes no odds where there is nothing between.
func joining(between string, through []api.Arg) rule {
	var all []byte
	some := false
	given := func(v api.Value) step {
		s, bad := value.AsText(v)
		if bad != 0 {
			return endWith(fault(bad))
		}
		if some {
			all = append(all, between...)
		}
		all, some = append(all, s...), true
		if len(all) > api.MaxText {
			return endWith(fault(api.EValue))
		}
		return step{}
	}
	return rule{through: through, given: given, cell: unlessBlank(given), last: func() api.Value { return text(string(all)) }}
}

// unlessBlank makes of what is done with a value what is done where a blank is passed over.
func unlessBlank(do func(v api.Value) step) func(v api.Value) step {
	return func(v api.Value) step {
		if isBlank(v) {
			return step{}
		}
		return do(v)
	}
}

func first(args []api.Arg) rule {
	do := unlessBlank(endWith)
	return rule{through: args, given: do, cell: do, last: func() api.Value { return fault(api.ENA) }}
}
