package calc

import (
	"quadrille/api"
	"quadrille/value"
	"quadrille/whole"
)

// hundred is what a per cent is a part of.
const hundred = 100

// Un does an operation on one.
func Un(op int, v api.Value) api.Value {
	if op < api.UMinus || op > api.UPercent {
		return fault(api.EValue)
	}
	n, bad := value.Number(v)
	if bad != 0 {
		return fault(bad)
	}
	switch op {
	case api.UMinus:
		return fitting(whole.Sub(0, n))
	case api.UPercent:
		return reckoned(whole.Quo(n, hundred))
	}
	return number(n)
}

// Bin does an operation on two.
func Bin(op int, x, y api.Value) api.Value {
	if op < api.BPow || op > api.BMoreEq {
		return fault(api.EValue)
	}
	x, y = sound(x), sound(y)
	if bad, some := firstError([]api.Value{x, y}); some {
		return bad
	}
	switch op {
	case api.BPow, api.BMul, api.BDiv, api.BAdd, api.BSub:
		return sum(op, x, y)
	case api.BJoin:
		return joined(x, y)
	}
	return truth(holds(op, value.Compare(x, y)))
}

// sound gives a value, or what is taken for one that may not be.
func sound(v api.Value) api.Value {
	if !value.May(v) {
		return fault(api.EValue)
	}
	return v
}

// sum does an operation on two numbers.
func sum(op int, x, y api.Value) api.Value {
	a, bad := value.Number(x)
	if bad != 0 {
		return fault(bad)
	}
	b, bad := value.Number(y)
	if bad != 0 {
		return fault(bad)
	}
	switch op {
	case api.BPow:
		return reckoned(whole.Pow(a, b))
	case api.BMul:
		return fitting(whole.Mul(a, b))
	case api.BDiv:
		return reckoned(whole.Quo(a, b))
	case api.BAdd:
		return fitting(whole.Add(a, b))
	}
	return fitting(whole.Sub(a, b))
}

// joined gives two values that are no errors as texts, one behind the other.
func joined(x, y api.Value) api.Value {
	ahead, _ := value.AsText(x)
	behind, _ := value.AsText(y)
	return chained(ahead, behind)
}

// holds tells whether a comparison is true of two of which the order is known.
func holds(op, order int) bool {
	switch op {
	case api.BEq:
		return order == 0
	case api.BNe:
		return order != 0
	case api.BLess:
		return order < 0
	case api.BLessEq:
		return order <= 0
	case api.BMore:
		return order > 0
	}
	return order >= 0
}
