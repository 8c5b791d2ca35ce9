package fold

import (
	"slices"

	"quadrille/api"
	"quadrille/value"
	"quadrille/whole"
)

// gathering is the rule of a function that gathers numbers: what it does with each of them, and what it ends with.
func gathering(through []api.Arg, take func(n int64) step, last func() api.Value) rule {
	given := func(v api.Value) step {
		n, bad := value.Number(v)
		if bad != 0 {
			return endWith(fault(bad))
		}
		return take(n)
	}
	return rule{through: through, given: given, cell: ofNumbers(take), last: last}
}

// ofNumbers makes of what is done with a number what is done with a cell's value, of which only numbers count.
func ofNumbers(take func(n int64) step) func(v api.Value) step {
	return func(v api.Value) step {
		switch v.Kind {
		case api.VInt:
			return take(v.Int)
		case api.VErr:
			return endWith(v)
		}
		return step{}
	}
}

// into takes numbers into what has come so far, by a way of reckoning that tells where it leaves 64 bits.
func into(sofar *int64, reckon func(a, b int64) (int64, bool)) func(n int64) step {
	return func(n int64) step {
		next, fits := reckon(*sofar, n)
		if !fits {
			return endWith(fault(api.ENum))
		}
		*sofar = next
		return step{}
	}
}

func sum(args []api.Arg) rule {
	total := int64(0)
	return gathering(args, into(&total, whole.Add[int64]), func() api.Value { return number(total) })
}

func product(args []api.Arg) rule {
	all := int64(1)
	return gathering(args, into(&all, whole.Mul[int64]), func() api.Value { return number(all) })
}

// average counts the numbers ahead of adding them; where the sum ends it nobody asks how many there were.
func average(args []api.Arg) rule {
	total, many := int64(0), int64(0)
	add := into(&total, whole.Add[int64])
	take := func(n int64) step {
		many++
		return add(n)
	}
	return gathering(args, take, func() api.Value {
		mean, e := whole.Quo(total, many)
		if e != api.OK {
			return fault(api.EDiv)
		}
		return number(mean)
	})
}

func least(args []api.Arg) rule {
	return extreme(args, func(a, b int64) int64 { return min(a, b) })
}

func greatest(args []api.Arg) rule {
	return extreme(args, func(a, b int64) int64 { return max(a, b) })
}

// extreme keeps of each two numbers the one that is preferred; 0, if there is none, is no number that others were held against.
func extreme(args []api.Arg, prefer func(a, b int64) int64) rule {
	best, some := int64(0), false
	take := func(n int64) step {
		if some {
			n = prefer(best, n)
		}
		best, some = n, true
		return step{}
	}
	return gathering(args, take, func() api.Value { return number(best) })
}

// sorting gathers numbers, and ends with what is told of them when they are sorted.
func sorting(through []api.Arg, tell func(sorted []int64) api.Value) rule {
	var all []int64
	take := func(n int64) step {
		all = append(all, n)
		return step{}
	}
	return gathering(through, take, func() api.Value {
		slices.Sort(all)
		return tell(all)
	})
}

func median(args []api.Arg) rule {
	return sorting(args, func(sorted []int64) api.Value {
		half := len(sorted) / 2
		switch {
		case len(sorted) == 0:
			return fault(api.ENum)
		case len(sorted)%2 == 1:
			return number(sorted[half])
		}
		return number(middle(sorted[half-1], sorted[half]))
	})
}

// middle gives the half of the sum of two numbers, what is behind the point left away. A sum that leaves 64 bits is one of numbers that have one sign, so there the half of their difference is added to the one that is nearer to 0.
func middle(lower, upper int64) int64 {
	if total, fits := whole.Add(lower, upper); fits {
		return total / 2
	}
	near, far := lower, upper
	if lower < 0 {
		near, far = upper, lower
	}
	return near + (far-near)/2
}

func large(args []api.Arg) rule {
	return ranked(args, func(sorted []int64, k int64) int64 { return sorted[int64(len(sorted))-k] })
}

func small(args []api.Arg) rule {
	return ranked(args, func(sorted []int64, k int64) int64 { return sorted[k-1] })
}

// ranked gathers the numbers of the first argument also where no k is good enough for it, since an error among them comes first.
func ranked(args []api.Arg, pick func(sorted []int64, k int64) int64) rule {
	k, bad := asNumber(args[1])
	if bad != 0 {
		return ended(fault(bad))
	}
	return sorting(args[:1], func(sorted []int64) api.Value {
		if k < 1 || k > int64(len(sorted)) {
			return fault(api.ENum)
		}
		return number(pick(sorted, k))
	})
}
