package fold

import "quadrille/api"

// rule is what a function does, by closures over what it has gathered so far.
type rule struct {
	through []api.Arg                  // what it goes through
	given   func(v api.Value) step     // what it does with a value that is given
	cell    func(v api.Value) step     // what it does with a cell's value
	beside  func(at api.Spot) api.Spot // which place it wants beside one that was walked
	second  func(v api.Value) step     // what it does with the value of that
	last    func() api.Value           // what it ends with, if all has been gone through
}

// step is what a value leads to: to what comes next (the zero step), to the place beside, or to the end.
type step struct {
	beside bool
	ends   bool
	end    api.Value
}

func endWith(v api.Value) step { return step{ends: true, end: v} }

// ended is the rule of a function that goes through nothing.
func ended(v api.Value) rule {
	return rule{last: func() api.Value { return v }}
}

// rows gives what makes each function's rule of its arguments, by their numbers.
func rows() [api.Functions + 1]func(args []api.Arg) rule {
	return [...]func(args []api.Arg) rule{
		api.FSum:        sum,
		api.FProduct:    product,
		api.FCount:      count,
		api.FCounta:     countFilled,
		api.FCountblank: countBlank,
		api.FMin:        least,
		api.FMax:        greatest,
		api.FAverage:    average,
		api.FMedian:     median,
		api.FLarge:      large,
		api.FSmall:      small,
		api.FAnd:        and,
		api.FOr:         or,
		api.FXor:        xor,
		api.FConcat:     concat,
		api.FJoin:       join,
		api.FMatch:      match,
		api.FVlookup:    lookDown,
		api.FHlookup:    lookAlong,
		api.FSumif:      sumIf,
		api.FCountif:    countIf,
		api.FSumproduct: sumProduct,
		api.FFirst:      first,
	}
}

func number(n int64) api.Value { return api.Value{Kind: api.VInt, Int: n} }

func text(s string) api.Value { return api.Value{Kind: api.VText, Text: s} }

func fault(e int) api.Value { return api.Value{Kind: api.VErr, Int: int64(e)} }

func truth(b bool) api.Value {
	if b {
		return api.Value{Kind: api.VBool, Int: 1}
	}
	return api.Value{Kind: api.VBool}
}
