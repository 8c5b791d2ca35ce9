package code

import (
	"strings"

	"quadrille/api"
	"quadrille/area"
	"quadrille/list"
	"quadrille/spot"
)

// What is known of an item, and what a row asks for; any sort is asked for alone.
const (
	aValue  = "V"
	anArea  = "A" // or an error
	anError = "E"
	anySort = "*"
)

// Which of an instruction's numbers.
const (
	numberA = iota
	numberB
)

// all is how many items stay where all stay that were taken.
const all = api.MaxHeight

// row is what an instruction uses, what it takes, and where it leads to.
type row struct {
	name  string
	uses  int                               // how many numbers, from A on; the others are 0
	fits  func(p api.Code, in api.Ins) bool // whether those of them that are no jumps are as told; nil: there are none
	takes string                            // the items that it takes, the lowest first
	more  string                            // what it takes above these, as many times
	times int                               // as this one of its numbers says
	jumps []way                             // its first numbers are as many jumps, and what lies there
	list  bool                              // whether it jumps to each of T, too, where nothing of what it took lies
	stops bool                              // whether it leads to the next instruction by jumps alone
	next  way                               // what lies there otherwise
}

// way is what lies, above what an instruction did not take, where it leads to: so many of the items that it took, from the lowest one on, and perhaps one more.
type way struct {
	keep int
	add  string
}

// exit is a way and where it leads to.
type exit struct {
	way
	to int
}

// rows gives what the instructions use, by their Ops. IOk jumps with what it did not look for, so of an error no more is known there than that it is a value; what IMatch's jump keeps is what it was.
func rows() map[int]row {
	leaves := func(item string) way { return way{add: item} }
	return map[int]row{
		api.IConst:    {name: "const", uses: 1, fits: hasConst, next: leaves(aValue)},
		api.IFetch:    {name: "fetch", uses: 2, fits: hasPlace, next: leaves(aValue)},
		api.IArea:     {name: "area", uses: 4, fits: hasArea, next: leaves(anArea)},
		api.IUn:       {name: "un", uses: 1, fits: from(api.UMinus, api.UPercent), takes: aValue, next: leaves(aValue)},
		api.IBin:      {name: "bin", uses: 1, fits: from(api.BPow, api.BMoreEq), takes: aValue + aValue, next: leaves(aValue)},
		api.ICall:     {name: "call", uses: 2, fits: hasFunction(api.ClassScalar, api.ClassAsking), more: aValue, times: numberB, next: leaves(aValue)},
		api.IErr:      {name: "err", uses: 2, fits: hasCount, takes: anySort, more: anySort, times: numberB, jumps: []way{leaves(anError)}, next: way{keep: all}},
		api.IIf:       {name: "if", uses: 2, takes: aValue, jumps: []way{{}, leaves(anError)}},
		api.IOk:       {name: "ok", uses: 2, fits: hasZeroOrNA, takes: aValue, jumps: []way{leaves(aValue)}},
		api.IChoose:   {name: "choose", uses: 1, takes: aValue, jumps: []way{leaves(anError)}, list: true, stops: true},
		api.IMatch:    {name: "match", uses: 1, takes: aValue + aValue, jumps: []way{{keep: 1}}},
		api.IDrop:     {name: "drop", takes: aValue},
		api.IJump:     {name: "jump", uses: 1, jumps: []way{{}}, stops: true},
		api.IHere:     {name: "here", uses: 1, fits: from(api.FRow, api.FColumn), next: leaves(aValue)},
		api.IPlace:    {name: "place", uses: 1, fits: from(api.FRow, api.FColumns), takes: anArea, next: leaves(aValue)},
		api.IOne:      {name: "one", takes: anArea, next: leaves(aValue)},
		api.IIndirect: {name: "indirect", takes: aValue, next: leaves(anArea)},
		api.IOffset:   {name: "offset", uses: 1, fits: from(2, 4), takes: anArea, more: aValue, times: numberA, next: leaves(anArea)},
		api.IIndex:    {name: "index", uses: 1, fits: from(1, 2), takes: anArea, more: aValue, times: numberA, next: leaves(anArea)},
		api.IWalk:     {name: "walk", uses: 2, fits: hasFunction(api.ClassWalking, api.ClassWalking), more: anySort, times: numberB, next: leaves(aValue)},
	}
}

// numbers gives an instruction's numbers in their order.
func numbers(in api.Ins) [4]int { return [4]int{in.A, in.B, in.C, in.D} }

// describes tells whether an instruction's numbers and its T are as the row has them.
func (r row) describes(p api.Code, at int) bool {
	in := p.Ins[at]
	given := numbers(in)
	for _, n := range given[r.uses:] {
		if n != 0 {
			return false
		}
	}
	if r.list != (len(in.T) > 0) {
		return false
	}
	goAhead := func(jumps []int) bool {
		for _, to := range jumps {
			if to <= at || to > len(p.Ins) {
				return false
			}
		}
		return true
	}
	return goAhead(given[:len(r.jumps)]) && goAhead(in.T) && (r.fits == nil || r.fits(p, in))
}

// taken tells how many items an instruction takes, whose numbers are as the row has them; false: they do not lie there.
func (r row) taken(in api.Ins, items string) (int, bool) {
	asks := r.takes
	if r.more != "" {
		times := numbers(in)[r.times]
		// It may be any number, of which no list is to be made.
		if times > len(items) {
			return 0, false
		}
		asks += strings.Repeat(r.more, times)
	}
	if len(asks) > len(items) {
		return 0, false
	}
	top := items[len(items)-len(asks):]
	for i := range len(asks) {
		if ask, item := asks[i:i+1], top[i:i+1]; ask != anySort && ask != item && item != anError {
			return 0, false
		}
	}
	return len(asks), true
}

// exits gives all that an instruction leads to, whose numbers are as the row has them.
func (r row) exits(p api.Code, at int) []exit {
	in := p.Ins[at]
	var out []exit
	if !r.stops {
		out = append(out, exit{way: r.nextOf(p, in), to: at + 1})
	}
	for i, w := range r.jumps {
		out = append(out, exit{way: w, to: numbers(in)[i]})
	}
	for _, to := range in.T {
		out = append(out, exit{to: to})
	}
	return out
}

// nextOf gives what lies at the next instruction. Of a constant alone more is known than its row says: whether it is an error.
func (r row) nextOf(p api.Code, in api.Ins) way {
	if in.Op == api.IConst && p.Consts[in.A].Kind == api.VErr {
		return way{add: anError}
	}
	return r.next
}

// from gives what tells whether A is one of the numbers from low to high.
func from(low, high int) func(api.Code, api.Ins) bool {
	return func(_ api.Code, in api.Ins) bool { return low <= in.A && in.A <= high }
}

// hasFunction gives what tells whether A is a function of one of two classes, and B how many arguments it takes.
func hasFunction(class, other int) func(api.Code, api.Ins) bool {
	return func(_ api.Code, in api.Ins) bool {
		told, e := list.Info(in.A)
		if e != api.OK || told.Class != class && told.Class != other {
			return false
		}
		return in.B >= told.Min && (in.B <= told.Max || told.Max == -1)
	}
}

func hasConst(p api.Code, in api.Ins) bool { return 0 <= in.A && in.A < len(p.Consts) }

func hasPlace(_ api.Code, in api.Ins) bool { return spot.May(api.Spot{Row: in.A, Col: in.B}) }

// hasArea tells whether the numbers are an area that may be and is not too great.
func hasArea(_ api.Code, in api.Ins) bool {
	_, e := area.Size(api.Area{Top: in.A, Left: in.B, Bottom: in.C, Right: in.D})
	return e == api.OK
}

func hasCount(_ api.Code, in api.Ins) bool { return in.B >= 0 }

// hasZeroOrNA tells whether B stands for all errors, or is #N/A.
func hasZeroOrNA(_ api.Code, in api.Ins) bool { return in.B == 0 || in.B == api.ENA }
