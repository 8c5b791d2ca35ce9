package code

import (
	"slices"
	"testing"

	"quadrille/api"
)

// laid gives code that lays items by their letters (V, A; E by the constant 0), and does something with them.
func laid(letters string, all ...api.Ins) []api.Ins {
	var out []api.Ins
	for _, letter := range letters {
		switch letter {
		case 'V':
			out = append(out, val)
		case 'A':
			out = append(out, box)
		case 'E':
			out = append(out, first)
		}
	}
	return append(out, all...)
}

// wrongs are constants of which the first one is an error.
func wrongs() []api.Value { return consts(bad(api.ERef), num(1)) }

// combinations gives all texts of so many letters of V, A and E.
func combinations(many int) []string {
	out := []string{""}
	for range many {
		var longer []string
		for _, s := range out {
			longer = append(longer, s+"V", s+"A", s+"E")
		}
		out = longer
	}
	return out
}

// fitsIn tells whether known items fit where others are asked for; x asks for any.
func fitsIn(asked, known string) bool {
	if len(asked) > len(known) {
		return false
	}
	known = known[len(known)-len(asked):]
	for i := range len(asked) {
		if asked[i] != 'x' && known[i] != 'E' && known[i] != asked[i] {
			return false
		}
	}
	return true
}

// TestWhatIsTakenAndLeft has each instruction behind all stacks of at most four items. What it leaves is seen by what takes it: the rest is walked over, so that one value is left.
func TestWhatIsTakenAndLeft(t *testing.T) {
	for _, c := range []struct {
		name   string
		in     api.Ins
		takes  string
		leaves string
	}{
		{"a number", do(api.IConst, 1), "", "V"}, {"an error", first, "", "E"}, {"a fetch", val, "", "V"}, {"an area", box, "", "A"},
		{"un", minus, "V", "V"}, {"bin", plus, "VV", "V"}, {"NA", do(api.ICall, api.FNa, 0), "", "V"}, {"ABS", do(api.ICall, api.FAbs, 1), "V", "V"},
		{"MOD", do(api.ICall, api.FMod, 2), "VV", "V"}, {"MID", do(api.ICall, api.FMid, 3), "VVV", "V"}, {"REPLACE", do(api.ICall, api.FReplace, 4), "VVVV", "V"},
		{"ISNA", do(api.ICall, api.FIsna, 1), "V", "V"}, {"drop", drop, "V", ""}, {"here", do(api.IHere, api.FRow), "", "V"},
		{"place", do(api.IPlace, api.FRow), "A", "V"}, {"one", one, "A", "V"}, {"indirect", do(api.IIndirect), "V", "A"},
		{"offset 2", do(api.IOffset, 2), "AVV", "A"}, {"offset 3", do(api.IOffset, 3), "AVVV", "A"}, {"index 1", do(api.IIndex, 1), "AV", "A"}, {"index 2", do(api.IIndex, 2), "AVV", "A"},
		{"SUM of 1", sum(1), "x", "V"}, {"SUM of 2", sum(2), "xx", "V"}, {"JOIN of 3", do(api.IWalk, api.FJoin, 3), "xxx", "V"}, {"SUM of 4", sum(4), "xxxx", "V"},
	} {
		for many := range 5 {
			for _, known := range combinations(many) {
				fits := fitsIn(c.takes, known)
				lies := known
				if fits {
					lies = known[:len(known)-len(c.takes)] + c.leaves
				}
				lookAtTop(t, c.name+" behind "+known, of(wrongs(), laid(known, c.in)...), fits, lies)
			}
		}
	}
}

// lookAtTop holds code against the items that lie behind it: how many, and what the top one is. What may be goes on with what fits alone.
func lookAtTop(t *testing.T, what string, p api.Code, fits bool, lies string) {
	t.Helper()
	with := func(all ...api.Ins) api.Code {
		q := p
		q.Ins = slices.Concat(p.Ins, all)
		return q
	}
	check := func(q api.Code, may bool) {
		t.Helper()
		if may && fits {
			good(t, what, q)
		} else {
			wrongBoth(t, what, q, api.ErrCode)
		}
	}
	check(with(), lies == "V" || lies == "E")
	for n := 1; n <= 6; n++ {
		check(with(sum(n)), n == len(lies))
	}
	if len(lies) > 0 {
		top, rest := lies[len(lies)-1:], len(lies)
		check(with(minus, sum(rest)), top != "A")
		check(with(one, sum(rest)), top != "V")
	}
}

// TestErrLeads has jumps of errors behind all stacks, with all counts of items below.
func TestErrLeads(t *testing.T) {
	for many := range 5 {
		for _, known := range combinations(many) {
			for b := range 6 {
				at := len(known)
				fits := b+1 <= len(known)
				// What lies at the next one is walked over, and is one value at the end, where the jump goes, too.
				p := of(wrongs(), laid(known, onErr(at+2, b), sum(max(at, 1)))...)
				if fits && b+1 == len(known) {
					good(t, "err behind "+known, p)
				} else {
					wrongBoth(t, "err behind "+known, p, api.ErrCode)
				}
				// Below what it takes all stays: at the jump's place the rest and the error are walked over.
				p = of(wrongs(), laid(known, onErr(at+2, b), sum(b+1), sum(max(at-b, 1)))...)
				if fits {
					good(t, "err behind "+known, p)
				} else {
					wrongBoth(t, "err behind "+known, p, api.ErrCode)
				}
			}
			for _, b := range []int{-1, low, low + 1, high, high - 1, high - 2, high - many, 1 << 32, 1<<32 - 1, 1 << 62} {
				at := len(known)
				wrongBoth(t, "err behind "+known, of(wrongs(), laid(known, onErr(at+1, b), sum(max(at, 1)))...), api.ErrCode)
				wrongBoth(t, "err behind "+known, of(wrongs(), laid(known, onErr(at+2, b), sum(max(at, 1)))...), api.ErrCode)
			}
		}
	}
}

// TestErrLeavesAnError shows what is known of the top item on both ways.
func TestErrLeavesAnError(t *testing.T) {
	// At the jump's place an error alone comes, which fits as an area and as a value, whatever it was.
	for _, known := range []string{"V", "A", "E"} {
		for _, take := range []api.Ins{minus, one} {
			// 0 item, 1 err to 4, 2 sum, 3 jump to the end, 4 the error is taken.
			good(t, "an error of "+known, of(wrongs(), laid(known, onErr(4, 0), sum(1), jump(5), take)...))
		}
	}
	// At the next one it is what it was.
	for known, takes := range map[string][2]bool{"V": {true, false}, "A": {false, true}, "E": {true, true}} {
		for i, take := range []api.Ins{minus, one} {
			p := of(wrongs(), laid(known, onErr(3, 0), take)...)
			if takes[i] {
				good(t, "behind err of "+known, p)
			} else {
				wrongBoth(t, "behind err of "+known, p, api.ErrCode)
			}
			// Both ways lead to the next one.
			p = of(wrongs(), laid(known, onErr(2, 0), take)...)
			if takes[i] {
				good(t, "err to the next one, of "+known, p)
			} else {
				wrongBoth(t, "err to the next one, of "+known, p, api.ErrCode)
			}
		}
	}
	wrongBoth(t, "err without an item", bare(onErr(1, 0), val), api.ErrCode)
	wrongBoth(t, "err without an item", bare(onErr(2, 0), val), api.ErrCode)
	// The items below go from the jump's place alone, the lowest ones stay there.
	good(t, "an area below", bare(box, val, val, onErr(5, 1), plus, do(api.IIndex, 1), one))
	wrongBoth(t, "an area below", bare(val, val, box, onErr(5, 1), sum(2), do(api.IIndex, 1), one), api.ErrCode)
}

func TestIfLeads(t *testing.T) {
	// 0 item, 1 if A else at 4, B the end: 2 value, 3 jump to 5, 4 value.
	for known, fits := range map[string]bool{"V": true, "E": true, "A": false} {
		p := of(wrongs(), laid(known, do(api.IIf, 4, 5), val, jump(5), val)...)
		if fits {
			good(t, "if of "+known, p)
		} else {
			wrongBoth(t, "if of "+known, p, api.ErrCode)
		}
	}
	wrongBoth(t, "if of nothing", bare(do(api.IIf, 3, 4), val, jump(4), val), api.ErrCode)
	wrongBoth(t, "if, both jumps to one place", bare(val, do(api.IIf, 3, 3), val), api.ErrCode)
	wrongBoth(t, "if, the second jump to the next one", bare(val, do(api.IIf, 3, 2), val), api.ErrCode)
	good(t, "if, the first jump to the next one", bare(val, do(api.IIf, 2, 3), val))
	wrongBoth(t, "if, the first jump to the end", bare(val, do(api.IIf, 3, 3), val), api.ErrCode)
	// The error of B fits as an area.
	good(t, "an error, or an area", bare(val, do(api.IIf, 4, 5), box, jump(5), box, one))
	good(t, "an error as an area", bare(val, do(api.IIf, 4, 6), val, jump(7), val, jump(7), one))
	// The next one and A have nothing more.
	wrongBoth(t, "the value is still there", bare(val, do(api.IIf, 3, 4), jump(4), val), api.ErrCode)
	good(t, "below all stays", bare(box, val, do(api.IIf, 5, 6), val, jump(6), val, do(api.IIndex, 1), one))
}

func TestOkLeads(t *testing.T) {
	for _, b := range []int{0, 6} {
		for known, fits := range map[string]bool{"V": true, "E": true, "A": false} {
			p := of(wrongs(), laid(known, do(api.IOk, 3, b), val)...)
			if fits {
				good(t, "ok of "+known, p)
			} else {
				wrongBoth(t, "ok of "+known, p, api.ErrCode)
			}
		}
		wrongBoth(t, "ok of nothing", bare(do(api.IOk, 2, b), val), api.ErrCode)
		wrongBoth(t, "ok to the next one", bare(val, do(api.IOk, 2, b), val), api.ErrCode)
		wrongBoth(t, "ok, and an area", bare(val, do(api.IOk, 3, b), box), api.ErrCode)
		wrongBoth(t, "ok, and an area of one", bare(val, do(api.IOk, 4, b), val, minus, one), api.ErrCode)
		wrongBoth(t, "ok, and nothing in its stead", bare(val, do(api.IOk, 3, b), jump(3)), api.ErrCode)
		good(t, "ok, and an error in its stead", of(wrongs(), val, do(api.IOk, 3, b), first))
		good(t, "below all stays", bare(box, val, do(api.IOk, 4, b), val, do(api.IIndex, 1), one))
		good(t, "below an error is one still", of(wrongs(), first, first, do(api.IOk, 4, b), val, do(api.IIndex, 1), one))
	}
}

// TestOkLeavesAValue shows what is known of the item at the jump's place: a V, also of what was an error.
func TestOkLeavesAValue(t *testing.T) {
	for _, b := range []int{0, 6} {
		for _, known := range []string{"V", "E"} {
			code := func(all ...api.Ins) api.Code { return of(wrongs(), laid(known, all...)...) }
			// 0 item, 1 ok to 4, 2 value, 3 jump to the end, 4 the item is taken.
			good(t, "ok of "+known+", as a value", code(do(api.IOk, 4, b), val, jump(5), minus))
			good(t, "ok of "+known+", as any", code(do(api.IOk, 4, b), val, jump(5), sum(1)))
			wrongBoth(t, "ok of "+known+", as an area", code(do(api.IOk, 4, b), val, jump(5), one), api.ErrCode)
			// 0 item, 1 ok to 3, 2 another item, 3 what has come by both ways is taken.
			for _, take := range []api.Ins{minus, one, sum(1)} {
				wrongBoth(t, "ok of "+known+" and an area", code(do(api.IOk, 3, b), box, take), api.ErrCode)
			}
			for _, other := range []api.Ins{val, first} {
				good(t, "ok of "+known+" and another, as a value", code(do(api.IOk, 3, b), other, minus))
				wrongBoth(t, "ok of "+known+" and another, as an area", code(do(api.IOk, 3, b), other, one), api.ErrCode)
			}
			// 0 value, 1 choose 2 or 4: 2 another item, 3 jump to 7; 4 item, 5 ok to 7, 6 error; 7 what has come by all ways is taken.
			after := func(other api.Ins) api.Code {
				return of(wrongs(), laid("V", pick(8, 2, 4), other, jump(7), laid(known)[0], do(api.IOk, 7, b), first, sum(1))...)
			}
			good(t, "a value, and ok of "+known, after(val))
			good(t, "an error, and ok of "+known, after(first))
			wrongBoth(t, "an area, and ok of "+known, after(box), api.ErrCode)
		}
	}
}

func TestChooseLeads(t *testing.T) {
	for known, fits := range map[string]bool{"V": true, "E": true, "A": false} {
		p := of(wrongs(), laid(known, pick(5, 2, 4), val, jump(5), val)...)
		if fits {
			good(t, "choose of "+known, p)
		} else {
			wrongBoth(t, "choose of "+known, p, api.ErrCode)
		}
	}
	wrongBoth(t, "choose of nothing", bare(pick(2, 1), val), api.ErrCode)
	good(t, "choose of one", bare(val, pick(3, 2), val))
	good(t, "choose of one, again and again", bare(val, pick(3, 2, 2, 2, 2), val))
	good(t, "choose in another order", bare(val, pick(7, 6, 2, 4, 2), val, jump(7), val, jump(7), val))
	wrongBoth(t, "choose, no way to the next one", bare(val, pick(4, 3), val, val), api.ErrCode)
	wrongBoth(t, "choose, the value is still there", bare(val, pick(3, 3), val), api.ErrCode)
	wrongBoth(t, "choose, A is one of T", bare(val, pick(2, 2), val), api.ErrCode)
	wrongBoth(t, "choose, the end is one of T", bare(val, pick(3, 2, 3), val), api.ErrCode)
	good(t, "the error of A as an area", bare(val, pick(3, 2), box, one))
	good(t, "the error of A, alone", bare(val, pick(4, 2), val, jump(5), one))
	good(t, "the error of A at the next one", bare(val, pick(2, 3), jump(4), val))
	good(t, "below all stays", bare(box, val, pick(6, 3, 5), val, jump(6), val, do(api.IIndex, 1), one))
}

func TestMatchLeads(t *testing.T) {
	for _, known := range combinations(2) {
		// At the next one nothing is left; at 5 the lower one is, and is dropped.
		p := of(wrongs(), laid(known, do(api.IMatch, 5), val, jump(7), drop, val)...)
		if known[0] != 'A' && known[1] != 'A' {
			good(t, "match of "+known, p)
		} else {
			wrongBoth(t, "match of "+known, p, api.ErrCode)
		}
	}
	for _, known := range []string{"", "V", "E"} {
		at := len(known)
		wrongBoth(t, "match of "+known, of(wrongs(), laid(known, do(api.IMatch, at+2), val)...), api.ErrCode)
	}
	wrongBoth(t, "match to the next one", bare(val, val, do(api.IMatch, 3), val), api.ErrCode)
	wrongBoth(t, "match, both are still there", bare(val, val, do(api.IMatch, 5), val, jump(6), plus), api.ErrCode)
	wrongBoth(t, "match, the lower one is still at the next one", bare(val, val, do(api.IMatch, 4), jump(4)), api.ErrCode)
	good(t, "match, the lower one is still there", bare(val, val, do(api.IMatch, 4), val))
	// It is the lower one, not the upper one: an error is still one, a value is none.
	good(t, "match, the lower one is an error", of(wrongs(), first, val, do(api.IMatch, 4), box, one))
	wrongBoth(t, "match, the upper one is an error", of(wrongs(), val, first, do(api.IMatch, 4), box, one), api.ErrCode)
	good(t, "below all stays", bare(box, val, val, do(api.IMatch, 5), val, do(api.IIndex, 1), one))
}

func TestNoWay(t *testing.T) {
	wrongBoth(t, "behind a jump", bare(val, jump(3), minus), api.ErrCode)
	wrongBoth(t, "behind a jump to the end", bare(val, jump(4), val, plus), api.ErrCode)
	wrongBoth(t, "the first one alone jumps over the next", bare(jump(2), val, val), api.ErrCode)
	wrongBoth(t, "behind a choice", bare(val, pick(5, 3), val, val, minus), api.ErrCode)
	// A way from where no way leads is none.
	wrongBoth(t, "from where no way leads", bare(val, jump(4), val, onErr(4, 0), minus), api.ErrCode)
	good(t, "a jump into it", bare(val, onErr(3, 0), jump(4), minus))
	good(t, "jumps one behind the other", bare(jump(1), jump(2), jump(3), val, jump(5), jump(6)))
}

func TestEnds(t *testing.T) {
	for many := range 4 {
		for _, known := range combinations(many) {
			p := of(wrongs(), laid(known, do(api.IJump, many+1))...)
			if known == "V" || known == "E" {
				good(t, "an end with "+known, p)
			} else {
				wrongBoth(t, "an end with "+known, p, api.ErrCode)
			}
		}
	}
	wrongBoth(t, "an end with none", bare(val, drop), api.ErrCode)
	wrongBoth(t, "an end with two", bare(val, val), api.ErrCode)
	wrongBoth(t, "an end with an area", bare(val, do(api.IIndirect)), api.ErrCode)
	wrongBoth(t, "an end with an area, or an error", bare(box, onErr(2, 0)), api.ErrCode)
	wrongBoth(t, "an end with none, by a jump", bare(jump(1)), api.ErrCode)
}

// TestWaysThatMeet brings two items to one place, each by a way of its own, and takes what has come.
func TestWaysThatMeet(t *testing.T) {
	lay := map[string]api.Ins{"V": val, "A": box, "E": first}
	for _, pair := range combinations(2) {
		a, b := lay[pair[:1]], lay[pair[1:]]
		// 0 value, 1 choose: 3 or 5 (the error of A goes to 2, and to the end); both come to 6.
		p := of(wrongs(), val, pick(2, 3, 5), jump(7), a, jump(6), b)
		asValue := p
		asValue.Ins = slices.Concat(p.Ins, []api.Ins{minus})
		asArea := p
		asArea.Ins = slices.Concat(p.Ins, []api.Ins{one})
		any := p
		any.Ins = slices.Concat(p.Ins, []api.Ins{sum(1)})
		meets := pair != "VA" && pair != "AV"
		for _, c := range []struct {
			p   api.Code
			may bool
		}{{asValue, meets && pair[0] != 'A' && pair[1] != 'A'}, {asArea, meets && pair[0] != 'V' && pair[1] != 'V'}, {any, meets}} {
			if c.may {
				good(t, pair+" meet", c.p)
			} else {
				wrongBoth(t, pair+" meet", c.p, api.ErrCode)
			}
		}
	}
}

// TestThreeWaysMeet has an error come between two that do not fit, in every order.
func TestThreeWaysMeet(t *testing.T) {
	lay := map[byte]api.Ins{'V': val, 'A': box, 'E': first}
	for _, three := range combinations(3) {
		// 0 value, 1 choose 3, 5 or 7 (the error goes to 2, and to the end); all come to 8.
		p := of(wrongs(), val, pick(2, 3, 5, 7), jump(9), lay[three[0]], jump(8), lay[three[1]], jump(8), lay[three[2]], sum(1))
		v, a := slices.Contains([]byte(three), 'V'), slices.Contains([]byte(three), 'A')
		if v && a {
			wrongBoth(t, three+" meet", p, api.ErrCode)
		} else {
			good(t, three+" meet", p)
		}
		p.Ins[8] = minus
		if a {
			wrongBoth(t, three+" meet, as a value", p, api.ErrCode)
		} else {
			good(t, three+" meet, as a value", p)
		}
		p.Ins[8] = one
		if v {
			wrongBoth(t, three+" meet, as an area", p, api.ErrCode)
		} else {
			good(t, three+" meet, as an area", p)
		}
	}
}

// TestItemsMeetOneByOne has two items come by two ways, of which each has an error where the other one has none.
func TestItemsMeetOneByOne(t *testing.T) {
	lay := map[byte]api.Ins{'V': val, 'A': box, 'E': first}
	for _, x := range combinations(2) {
		for _, y := range combinations(2) {
			// 0 value, 1 choose 3 or 6 (the error goes to 2, and to the end); both come to 8.
			p := of(wrongs(), val, pick(2, 3, 6), jump(10), lay[x[0]], lay[x[1]], jump(8), lay[y[0]], lay[y[1]], do(api.IIndex, 1), one)
			meet := func(a, b byte) byte {
				switch {
				case a == b, b == 'E':
					return a
				case a == 'E':
					return b
				}
				return '!'
			}
			below, top := meet(x[0], y[0]), meet(x[1], y[1])
			if (below == 'A' || below == 'E') && (top == 'V' || top == 'E') {
				good(t, x+" and "+y+" meet", p)
			} else {
				wrongBoth(t, x+" and "+y+" meet", p, api.ErrCode)
			}
		}
	}
	// Two ways with unlike counts of items, the first one with more of them, and with less.
	wrongBoth(t, "more, then less", bare(val, pick(2, 3, 6), jump(8), val, val, jump(7), val, sum(2)), api.ErrCode)
	wrongBoth(t, "less, then more", bare(val, pick(2, 3, 5), jump(8), val, jump(7), val, val, sum(1)), api.ErrCode)
	wrongBoth(t, "none, then one", bare(val, pick(2, 3, 4), jump(6), jump(5), val, val), api.ErrCode)
}
