package print

import (
	"math"
	"slices"
	"strings"
	"testing"
	"time"

	"quadrille/api"
)

// within fails the test if the work goes on for far longer than it can.
func within(t *testing.T, what string, work func()) {
	t.Helper()
	done := make(chan struct{})
	go func() {
		defer close(done)
		work()
	}()
	select {
	case <-done:
	case <-time.After(20 * time.Second):
		t.Fatalf("P0.1: %s is not done", what)
	}
}

// wrongs gives nodes that are not as told by what their kind has.
func wrongs() []api.Expr {
	all := []api.Expr{
		num(-1), num(math.MinInt64), truth(2), truth(-1), truth(math.MaxInt64), truth(1 << 32), bad(0), bad(-1), bad(api.ECycle), bad(8), bad(1<<32 + 1), bad(math.MinInt64),
		un(api.UMinus), un(api.UPlus), un(api.UPercent), un(api.UMinus, ones(2)...), un(api.UPercent, ones(3)...), bin(api.BAdd), bin(api.BAdd, ones(1)...), bin(api.BEq, ones(3)...),
		fun(api.FSum), fun(api.FNa, num(1)), fun(api.FAbs), fun(api.FAbs, ones(2)...), fun(api.FOffset, ones(2)...), fun(api.FOffset, ones(6)...), fun(api.FSwitch, ones(2)...), fun(api.FRow, ones(2)...),
	}
	for _, op := range []int{0, -1, 4, 13, 1<<32 + 1, math.MaxInt, math.MinInt} {
		all = append(all, un(op, num(1)))
		if op != 4 {
			all = append(all, bin(op, num(1), num(2)))
		}
	}
	for _, f := range []int{0, -1, 77, 1<<32 + 54, math.MaxInt, math.MinInt} {
		all = append(all, fun(f), fun(f, num(1)), fun(f, ones(3)...))
	}
	for _, off := range []int{-1, 65536, 1 << 32, math.MaxInt, math.MinInt} {
		for _, r := range []api.Ref{{Row: off}, {Col: off, PinCol: true}, {Row: off, Col: off}} {
			all = append(all, ref(r), span(r, place(0, 0)), span(place(0, 0), r))
		}
	}
	all = append(all, ref(place(0, 702)), span(place(0, 702), place(0, 0)), span(place(0, 0), place(65535, 702)))
	for _, kind := range []int{0, -1, 10, 257, 1<<32 + 1, math.MaxInt, math.MinInt} {
		all = append(all, api.Expr{Kind: kind}, api.Expr{Kind: kind, Int: 1}, api.Expr{Kind: kind, Op: 1, Kids: ones(1)}, api.Expr{Kind: kind, Fun: 1, Kids: ones(1)}, api.Expr{Kind: kind, Text: "x"})
	}
	return all
}

// ownFields names what a kind's nodes have beside their kind.
func ownFields(kind int) string {
	return []string{"", "Int", "Text", "Int", "Int", "Ref", "Ref To", "Op Kids", "Op Kids", "Fun Kids"}[kind]
}

// withMore gives a node with one field more that its kind does not have.
func withMore(n api.Expr) []api.Expr {
	var all []api.Expr
	add := func(field string, set func(n *api.Expr)) {
		if !strings.Contains(ownFields(n.Kind), field) {
			other := n
			set(&other)
			all = append(all, other)
		}
	}
	add("Op", func(n *api.Expr) { n.Op = 1 })
	add("Op", func(n *api.Expr) { n.Op = -1 })
	add("Int", func(n *api.Expr) { n.Int = 1 })
	add("Int", func(n *api.Expr) { n.Int = math.MinInt64 })
	add("Text", func(n *api.Expr) { n.Text = "x" })
	add("Text", func(n *api.Expr) { n.Text = times(20000, "x") })
	add("Ref", func(n *api.Expr) { n.Ref.Row = 1 })
	add("Ref", func(n *api.Expr) { n.Ref.PinCol = true })
	add("To", func(n *api.Expr) { n.To.Col = 1 })
	add("To", func(n *api.Expr) { n.To.PinRow = true })
	add("Fun", func(n *api.Expr) { n.Fun = api.FSum })
	add("Kids", func(n *api.Expr) { n.Kids = ones(1) })
	return all
}

func TestTreesThatMayNotBe(t *testing.T) {
	all := wrongs()
	for _, leaf := range leaves() {
		all = append(all, withMore(leaf.tree)...)
	}
	for _, lay := range slots() {
		all = append(all, withMore(lay(leaves()[0]).tree)...)
	}
	for _, n := range all {
		checkRefused(t, n, api.ErrTree)
		for _, lay := range slices.Concat(slots(), twoSlots()) {
			checkRefused(t, lay(sample{tree: n}).tree, api.ErrTree)
		}
		checkRefused(t, around(62, minus, n), api.ErrTree)
		checkRefused(t, around(64, minus, n), api.ErrLong)
		checkRefused(t, fun(api.FSum, slices.Concat(ones(512), []api.Expr{n})...), api.ErrLong)
		checkRefused(t, fun(api.FSum, n, txt(times(16385, "x"))), api.ErrLong)
	}
}

func TestKidsThatAreNilOrEmpty(t *testing.T) {
	for _, leaf := range leaves() {
		for _, kids := range [][]api.Expr{nil, {}, make([]api.Expr, 0, 4), ones(3)[:0]} {
			n := leaf.tree
			n.Kids = kids
			checkText(t, n, "="+leaf.text)
			checkText(t, hundredth(n), "="+leaf.text+"%")
			checkText(t, fun(api.FSum, n, num(1)), "=SUM("+leaf.text+",1)")
		}
	}
}

func TestTreesOfManyNodes(t *testing.T) {
	checkText(t, fun(api.FSum, ones(511)...), "=SUM(1"+times(510, ",1")+")")
	checkRefused(t, fun(api.FSum, ones(512)...), api.ErrLong)
	both, text := num(1), "1"
	for range 8 {
		both, text = bin(api.BSub, both, both), text+"-("+text+")"
	}
	// The innermost right kids are numbers and have no brackets.
	text = "=" + strings.ReplaceAll(text, "(1)", "1")
	checkText(t, both, text)
	checkFewBrackets(t, both)
	checkText(t, hundredth(both), "=("+text[1:]+")%")
	checkRefused(t, minus(hundredth(both)), api.ErrLong)
	checkRefused(t, bin(api.BSub, both, num(1)), api.ErrLong)
	var kids []api.Expr
	for range 73 {
		kids = append(kids, fun(api.FIf, truth(1), minus(txt(`"`)), hundredth(num(7))), fun(api.FNa))
	}
	if nodes, _, _ := sizeOf(fun(api.FSum, kids...)); nodes != 512 {
		t.Fatalf("the test's own fault: %d nodes", nodes)
	}
	checkText(t, fun(api.FSum, kids...), "=SUM("+times(73, `,IF(TRUE,-"""",7%),NA()`)[1:]+")")
	checkRefused(t, minus(fun(api.FSum, kids...)), api.ErrLong)
}

func TestTreesOfDepth64(t *testing.T) {
	for _, c := range []struct {
		what         string
		lay          func(api.Expr) api.Expr
		first, again string // what stands ahead of the innermost kid, once for each node but the innermost one, and once for that
		after, last  string // likewise what stands behind it
	}{
		{"minuses", minus, "-", "-", "", ""},
		{"pluses", plus, "+", "+", "", ""},
		{"percents", hundredth, "", "", "%", "%"},
		{"calls", func(k api.Expr) api.Expr { return fun(api.FAbs, k) }, "ABS(", "ABS(", ")", ")"},
		{"calls of more", func(k api.Expr) api.Expr { return fun(api.FSum, num(2), k, num(3)) }, "SUM(2,", "SUM(2,", ",3)", ",3)"},
		{"left kids", func(k api.Expr) api.Expr { return bin(api.BPow, k, num(2)) }, "", "", "^2", "^2"},
		{"right kids", func(k api.Expr) api.Expr { return bin(api.BPow, num(2), k) }, "2^(", "2^", ")", ""},
		{"right kids of comparisons", func(k api.Expr) api.Expr { return bin(api.BNe, txt(""), k) }, `""<>(`, `""<>`, ")", ""},
	} {
		checkText(t, around(63, c.lay, num(1)), "="+times(62, c.first)+c.again+"1"+c.last+times(62, c.after))
		checkFewBrackets(t, around(63, c.lay, num(1)))
		checkRefused(t, around(64, c.lay, num(1)), api.ErrLong)
		checkRefused(t, around(65, c.lay, num(1)), api.ErrLong)
	}
}

func TestBracketsDeepestWithinOneAnother(t *testing.T) {
	sumOf := func(k api.Expr) api.Expr { return bin(api.BSub, num(1), k) }
	times2 := func(k api.Expr) api.Expr { return bin(api.BMul, sumOf(k), num(2)) }
	for _, c := range []struct {
		tree api.Expr
		want int
	}{
		{around(63, func(k api.Expr) api.Expr { return fun(api.FAbs, k) }, fun(api.FNa)), 64},
		{around(63, func(k api.Expr) api.Expr { return fun(api.FSum, k, num(1)) }, fun(api.FRow)), 64},
		{around(63, sumOf, num(1)), 62},
		{around(63, sumOf, fun(api.FNa)), 63},
		{fun(api.FAbs, around(62, sumOf, fun(api.FNa))), 63},
		{around(31, times2, fun(api.FAbs, num(1))), 32},
		{around(31, func(k api.Expr) api.Expr { return hundredth(minus(k)) }, hundredth(num(1))), 31},
		{around(31, func(k api.Expr) api.Expr { return minus(sumOf(k)) }, hundredth(num(1))), 31},
		{around(31, func(k api.Expr) api.Expr { return fun(api.FAbs, hundredth(k)) }, fun(api.FAbs, num(1))), 32},
	} {
		s, e := Formula(c.tree)
		if e != api.OK {
			t.Errorf("P11.1: Formula gives %d: %s", e, brief(spell(c.tree)))
			continue
		}
		if _, deepest := pairs(s); deepest != c.want {
			t.Errorf("P11.1: %d brackets stand within one another, not %d: %s", deepest, c.want, brief(s))
		}
		checkBack(t, c.tree, s)
		checkFewBrackets(t, c.tree)
	}
}

func TestLongTextsWithinATree(t *testing.T) {
	for _, one := range []string{"x", `"`, "\xff", "\x00", "(", "é", "\u3000", `"a`, `,"`} {
		whole := times(16384/len(one), one) + times(16384%len(one), "y")
		quoted := `"` + strings.Join(strings.Split(whole, `"`), `""`) + `"`
		checkText(t, txt(whole), "="+quoted)
		checkText(t, around(63, minus, txt(whole)), "="+times(63, "-")+quoted)
		checkText(t, bin(api.BJoin, txt(""), bin(api.BJoin, txt(whole), txt(""))), `=""&(`+quoted+`&"")`)
		checkText(t, bin(api.BJoin, txt(whole[:5000]), txt(whole[5000:])), `="`+strings.ReplaceAll(whole[:5000], `"`, `""`)+`"&"`+strings.ReplaceAll(whole[5000:], `"`, `""`)+`"`)
		checkRefused(t, txt(whole+"x"), api.ErrLong)
		checkRefused(t, bin(api.BJoin, txt(whole), txt("x")), api.ErrLong)
	}
	checkText(t, fun(api.FConcat, slices.Repeat([]api.Expr{txt(times(32, `"`))}, 511)...), `=CONCAT("`+strings.Repeat(times(64, `"`)+`","`, 510)+times(64, `"`)+`")`)
}

func TestTheLongestText(t *testing.T) {
	far := api.Ref{Row: 65535, Col: 701, PinRow: true, PinCol: true}
	kids := append(slices.Repeat([]api.Expr{span(far, far)}, 510), txt(times(16384, `"`)))
	want := "=COUNTBLANK(" + times(510, "$ZZ$65536:$ZZ$65536,") + `"` + times(32768, `"`) + `")`
	checkText(t, fun(api.FCountblank, kids...), want)
	slices.Reverse(kids)
	checkText(t, fun(api.FSum, kids...), `=SUM("`+times(32768, `"`)+`"`+times(510, ",$ZZ$65536:$ZZ$65536")+")")
	// As deep as it may be, with brackets around all that can have them.
	deep := around(62, func(k api.Expr) api.Expr { return bin(api.BNe, span(far, far), k) }, num(math.MaxInt64))
	rest := append(slices.Repeat([]api.Expr{span(far, far)}, 511-126), txt(times(16384, `"`)))
	x := fun(api.FCountblank, append(rest, deep)...)
	if nodes, depth, bytes := sizeOf(x); nodes != 512 || depth != 64 || bytes != 16384 {
		t.Fatalf("the test's own fault: %d nodes, %d deep, %d bytes", nodes, depth, bytes)
	}
	checkText(t, x, "=COUNTBLANK("+times(511-126, "$ZZ$65536:$ZZ$65536,")+`"`+times(32768, `"`)+`",`+times(61, "$ZZ$65536:$ZZ$65536<>(")+"$ZZ$65536:$ZZ$65536<>9223372036854775807"+times(61, ")")+")")
}

// ring gives a tree that holds itself as each of its kids.
func ring(n api.Expr, count int) api.Expr {
	n.Kids = make([]api.Expr, count)
	for i := range n.Kids {
		n.Kids[i] = n
	}
	return n
}

func TestTreesWithoutAnEnd(t *testing.T) {
	doubled := func(n int, x api.Expr) api.Expr {
		return around(n, func(k api.Expr) api.Expr { return bin(api.BAdd, k, k) }, x)
	}
	for what, x := range map[string]api.Expr{
		"60 times doubled":        doubled(60, num(1)),
		"1000 times doubled":      doubled(1000, num(1)),
		"doubled texts":           doubled(60, txt("")),
		"doubled wrong nodes":     doubled(60, num(-1)),
		"a ring of one":           ring(un(api.UMinus), 1),
		"a ring of two":           ring(bin(api.BAdd), 2),
		"a ring of many":          ring(fun(api.FSum), 1000),
		"a ring of no kind":       ring(api.Expr{}, 3),
		"a chain":                 around(1<<20, minus, num(1)),
		"many kids":               fun(api.FSum, ones(1<<20)...),
		"a long text":             txt(times(1<<26, `"`)),
		"a ring behind a fault":   fun(api.FSum, num(-1), ring(un(api.UPlus), 1)),
		"many kids, not as told":  un(api.UMinus, ones(1<<20)...),
		"a ring behind a text":    fun(api.FSum, txt(times(16384, "x")), ring(un(api.UPlus), 1)),
		"a ring of a kind's most": ring(api.Expr{Kind: math.MaxInt, Op: -1, Int: -1, Text: "x", Fun: -1}, 2),
	} {
		within(t, what, func() {
			for range 200 {
				checkRefused(t, x, api.ErrLong)
			}
		})
	}
	shared := doubled(8, ref(place(1, 1)))
	s, e := Formula(minus(shared))
	if e != api.OK || strings.Count(s, "B2") != 256 {
		t.Errorf("P11.1: lists that are shared: %s, %d", brief(s), e)
	}
	checkBack(t, minus(shared), s)
}
