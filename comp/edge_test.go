package comp

import (
	"fmt"
	"math"
	"slices"
	"strings"
	"testing"

	"quadrille/api"
	"quadrille/list"
	"quadrille/tree"
)

func ones(n int) []api.Expr { return slices.Repeat([]api.Expr{num(1)}, n) }

// checkConsts holds the lines of a tree's constants, and which of them are laid, one after the other, against what they should be.
func checkConsts(t *testing.T, x api.Expr, consts string, laid ...int) {
	t.Helper()
	p := checkModel(t, x)
	var lines []string
	for _, l := range strings.Split(oneLine(p), "; ") {
		if v, is := strings.CutPrefix(l, "const "); is {
			lines = append(lines, v)
		}
	}
	var got []int
	for _, in := range p.Ins {
		if in.Op == api.IConst {
			got = append(got, in.A)
		}
	}
	if all := strings.Join(lines, "; "); all != consts || !slices.Equal(got, laid) {
		t.Errorf("P17.1: %s has the constants %s and lays %v, not %s and %v", brief(spell(x)), brief(all), got, brief(consts), laid)
	}
}

// TestConstantsThatAreTheSame mentions values that are the same, by whatever nodes, and such as are only alike.
func TestConstantsThatAreTheSame(t *testing.T) {
	for _, c := range []struct {
		formula, consts string
		laid            []int
	}{
		{`=5&5`, `i 5`, []int{0, 0}},
		{`=JOIN(2,1,2,3,1)`, `i 2; i 1; i 3`, []int{0, 1, 0, 2, 1}},
		{`=JOIN(1,TRUE,"1","TRUE",#NAME?)`, `i 1; b 1; t "1"; t "TRUE"; e 1`, []int{0, 1, 2, 3, 4}},
		{`=JOIN(#NAME?,"TRUE","1",TRUE,1)`, `e 1; t "TRUE"; t "1"; b 1; i 1`, []int{0, 1, 2, 3, 4}},
		{`=JOIN(0,FALSE,"","0","FALSE",0,FALSE,"","0","FALSE")`, `i 0; b 0; t ""; t "0"; t "FALSE"`, []int{0, 1, 2, 3, 4, 0, 1, 2, 3, 4}},
		{`=JOIN("a","A","a ","a","á")`, `t "a"; t "A"; t "a "; t "\xc3\xa1"`, []int{0, 1, 2, 0, 3}},
		{`=JOIN(4,#VALUE!,"#VALUE!",-A1:B2)`, `i 4; e 4; t "#VALUE!"`, []int{0, 1, 2, 1}},
		{`=JOIN(6,#N/A,SWITCH(6,A1,B1))`, `i 6; e 6`, []int{0, 1, 0, 1}},
		{`=IF(FALSE,0)`, `b 0; i 0`, []int{0, 1, 0}},
		{`=IF(0,1)`, `i 0; i 1; b 0`, []int{0, 1, 2}},
		{`=IF(IF(1,2),IF(3,4))`, `i 1; i 2; b 0; i 3; i 4`, []int{0, 1, 2, 3, 4, 2, 2}},
		{`=SWITCH(1,2,3,4,5)`, `i 1; i 2; i 3; i 4; i 5; e 6`, []int{0, 1, 2, 3, 4, 5}},
		{`=SWITCH(3,2,1,0)`, `i 3; i 2; i 1; i 0`, []int{0, 1, 2, 3}},
		{`=SUM(A1:A9999,#REF!,3,B1:B9999)`, `e 3; i 3`, []int{0, 0, 1, 0}},
		{`=ROWS(5)+5`, `e 4; i 5`, []int{0, 1}},
		{`=ROWS(A1:B2)+ROWS("x"&7)+7`, `e 4; i 7`, []int{0, 1}},
		{`=NA()&#N/A&NA()`, `e 6`, []int{0}},
		{`=-1&1&-1`, `i 1`, []int{0, 0, 0}},
		{`=9223372036854775807+9223372036854775806`, `i 9223372036854775807; i 9223372036854775806`, []int{0, 1}},
		{`=A1+B1`, ``, nil},
	} {
		checkConsts(t, read(t, c.formula), c.consts, c.laid...)
	}
	// The same bytes in other memory are the same text; so are bytes that are no rune.
	long := times(4000, "x")
	for _, s := range []string{long, "", "\xff", "\x00"} {
		x := fun(api.FConcat, txt(s), txt(strings.Clone(s)), txt(s+"y"), txt(string([]byte(s))))
		checkConsts(t, x, "t "+quoted(s)+"; t "+quoted(s+"y"), 0, 0, 1, 0)
	}
}

// TestManyConstants mentions as many values as there can be, the last ones again.
func TestManyConstants(t *testing.T) {
	var kids []api.Expr
	var consts []string
	var laid []int
	for i := range 300 {
		kids = append(kids, num(int64(1000-i)))
		consts = append(consts, fmt.Sprint("i ", 1000-i))
		laid = append(laid, i)
	}
	for i := range 211 {
		kids = append(kids, num(int64(1000-299+i)))
		laid = append(laid, 299-i)
	}
	checkConsts(t, fun(api.FSum, kids...), strings.Join(consts, "; "), laid...)
	kids, consts, laid = nil, nil, nil
	for i := range 511 {
		kids = append(kids, txt(fmt.Sprint(i)))
		consts = append(consts, fmt.Sprintf("t \"%d\"", i))
		laid = append(laid, i)
	}
	checkConsts(t, fun(api.FSum, kids...), strings.Join(consts, "; "), laid...)
}

func TestPinsAreNoMatter(t *testing.T) {
	for pins := range 16 {
		from := api.Ref{Row: 7, Col: 3, PinRow: pins&1 != 0, PinCol: pins&2 != 0}
		to := api.Ref{Row: 2, Col: 5, PinRow: pins&4 != 0, PinCol: pins&8 != 0}
		check(t, "P17.1", ref(from), "do.fetch 7 3")
		check(t, "P17.1", fun(api.FRows, ref(from)), "do.area 7 3 7 3; do.place 49")
		check(t, "P17.1", fun(api.FSum, span(from, to), ref(to)), "do.area 2 3 7 5; do.err 5 0; do.area 2 5 2 5; do.err 5 1; do.walk 54 2")
	}
}

// TestSizesOfAreas lays areas of every form about as great as an area may be, from all four corners.
func TestSizesOfAreas(t *testing.T) {
	for _, c := range []struct{ rows, cols int }{
		{1, 1}, {1, 702}, {2, 702}, {5, 702}, {6, 702}, {4096, 1}, {4097, 1}, {2048, 2}, {2049, 2}, {64, 64}, {64, 65}, {65, 64}, {63, 65}, {65, 63}, {1365, 3}, {1366, 3}, {65536, 1}, {65536, 702}, {65535, 701}, {7, 586}, {7, 585},
	} {
		for _, first := range []api.Spot{{}, {Row: api.MaxRows - c.rows, Col: api.MaxCols - c.cols}} {
			top, left, bottom, right := first.Row, first.Col, first.Row+c.rows-1, first.Col+c.cols-1
			want := fmt.Sprintf("do.area %d %d %d %d; do.place 50", top, left, bottom, right)
			if c.rows*c.cols > 4096 {
				want = "const e 3; do.const 0; do.place 50"
			}
			for _, x := range []api.Expr{span(at(top, left), at(bottom, right)), span(at(bottom, right), at(top, left)), span(at(top, right), at(bottom, left)), span(at(bottom, left), at(top, right))} {
				check(t, "P17.1", fun(api.FColumns, x), want)
				check(t, "P17.1", x, "const e 4; do.const 0")
			}
		}
	}
}

// slot is a node with a kid at one of its places.
type slot struct {
	name string
	lay  func(kid api.Expr) api.Expr
}

// slots gives every place that a kid can have, of each kind and function, with few kids beside it.
func slots() []slot {
	var all []slot
	for op := api.UMinus; op <= api.UPercent; op++ {
		all = append(all, slot{fmt.Sprint("un ", op), func(kid api.Expr) api.Expr { return un(op, kid) }})
	}
	for op := api.BPow; op <= api.BMoreEq; op++ {
		all = append(all,
			slot{fmt.Sprint("bin ", op, " left"), func(kid api.Expr) api.Expr { return bin(op, kid, num(1)) }},
			slot{fmt.Sprint("bin ", op, " right"), func(kid api.Expr) api.Expr { return bin(op, ref(at(0, 0)), kid) }})
	}
	for f := 1; f <= api.Functions; f++ {
		told, _ := list.Info(f)
		most := told.Max
		if most < 0 {
			most = told.Min + 2
		}
		for n := max(1, told.Min); n <= most; n++ {
			for place := range n {
				all = append(all, slot{fmt.Sprint(told.Name, " ", place, " of ", n), func(kid api.Expr) api.Expr {
					kids := cols(n)
					kids[place] = kid
					return fun(f, kids...)
				}})
			}
		}
	}
	return all
}

// TestDeepTrees lays each kind of node into itself, in each of its places, 64 levels deep, or as deep as its nodes allow.
func TestDeepTrees(t *testing.T) {
	for _, s := range slots() {
		beside, _, _ := tree.Size(s.lay(num(1)))
		n := min(63, 511/(beside-1))
		for _, leaf := range []api.Expr{num(1), bad(api.ENA), ref(at(9, 9)), span(at(9, 9), at(8, 8)), span(at(0, 0), at(9999, 0))} {
			x := around(n, s.lay, leaf)
			checkModel(t, x)
			checkRefused(t, around(64, s.lay, leaf), api.ErrLong)
		}
	}
}

// TestWideTrees lays calls with as many arguments as 512 nodes allow.
func TestWideTrees(t *testing.T) {
	for f := 1; f <= api.Functions; f++ {
		told, _ := list.Info(f)
		if told.Max >= 0 {
			continue
		}
		for _, n := range []int{100, 509, 510, 511} {
			checkModel(t, fun(f, ones(n)...))
			checkModel(t, fun(f, slices.Repeat([]api.Expr{ref(at(1, 1))}, n)...))
			checkModel(t, fun(f, slices.Repeat([]api.Expr{bad(api.ENA)}, n)...))
			checkModel(t, fun(f, slices.Repeat([]api.Expr{span(at(0, 0), at(4096, 0))}, n)...))
		}
		checkModel(t, fun(f, slices.Repeat([]api.Expr{minus(ref(at(1, 1)))}, 255)...))
		checkModel(t, fun(f, slices.Repeat([]api.Expr{fun(api.FIf, num(1), num(2))}, 170)...))
		checkRefused(t, fun(f, ones(512)...), api.ErrLong)
	}
}

// wrongs gives nodes that are not as told by what their kind has.
func wrongs() []api.Expr {
	all := []api.Expr{
		num(-1), num(math.MinInt64), truth(2), truth(-1), bad(0), bad(-1), bad(api.ECycle), bad(8),
		un(api.UMinus), un(api.UMinus, ones(2)...), un(0, num(1)), un(4, num(1)), un(math.MinInt, num(1)), bin(api.BAdd), bin(api.BAdd, ones(1)...), bin(api.BEq, ones(3)...), bin(0, ones(2)...), bin(13, ones(2)...),
		fun(0), fun(-1), fun(77, num(1)), fun(math.MaxInt), fun(math.MinInt),
		{}, {Kind: -1}, {Kind: 10, Kids: ones(1)}, {Kind: math.MaxInt}, {Kind: math.MinInt}, {Kind: 1<<32 + api.XInt},
	}
	for f := 1; f <= api.Functions; f++ {
		told, _ := list.Info(f)
		if told.Min > 0 {
			all = append(all, fun(f, cols(told.Min-1)...))
		}
		if told.Max >= 0 {
			all = append(all, fun(f, cols(told.Max+1)...))
		}
	}
	for _, off := range []int{-1, 65536, 1 << 32, math.MaxInt, math.MinInt} {
		for _, r := range []api.Ref{{Row: off}, {Col: off, PinCol: true}} {
			all = append(all, ref(r), span(r, at(0, 0)), span(at(0, 0), r))
		}
	}
	all = append(all, ref(at(0, 702)), span(at(0, 0), at(65535, 702)))
	for _, good := range []api.Expr{num(1), txt("x"), truth(1), bad(api.ERef), ref(at(1, 1)), span(at(1, 1), at(2, 2)), minus(num(1)), bin(api.BAdd, ones(2)...), fun(api.FSum, num(1))} {
		for _, set := range []func(n *api.Expr){
			func(n *api.Expr) { n.Op += 20 }, func(n *api.Expr) { n.Int -= 9 }, func(n *api.Expr) { n.Fun += 90 }, func(n *api.Expr) { n.Ref.Row-- }, func(n *api.Expr) { n.Ref.Col -= 2 }, func(n *api.Expr) { n.To.Row = -1 }, func(n *api.Expr) { n.Ref.Row = 65536 },
		} {
			x := good
			set(&x)
			// A reference may be to the row ahead.
			if tree.May(x) != api.OK {
				all = append(all, x)
			}
		}
		if good.Kind != api.XText {
			good.Text = "x"
			all = append(all, good)
		}
		if good.Text = ""; len(good.Kids) == 0 && good.Kind != api.XText {
			good.Kids = ones(1)
			all = append(all, good)
		}
	}
	return all
}

// TestTreesThatMayNotBe hands in wrong nodes by themselves and at every place, also where nothing is laid of what stands there.
func TestTreesThatMayNotBe(t *testing.T) {
	for _, n := range wrongs() {
		checkRefused(t, n, api.ErrTree)
		for _, s := range slots() {
			checkRefused(t, s.lay(n), api.ErrTree)
		}
		nothingLaid := func(kid api.Expr) api.Expr { return fun(api.FRows, bin(api.BAdd, num(1), kid)) }
		checkRefused(t, nothingLaid(n), api.ErrTree)
		checkRefused(t, fun(api.FIf, truth(1), num(1), nothingLaid(n)), api.ErrTree)
		if len(n.Kids) == 0 {
			checkRefused(t, around(63, minus, n), api.ErrTree)
			checkRefused(t, around(64, minus, n), api.ErrLong)
			checkRefused(t, fun(api.FSum, append(ones(510), n)...), api.ErrTree)
			checkRefused(t, fun(api.FSum, append(ones(511), n)...), api.ErrLong)
			checkRefused(t, fun(api.FSum, n, txt(times(16385, "x"))), api.ErrLong)
		}
	}
}

func TestTreesThatAreTooGreat(t *testing.T) {
	checkRefused(t, around(64, minus, num(1)), api.ErrLong)
	checkRefused(t, fun(api.FSum, ones(512)...), api.ErrLong)
	checkRefused(t, txt(times(16385, "x")), api.ErrLong)
	checkRefused(t, bin(api.BJoin, txt(times(16384, "x")), txt("y")), api.ErrLong)
	checkRefused(t, fun(api.FRows, txt(times(16385, "x"))), api.ErrLong)
	checkRefused(t, fun(api.FRows, fun(api.FSum, ones(511)...)), api.ErrLong)
	checkRefused(t, fun(api.FRows, around(63, minus, num(1))), api.ErrLong)
	checkModel(t, around(63, minus, num(1)))
	checkModel(t, fun(api.FSum, ones(511)...))
	checkModel(t, bin(api.BJoin, txt(times(16383, "x")), txt("y")))
	checkModel(t, fun(api.FRows, fun(api.FSum, ones(510)...)))
}

func TestKidsThatAreNilOrEmpty(t *testing.T) {
	for _, leaf := range []api.Expr{num(7), txt("A1"), truth(0), bad(api.ENA), ref(at(3, 3)), span(at(3, 3), at(2, 5)), fun(api.FNa), fun(api.FRow), fun(api.FColumn)} {
		want := modelCode(leaf)
		for _, kids := range [][]api.Expr{nil, {}, make([]api.Expr, 0, 4), ones(3)[:0]} {
			leaf.Kids = kids
			check(t, "P0.4", leaf, want)
		}
	}
}

// ring gives a tree that holds itself as each of its kids.
func ring(n api.Expr, count int) api.Expr {
	n.Kids = make([]api.Expr, count)
	for i := range n.Kids {
		n.Kids[i] = n
	}
	return n
}

func TestTreesWithoutAnEnd(t *testing.T) {
	doubled := func(n int, x api.Expr) api.Expr {
		return around(n, func(k api.Expr) api.Expr { return bin(api.BAdd, k, k) }, x)
	}
	for what, x := range map[string]api.Expr{
		"60 times doubled":       doubled(60, ref(at(1, 1))),
		"1000 times doubled":     doubled(1000, ref(at(1, 1))),
		"doubled wrong nodes":    doubled(60, num(-1)),
		"a ring of one":          ring(un(api.UMinus), 1),
		"a ring of two":          ring(bin(api.BAdd), 2),
		"a ring of many":         ring(fun(api.FSum), 1000),
		"a ring of areas":        ring(fun(api.FIndex), 2),
		"a ring of no kind":      ring(api.Expr{}, 3),
		"a ring of nothing laid": fun(api.FRows, ring(fun(api.FSwitch), 7)),
		"a chain":                around(1<<20, minus, ref(at(1, 1))),
		"many kids":              fun(api.FSum, slices.Repeat([]api.Expr{ref(at(1, 1))}, 1<<20)...),
		"a long text":            txt(times(1<<26, "A")),
		"a ring behind a fault":  fun(api.FSum, num(-1), ring(un(api.UPlus), 1)),
	} {
		within(t, what, func() {
			for range 100 {
				checkRefused(t, x, api.ErrLong)
			}
		})
	}
	// As great as may be, out of lists that are shared.
	for _, x := range []api.Expr{doubled(8, ref(at(1, 1))), doubled(8, num(1)), around(5, func(k api.Expr) api.Expr { return fun(api.FIf, k, k, k) }, span(at(0, 0), at(1, 1))), around(4, func(k api.Expr) api.Expr { return fun(api.FOffset, k, k, k) }, ref(at(4, 4)))} {
		within(t, "shared lists", func() { checkModel(t, x) })
	}
}
