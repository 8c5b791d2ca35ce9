package shift

import (
	"math"
	"slices"
	"testing"
	"time"

	"quadrille/api"
	"quadrille/tree"
)

// within fails the test if the work goes on for far longer than it can.
func within(t *testing.T, what string, work func()) {
	t.Helper()
	done := make(chan struct{})
	go func() {
		defer close(done)
		work()
	}()
	select {
	case <-done:
	case <-time.After(20 * time.Second):
		t.Fatalf("P0.1: %s is not done", what)
	}
}

// offRows gives numbers that are no row, offCols such as are no column.
func offRows() []int64 {
	return []int64{-1, -2, -65536, 65536, 65537, 1 << 31, 1 << 32, 1<<32 + 1, 1 << 48, -1 << 32, math.MaxInt64 - 1, math.MaxInt64, math.MinInt64, math.MinInt64 + 1}
}

func offCols() []int64 { return append(offRows(), 702, 703, 65535) }

func TestWhereThereIsNoRowAndNoColumn(t *testing.T) {
	steps := []int64{0, 1, -1, 2, -65536, math.MaxInt64, math.MinInt64}
	for _, s := range []string{"=1", "=A1", "=ZZ65536", "=SUM(A1:$B$2)", "=#REF!"} {
		x := read(t, s)
		for _, n := range steps {
			for _, at := range offRows() {
				checkRefused(t, rows(at, n), x, api.ErrArg)
			}
			for _, at := range offCols() {
				checkRefused(t, cols(at, n), x, api.ErrArg)
			}
		}
	}
	for _, at := range []int64{0, 1, 701, 702, 65534, 65535} {
		check(t, rows(at, 1), num(1), num(1))
		check(t, rows(at, -1), num(1), num(1))
	}
	for _, at := range []int64{0, 1, 700, 701} {
		check(t, cols(at, 1), num(1), num(1))
		check(t, cols(at, -1), num(1), num(1))
	}
}

// manyChanges gives changes of each of the three calls, some of them at no row and no column.
func manyChanges() []change {
	all := []change{paste(0, 0), paste(1, -1), paste(math.MaxInt64, math.MinInt64), rows(0, 0), rows(3, 2), rows(3, -2), rows(65535, math.MinInt64), cols(0, 0), cols(3, 2), cols(3, -2), cols(701, math.MaxInt64)}
	for _, at := range []int64{-1, 65536, math.MaxInt64, math.MinInt64} {
		all = append(all, rows(at, 1), cols(at, -1))
	}
	return append(all, cols(702, 0))
}

// wrongs gives nodes that are not as told by what their kind has.
func wrongs() []api.Expr {
	all := []api.Expr{
		num(-1), num(math.MinInt64), truth(2), truth(-1), bad(0), bad(-1), bad(api.ECycle), bad(8), bad(math.MinInt64),
		un(api.UMinus), un(api.UMinus, ones(2)...), un(0, num(1)), un(4, num(1)), un(math.MinInt, num(1)), bin(api.BAdd), bin(api.BAdd, ones(1)...), bin(api.BEq, ones(3)...), bin(0, ones(2)...), bin(13, ones(2)...), bin(math.MaxInt, ones(2)...),
		fun(api.FSum), fun(api.FNa, num(1)), fun(api.FAbs), fun(api.FAbs, ones(2)...), fun(api.FOffset, ones(2)...), fun(api.FOffset, ones(6)...), fun(0), fun(-1), fun(77, num(1)), fun(math.MaxInt), fun(math.MinInt),
		ref(place(0, 702)), span(place(0, 702), place(0, 0)), span(place(0, 0), place(65535, 702)),
	}
	for _, off := range []int{-1, 65536, 1 << 32, math.MaxInt, math.MinInt} {
		for _, r := range []api.Ref{{Row: off}, {Col: off, PinCol: true}, {Row: off, Col: off, PinRow: true}} {
			all = append(all, ref(r), span(r, place(0, 0)), span(place(0, 0), r))
		}
	}
	for _, kind := range []int{0, -1, 10, 257, 1<<32 + 5, math.MaxInt, math.MinInt} {
		all = append(all, api.Expr{Kind: kind}, api.Expr{Kind: kind, Ref: place(1, 1)}, api.Expr{Kind: kind, Op: 1, Kids: ones(1)})
	}
	one, two := ref(place(5, 5)), span(place(5, 5), place(6, 6))
	for _, set := range []func(n *api.Expr){
		func(n *api.Expr) { n.Op = 1 }, func(n *api.Expr) { n.Int = -1 }, func(n *api.Expr) { n.Int = api.ERef }, func(n *api.Expr) { n.Text = "x" }, func(n *api.Expr) { n.Fun = api.FSum }, func(n *api.Expr) { n.Kids = ones(1) },
	} {
		a, b := one, two
		set(&a)
		set(&b)
		all = append(all, a, b)
	}
	withTo, withRef, refs := one, num(1), minus(num(1))
	withTo.To.PinRow, withRef.Ref.Col, refs.To.Row = true, 1, 1
	return append(all, withTo, withRef, refs)
}

func TestTreesThatMayNotBe(t *testing.T) {
	for _, n := range wrongs() {
		trees := map[api.Errno][]api.Expr{
			api.ErrTree: {n, around(62, minus, n), fun(api.FSum, ref(place(0, 0)), n), fun(api.FIf, n, span(place(9, 9), place(0, 0)), n)},
			api.ErrLong: {around(64, minus, n), fun(api.FSum, append(ones(512), n)...), fun(api.FSum, n, txt(times(16385, "x")))},
		}
		for want, some := range trees {
			for _, x := range some {
				if may := tree.May(x); may != want {
					t.Fatalf("the test's own fault: tree.May gives %d, not %d: %s", may, want, brief(spell(x)))
				}
				for _, c := range manyChanges() {
					checkRefused(t, c, x, want)
				}
			}
		}
	}
}

func TestKidsThatAreNilOrEmpty(t *testing.T) {
	for _, leaf := range []api.Expr{num(7), txt("A1"), truth(0), bad(api.ENA), ref(place(3, 3)), span(place(3, 3), place(2, 5)), fun(api.FNa), fun(api.FRow)} {
		for _, kids := range [][]api.Expr{nil, {}, make([]api.Expr, 0, 4), ones(3)[:0]} {
			x := leaf
			x.Kids = kids
			check(t, paste(1, -1), x, modelPaste(leaf, 1, -1))
			check(t, rows(3, 2), x, modelRows(leaf, layoutOf(65536, 3, 2)))
			check(t, cols(4, -1), minus(x), minus(modelCols(leaf, layoutOf(702, 4, -1))))
		}
	}
}

func TestPasteAtTheEndsOfTheGrid(t *testing.T) {
	const most, least = math.MaxInt64, math.MinInt64
	for _, c := range []struct {
		dr, dc  int64
		s, want string
	}{
		{65535, 701, "=A1", "=ZZ65536"},
		{-65535, -701, "=ZZ65536", "=A1"},
		{65536, 0, "=A1", "=#REF!"},
		{0, 702, "=A1", "=#REF!"},
		{-65536, 0, "=ZZ65536", "=#REF!"},
		{0, -702, "=ZZ65536", "=#REF!"},
		{1, 0, "=A65535+A65536", "=A65536+#REF!"},
		{0, 1, "=ZY1+ZZ1", "=ZZ1+#REF!"},
		{-1, 0, "=A1+A2", "=#REF!+A1"},
		{0, -1, "=A1+B1", "=#REF!+A1"},
		{most, 0, "=A1+$A1+A$1+$A$1", "=#REF!+#REF!+A$1+$A$1"},
		{least, 0, "=A1+$A1+A$1+$A$1", "=#REF!+#REF!+A$1+$A$1"},
		{0, most, "=A1+$A1+A$1+$A$1", "=#REF!+$A1+#REF!+$A$1"},
		{0, least, "=A1+$A1+A$1+$A$1", "=#REF!+$A1+#REF!+$A$1"},
		{most, least, "=ZZ65536+$ZZ$65536", "=#REF!+$ZZ$65536"},
		{least, most, "=ZZ65536+$ZZ$65536", "=#REF!+$ZZ$65536"},
		{most - 65535, 0, "=A65536", "=#REF!"},
		{least + 65535, 0, "=A1", "=#REF!"},
		{1 << 32, 1 << 32, "=A1", "=#REF!"},
		{-1 << 32, -1 << 32, "=A1", "=#REF!"},
		{1<<32 + 1, 0, "=A1", "=#REF!"},
		// One corner of a range off the grid, the other one on it.
		{1, 0, "=SUM(A1:A65536)", "=SUM(#REF!)"},
		{1, 0, "=SUM(A65536:A1)", "=SUM(#REF!)"},
		{1, 0, "=SUM(A1:A$65536)", "=SUM(A2:A$65536)"},
		{1, 0, "=SUM(A$65536:A1)", "=SUM(A$65536:A2)"},
		{0, 1, "=SUM(A1:ZZ1)+SUM(ZZ1:A1)", "=SUM(#REF!)+SUM(#REF!)"},
		{0, 1, "=SUM(A1:$ZZ1)+SUM($ZZ1:A1)", "=SUM(B1:$ZZ1)+SUM($ZZ1:B1)"},
		{-1, 0, "=SUM(A1:A65536)+SUM(A65536:A1)", "=SUM(#REF!)+SUM(#REF!)"},
		{0, -1, "=SUM(B1:A2)+SUM(A2:B1)", "=SUM(#REF!)+SUM(#REF!)"},
		{least, most, "=SUM($A$1:$ZZ$65536)", "=SUM($A$1:$ZZ$65536)"},
		{least, most, "=SUM($A$1:$ZZ65536)", "=SUM(#REF!)"},
	} {
		checkText(t, paste(c.dr, c.dc), c.s, c.want)
	}
}

func TestRowsAtTheEndsOfTheGrid(t *testing.T) {
	const most, least = math.MaxInt64, math.MinInt64
	for _, c := range []struct {
		at, n   int64
		s, want string
	}{
		{65535, 1, "=A65535+A65536", "=A65535+#REF!"},
		{65535, 0, "=A65536", "=A65536"},
		{0, 65535, "=A1+A2", "=A65536+#REF!"},
		{0, 65536, "=A1", "=#REF!"},
		{0, most, "=A1+$A$1", "=#REF!+#REF!"},
		{1, most, "=A1+A2", "=A1+#REF!"},
		{1, most - 1, "=A1+A2+A65536", "=A1+#REF!+#REF!"},
		{5, 1, "=SUM(A1:A65536)+SUM(A65536:A1)", "=SUM(#REF!)+SUM(#REF!)"},
		{5, 1, "=SUM(A$1:A$65536)", "=SUM(#REF!)"},
		{5, most, "=SUM(A1:A5)+SUM(A1:A6)", "=SUM(A1:A5)+SUM(#REF!)"},
		{65535, -1, "=A65535+A65536+SUM(A1:A65536)", "=A65535+#REF!+SUM(A1:A65535)"},
		{65535, least, "=A65535+A65536+SUM(A65536:A1)", "=A65535+#REF!+SUM(A65535:A1)"},
		{0, -1, "=A1+A65536+SUM(A1:A65536)", "=#REF!+A65535+SUM(A1:A65535)"},
		{0, -65535, "=A1+A65535+A65536+SUM(A1:A65536)", "=#REF!+#REF!+A1+SUM(A1:A1)"},
		{0, -65536, "=A1+A65536+SUM(A1:A65536)", "=#REF!+#REF!+SUM(#REF!)"},
		{0, least, "=A1+A9+$A$65536+SUM(A65536:A1)", "=#REF!+#REF!+#REF!+SUM(#REF!)"},
		{0, least + 1, "=A1+A9+$A$65536", "=#REF!+#REF!+#REF!"},
		{1, least, "=A1+A2+SUM(A1:A65536)+SUM(A65536:A1)", "=A1+#REF!+SUM(A1:A1)+SUM(A1:A1)"},
		{1, -65535, "=A1+A2+SUM(A1:A65536)", "=A1+#REF!+SUM(A1:A1)"},
		{1, -65534, "=A1+A2+A65535+A65536+SUM(A2:A65536)", "=A1+#REF!+#REF!+A2+SUM(A2:A2)"},
		{65530, -100, "=A65530+A65531+A65536+SUM(A65536:A65530)", "=A65530+#REF!+#REF!+SUM(A65530:A65530)"},
	} {
		checkText(t, rows(c.at, c.n), c.s, c.want)
	}
}

func TestColumnsAtTheEndsOfTheGrid(t *testing.T) {
	const most, least = math.MaxInt64, math.MinInt64
	for _, c := range []struct {
		at, n   int64
		s, want string
	}{
		{701, 1, "=ZY1+ZZ1", "=ZY1+#REF!"},
		{701, 0, "=ZZ1", "=ZZ1"},
		{0, 701, "=A1+B1", "=ZZ1+#REF!"},
		{0, 702, "=A1", "=#REF!"},
		{0, 65535, "=A65536", "=#REF!"},
		{1, most, "=A1+B1", "=A1+#REF!"},
		{5, 1, "=SUM(A1:ZZ1)+SUM(ZZ1:A1)", "=SUM(#REF!)+SUM(#REF!)"},
		{701, -1, "=ZY1+ZZ1+SUM(A1:ZZ1)", "=ZY1+#REF!+SUM(A1:ZY1)"},
		{701, least, "=ZY1+ZZ1+SUM(ZZ1:A1)", "=ZY1+#REF!+SUM(ZY1:A1)"},
		{0, -701, "=A1+ZY1+ZZ1+SUM(A1:ZZ1)", "=#REF!+#REF!+A1+SUM(A1:A1)"},
		{0, -702, "=A1+ZZ1+SUM(A1:ZZ1)", "=#REF!+#REF!+SUM(#REF!)"},
		{0, least, "=A1+$ZZ$65536+SUM(ZZ1:A1)", "=#REF!+#REF!+SUM(#REF!)"},
		{1, least, "=A1+B1+SUM(A1:ZZ1)", "=A1+#REF!+SUM(A1:A1)"},
		{1, -701, "=A1+B1+SUM(A1:ZZ1)", "=A1+#REF!+SUM(A1:A1)"},
		{1, -700, "=A1+B1+ZZ1+SUM(B1:ZZ1)", "=A1+#REF!+B1+SUM(B1:B1)"},
	} {
		checkText(t, cols(c.at, c.n), c.s, c.want)
	}
}

// TestWhatIsNoReferenceStays takes trees in which numbers and texts look like rows and references.
func TestWhatIsNoReferenceStays(t *testing.T) {
	x := fun(api.FSum, num(0), num(5), num(65535), num(math.MaxInt64), txt(""), txt("A1"), txt("$A$1:B2"), txt("\xff\x00é"), truth(0), truth(1), fun(api.FIndirect, txt("A9")), fun(api.FNa), fun(api.FRow), un(api.UPercent, num(3)))
	for e := int64(api.EName); e <= api.ENA; e++ {
		x.Kids = append(x.Kids, bad(e))
	}
	for _, c := range []change{paste(1, 1), paste(-9, -9), paste(math.MinInt64, math.MaxInt64), rows(0, 3), rows(0, -3), rows(0, math.MaxInt64), rows(0, math.MinInt64), cols(0, 3), cols(0, -3), cols(0, math.MaxInt64), cols(0, math.MinInt64)} {
		check(t, c, x, x)
		for _, lay := range slots() {
			check(t, c, lay(x), lay(x))
		}
	}
}

func TestTreesAsGreatAsTheyMayBe(t *testing.T) {
	for _, c := range []change{paste(1, 2), rows(3, 1), cols(2, 3)} {
		moved, e := c.of(ref(place(7, 7)))
		if e != api.OK {
			t.Fatalf("%s: %d", c, e)
		}
		for _, lay := range []func(api.Expr) api.Expr{
			func(k api.Expr) api.Expr { return around(63, minus, k) },
			func(k api.Expr) api.Expr { return fun(api.FSum, slices.Repeat([]api.Expr{k}, 511)...) },
			func(k api.Expr) api.Expr {
				return around(8, func(k api.Expr) api.Expr { return bin(api.BAdd, k, k) }, k)
			},
			func(k api.Expr) api.Expr { return bin(api.BJoin, txt(times(16384, "A")), k) },
			func(k api.Expr) api.Expr {
				return around(63, func(k api.Expr) api.Expr { return fun(api.FSum, ref(place(0, 0)), k, txt("A1")) }, k)
			},
		} {
			x := lay(ref(place(7, 7)))
			if tree.May(x) != api.OK {
				t.Fatalf("the test's own fault: %s may not be", brief(spell(x)))
			}
			want := modelled(x, func(r, _ api.Ref) (api.Ref, bool) {
				if r.Row == 7 {
					return moved.Ref, true
				}
				if c.name == paste(0, 0).name {
					return place(1, 2), true
				}
				return r, true
			})
			check(t, c, x, want)
			checkRefused(t, c, around(64, minus, x), api.ErrLong)
		}
	}
}

// ring gives a tree that holds itself as each of its kids.
func ring(n api.Expr, count int) api.Expr {
	n.Kids = make([]api.Expr, count)
	for i := range n.Kids {
		n.Kids[i] = n
	}
	return n
}

func TestTreesWithoutAnEnd(t *testing.T) {
	doubled := func(n int, x api.Expr) api.Expr {
		return around(n, func(k api.Expr) api.Expr { return bin(api.BAdd, k, k) }, x)
	}
	for what, x := range map[string]api.Expr{
		"60 times doubled":       doubled(60, ref(place(1, 1))),
		"1000 times doubled":     doubled(1000, ref(place(1, 1))),
		"doubled wrong nodes":    doubled(60, num(-1)),
		"a ring of one":          ring(un(api.UMinus), 1),
		"a ring of two":          ring(bin(api.BAdd), 2),
		"a ring of many":         ring(fun(api.FSum), 1000),
		"a ring of references":   ring(ref(place(1, 1)), 2),
		"a ring of ranges":       ring(span(place(1, 1), place(2, 2)), 1),
		"a ring of no kind":      ring(api.Expr{}, 3),
		"a chain":                around(1<<20, minus, ref(place(1, 1))),
		"many kids":              fun(api.FSum, slices.Repeat([]api.Expr{ref(place(1, 1))}, 1<<20)...),
		"a long text":            txt(times(1<<26, "A")),
		"a ring behind a fault":  fun(api.FSum, num(-1), ring(un(api.UPlus), 1)),
		"many kids, not as told": un(api.UMinus, ones(1<<20)...),
	} {
		within(t, what, func() {
			for range 4 {
				for _, c := range manyChanges() {
					checkRefused(t, c, x, api.ErrLong)
				}
			}
		})
	}
}
