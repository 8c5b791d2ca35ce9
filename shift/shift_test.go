package shift

import (
	"fmt"
	"math"
	"slices"
	"strings"
	"testing"

	"quadrille/api"
	"quadrille/parse"
	"quadrille/print"
	"quadrille/tree"
)

func num(n int64) api.Expr { return api.Expr{Kind: api.XInt, Int: n} }

func txt(s string) api.Expr { return api.Expr{Kind: api.XText, Text: s} }

func truth(n int64) api.Expr { return api.Expr{Kind: api.XBool, Int: n} }

func bad(n int64) api.Expr { return api.Expr{Kind: api.XErr, Int: n} }

func place(row, col int) api.Ref { return api.Ref{Row: row, Col: col} }

func ref(r api.Ref) api.Expr { return api.Expr{Kind: api.XRef, Ref: r} }

func span(from, to api.Ref) api.Expr { return api.Expr{Kind: api.XRange, Ref: from, To: to} }

func un(op int, kids ...api.Expr) api.Expr { return api.Expr{Kind: api.XUn, Op: op, Kids: kids} }

func minus(kid api.Expr) api.Expr { return un(api.UMinus, kid) }

func bin(op int, kids ...api.Expr) api.Expr { return api.Expr{Kind: api.XBin, Op: op, Kids: kids} }

func fun(f int, kids ...api.Expr) api.Expr {
	return api.Expr{Kind: api.XCall, Fun: f, Kids: kids}
}

// ones gives a list of so many numbers.
func ones(n int) []api.Expr { return slices.Repeat([]api.Expr{num(1)}, n) }

// times writes a text so many times.
func times(n int, s string) string { return strings.Repeat(s, n) }

// around lays a node of one kid around a tree, so many times.
func around(n int, lay func(api.Expr) api.Expr, t api.Expr) api.Expr {
	for range n {
		t = lay(t)
	}
	return t
}

// spell writes all that a tree has, so that two have one text just if they are the same.
func spell(t api.Expr) string {
	b := strings.Builder{}
	var write func(n api.Expr)
	write = func(n api.Expr) {
		fmt.Fprintf(&b, "(%d %d %d %q %v %v %d", n.Kind, n.Op, n.Int, n.Text, n.Ref, n.To, n.Fun)
		for _, kid := range n.Kids {
			write(kid)
		}
		b.WriteString(")")
	}
	write(t)
	return b.String()
}

// isSame tells whether two trees are the same in all that they have.
func isSame(a, b api.Expr) bool {
	return a.Kind == b.Kind && a.Op == b.Op && a.Int == b.Int && a.Text == b.Text && a.Ref == b.Ref && a.To == b.To && a.Fun == b.Fun && slices.EqualFunc(a.Kids, b.Kids, isSame)
}

// brief writes a text without the most of a long one.
func brief(s string) string {
	if len(s) <= 200 {
		return fmt.Sprintf("%q", s)
	}
	return fmt.Sprintf("%q.. of %d bytes", s[:200], len(s))
}

// read reads a formula that the test knows to be one.
func read(t *testing.T, s string) api.Expr {
	t.Helper()
	x, _, e := parse.Formula(s)
	if e != api.OK {
		t.Fatalf("the test's own fault: %q is no formula: %d", s, e)
	}
	return x
}

// written gives the text of a tree, or all that it has, if it has none.
func written(x api.Expr) string {
	s, e := print.Formula(x)
	if e != api.OK {
		return spell(x)
	}
	return s
}

// change is one of the three calls, with its numbers.
type change struct {
	name string
	call func(t api.Expr, a, b int64) (api.Expr, api.Errno)
	a, b int64
}

func (c change) String() string { return fmt.Sprintf("%s by %d, %d", c.name, c.a, c.b) }

func (c change) of(t api.Expr) (api.Expr, api.Errno) { return c.call(t, c.a, c.b) }

func paste(dr, dc int64) change { return change{"P12.2: Paste", Paste, dr, dc} }

func rows(at, n int64) change {
	if n < 0 {
		return change{"P12.4: Rows", Rows, at, n}
	}
	return change{"P12.3: Rows", Rows, at, n}
}

func cols(at, n int64) change { return change{"P12.5: Cols", Cols, at, n} }

// check holds what a change makes of a tree against what is wanted.
func check(t *testing.T, c change, x, want api.Expr) {
	t.Helper()
	got, e := c.of(x)
	if e != api.OK || !isSame(got, want) {
		t.Errorf("%s: %s becomes %s, %d, not %s", c, brief(written(x)), brief(written(got)), e, brief(written(want)))
		return
	}
	if may := tree.May(got); may != api.OK {
		t.Errorf("%s: what %s becomes may not be: %d", c, brief(written(x)), may)
	}
}

// checkText likewise of a tree that is written as a formula, alone and within other nodes.
func checkText(t *testing.T, c change, s, want string) {
	t.Helper()
	x, y := read(t, s), read(t, want)
	check(t, c, x, y)
	for _, lay := range slots() {
		check(t, c, lay(x), lay(y))
	}
}

// checkRefused holds a call against the error that is wanted of it, and its tree against the zero one.
func checkRefused(t *testing.T, c change, x api.Expr, want api.Errno) {
	t.Helper()
	got, e := c.of(x)
	if e != want || spell(got) != spell(api.Expr{}) || got.Kids != nil {
		t.Errorf("P12.1: %s gives %s, %d, not the zero tree, %d", c, brief(spell(got)), e, want)
	}
}

// slots gives nodes that are laid around a kid, of every kind that has kids, and with the kid at each place.
func slots() []func(api.Expr) api.Expr {
	all := []func(api.Expr) api.Expr{
		minus,
		func(k api.Expr) api.Expr { return un(api.UPlus, k) },
		func(k api.Expr) api.Expr { return un(api.UPercent, k) },
		func(k api.Expr) api.Expr { return fun(api.FAbs, k) },
		func(k api.Expr) api.Expr { return fun(api.FSum, k, num(8)) },
		func(k api.Expr) api.Expr { return fun(api.FSum, txt("A1"), k, truth(1)) },
		func(k api.Expr) api.Expr { return fun(api.FIf, k, k, k) },
		func(k api.Expr) api.Expr { return fun(api.FIndirect, bin(api.BJoin, txt("B"), minus(k))) },
		func(k api.Expr) api.Expr { return fun(api.FOffset, k, num(1), k, fun(api.FNa), bad(api.EDiv)) },
	}
	for op := api.BPow; op <= api.BMoreEq; op++ {
		all = append(all,
			func(k api.Expr) api.Expr { return bin(op, k, num(8)) },
			func(k api.Expr) api.Expr { return bin(op, bad(api.ERef), k) },
			func(k api.Expr) api.Expr { return bin(op, k, k) })
	}
	return all
}

func TestDocumentExamples(t *testing.T) {
	checkText(t, paste(1, 1), "=A1+$B2+C$3+$D$4", "=B2+$B3+D$3+$D$4")
	checkText(t, paste(-1, 0), "=A1+SUM(B2:C3)", "=#REF!+SUM(B1:C2)")
	checkText(t, paste(0, -1), "=SUM(A1:$B$2)", "=SUM(#REF!)")
	checkText(t, paste(math.MaxInt64, math.MinInt64), "=$A$1", "=$A$1")
	checkText(t, rows(4, 2), "=A1+A5+$A$5+SUM(A3:A9)", "=A1+A7+$A$7+SUM(A3:A11)")
	checkText(t, rows(0, 1), "=A65536", "=#REF!")
	checkText(t, rows(4, -2), "=A1+A5+A9+SUM(A3:A9)+SUM(A9:A5)+SUM(A5:A6)", "=A1+#REF!+A7+SUM(A3:A7)+SUM(A7:A5)+SUM(#REF!)")
	checkText(t, rows(3, -9), "=SUM(A3:A5)", "=SUM(A3:A3)")
	checkText(t, cols(1, -1), "=$B$1+SUM(A1:C1)", "=#REF!+SUM(A1:B1)")
	checkRefused(t, rows(65536, 1), read(t, "=A1"), api.ErrArg)
	checkRefused(t, cols(-1, 1), read(t, "=A1"), api.ErrArg)
}

func TestPasteMovesWhatIsNotPinned(t *testing.T) {
	for _, c := range []struct {
		dr, dc  int64
		s, want string
	}{
		{0, 0, "=C3+$C3+C$3+$C$3+SUM(C3:D4)", "=C3+$C3+C$3+$C$3+SUM(C3:D4)"},
		{1, 0, "=C3+$C3+C$3+$C$3", "=C4+$C4+C$3+$C$3"},
		{-1, 0, "=C3+$C3+C$3+$C$3", "=C2+$C2+C$3+$C$3"},
		{0, 1, "=C3+$C3+C$3+$C$3", "=D3+$C3+D$3+$C$3"},
		{0, -1, "=C3+$C3+C$3+$C$3", "=B3+$C3+B$3+$C$3"},
		{2, -2, "=C3+$C3+C$3+$C$3", "=A5+$C5+A$3+$C$3"},
		{-2, 2, "=C3+$C3+C$3+$C$3", "=E1+$C1+E$3+$C$3"},
		{-3, 0, "=C3+$C3+C$3+$C$3", "=#REF!+#REF!+C$3+$C$3"},
		{0, -3, "=C3+$C3+C$3+$C$3", "=#REF!+$C3+#REF!+$C$3"},
		{-3, -3, "=C3+$C3+C$3+$C$3", "=#REF!+#REF!+#REF!+$C$3"},
		{1, 24, "=C3", "=AA4"},
		{100, 100, "=C3", "=CY103"},
		{1, 1, "=SUM(C3:B2)", "=SUM(D4:C3)"},
		{1, 1, "=SUM(B3:C2)", "=SUM(C4:D3)"},
		{1, 1, "=SUM($C3:B$2)", "=SUM($C4:C$2)"},
		{1, 1, "=SUM($B$3:$C$2)", "=SUM($B$3:$C$2)"},
		{1, 1, "=SUM(A1:$B$2)", "=SUM(B2:$B$2)"},
		{5, 5, "=SUM(A1:$B$2)", "=SUM(F6:$B$2)"},
		{5, 5, `=1+"A1"&TRUE`, `=1+"A1"&TRUE`},
		{5, 5, `=INDIRECT("A1")&#N/A`, `=INDIRECT("A1")&#N/A`},
		{1, 1, "=IF(A1,B2,SUM(C3,-D4%,E5^F6))", "=IF(B2,C3,SUM(D4,-E5%,F6^G7))"},
		{0, -1, "=IF(A1,B2,SUM(A3,-D4%,E5^A6))", "=IF(#REF!,A2,SUM(#REF!,-C4%,D5^#REF!))"},
	} {
		checkText(t, paste(c.dr, c.dc), c.s, c.want)
	}
}

func TestRowsThatArePutIn(t *testing.T) {
	for _, c := range []struct {
		at, n   int64
		s, want string
	}{
		{4, 0, "=A1+A5+A6+$A$5+SUM(A3:A9)", "=A1+A5+A6+$A$5+SUM(A3:A9)"},
		{4, 1, "=A4+A5+A6", "=A4+A6+A7"},
		{0, 1, "=A1+$A1+A$1+$A$1", "=A2+$A2+A$2+$A$2"},
		{4, 3, "=C4+$C4+C$4+$C$4", "=C4+$C4+C$4+$C$4"},
		{3, 3, "=C4+$C4+C$4+$C$4", "=C7+$C7+C$7+$C$7"},
		{2, 3, "=C4+$C4+C$4+$C$4", "=C7+$C7+C$7+$C$7"},
		{3, 2, "=SUM(A3:A4)+SUM(A4:A3)", "=SUM(A3:A6)+SUM(A6:A3)"},
		{2, 2, "=SUM(A3:A4)+SUM(A4:A3)", "=SUM(A5:A6)+SUM(A6:A5)"},
		{4, 2, "=SUM(A3:A4)+SUM(A4:A3)", "=SUM(A3:A4)+SUM(A4:A3)"},
		{3, 2, "=SUM($B3:A$9)", "=SUM($B3:A$11)"},
		{3, 2, "=SUM(B$9:$A3)", "=SUM(B$11:$A3)"},
		{3, 2, "=IF(B9,SUM(D4:A1),-B3)", "=IF(B11,SUM(D6:A1),-B3)"},
	} {
		checkText(t, rows(c.at, c.n), c.s, c.want)
	}
}

func TestRowsThatAreTakenOut(t *testing.T) {
	for _, c := range []struct {
		at, n   int64
		s, want string
	}{
		{4, -1, "=A4+A5+A6", "=A4+#REF!+A5"},
		{4, -1, "=$A$4+$A$5+$A$6", "=$A$4+#REF!+$A$5"},
		{4, -3, "=A4+A5+A6+A7+A8", "=A4+#REF!+#REF!+#REF!+A5"},
		{0, -1, "=A1+$A1+A$1+$A$1", "=#REF!+#REF!+#REF!+#REF!"},
		{0, -1, "=A2+$A2+A$2+$A$2", "=A1+$A1+A$1+$A$1"},
		// Ahead of a range, behind it, within it, over it.
		{0, -2, "=SUM(A3:A5)+SUM(A5:A3)", "=SUM(A1:A3)+SUM(A3:A1)"},
		{5, -2, "=SUM(A3:A5)+SUM(A5:A3)", "=SUM(A3:A5)+SUM(A5:A3)"},
		{3, -1, "=SUM(A3:A5)+SUM(A5:A3)", "=SUM(A3:A4)+SUM(A4:A3)"},
		{2, -3, "=SUM(A3:A5)+SUM(A5:A3)", "=SUM(#REF!)+SUM(#REF!)"},
		{1, -9, "=SUM(A3:A5)+SUM(A5:A3)", "=SUM(#REF!)+SUM(#REF!)"},
		// Over one corner.
		{2, -1, "=SUM(A3:A5)+SUM(A5:A3)", "=SUM(A3:A4)+SUM(A4:A3)"},
		{2, -2, "=SUM(A3:A5)+SUM(A5:A3)", "=SUM(A3:A3)+SUM(A3:A3)"},
		{1, -2, "=SUM(A3:A5)+SUM(A5:A3)", "=SUM(A2:A3)+SUM(A3:A2)"},
		{0, -4, "=SUM(A3:A5)+SUM(A5:A3)", "=SUM(A1:A1)+SUM(A1:A1)"},
		{4, -1, "=SUM(A3:A5)+SUM(A5:A3)", "=SUM(A3:A4)+SUM(A4:A3)"},
		{3, -2, "=SUM(A3:A5)+SUM(A5:A3)", "=SUM(A3:A3)+SUM(A3:A3)"},
		{4, -5, "=SUM(A3:A5)+SUM(A5:A3)", "=SUM(A3:A4)+SUM(A4:A3)"},
		{3, -5, "=SUM(A3:A5)+SUM(A5:A3)", "=SUM(A3:A3)+SUM(A3:A3)"},
		// Both corners in one row.
		{2, -1, "=SUM(A3:C3)", "=SUM(#REF!)"},
		{1, -1, "=SUM(A3:C3)", "=SUM(A2:C2)"},
		{3, -1, "=SUM(A3:C3)", "=SUM(A3:C3)"},
		// Pins, and columns, are as they were.
		{4, -2, "=SUM($A3:B$5)+SUM(C$6:$D9)", "=SUM($A3:B$4)+SUM(C$5:$D7)"},
		{4, -2, "=SUM($A$3:$B$9)+SUM(B$9:$A3)", "=SUM($A$3:$B$7)+SUM(B$7:$A3)"},
		{4, -2, "=IF(B9,SUM(D5:A1),-B6)", "=IF(B7,SUM(D4:A1),-#REF!)"},
	} {
		checkText(t, rows(c.at, c.n), c.s, c.want)
	}
}

func TestColumns(t *testing.T) {
	for _, c := range []struct {
		at, n   int64
		s, want string
	}{
		{4, 0, "=A1+E1+F1+$E$1+SUM(C1:I1)", "=A1+E1+F1+$E$1+SUM(C1:I1)"},
		{4, 1, "=D1+E1+F1", "=D1+F1+G1"},
		{1, 2, "=A1+B1+ZZ1", "=A1+D1+#REF!"},
		{0, 1, "=A1+$A1+A$1+$A$1", "=B1+$B1+B$1+$B$1"},
		{0, 1, "=SUM($C1:B$1)", "=SUM($D1:C$1)"},
		{3, 2, "=SUM(C1:D1)+SUM(D1:C1)", "=SUM(C1:F1)+SUM(F1:C1)"},
		{26, 1, "=Z1+AA1", "=Z1+AB1"},
		{4, -1, "=D1+E1+F1", "=D1+#REF!+E1"},
		{4, -2, "=A1+E1+I1+SUM(C1:I1)+SUM(I1:E1)+SUM(E1:F1)", "=A1+#REF!+G1+SUM(C1:G1)+SUM(G1:E1)+SUM(#REF!)"},
		{3, -9, "=SUM(C1:E1)+SUM(E1:C1)", "=SUM(C1:C1)+SUM(C1:C1)"},
		{0, -4, "=SUM(C1:I1)+SUM(I1:C1)", "=SUM(A1:E1)+SUM(E1:A1)"},
		{2, -1, "=SUM(C1:C9)", "=SUM(#REF!)"},
		{4, -2, "=SUM(C$1:$E2)+SUM($F3:I$4)", "=SUM(C$1:$D2)+SUM($E3:G$4)"},
		{2, -1, "=IF(I2,SUM(C4:A1),-C9)", "=IF(H2,SUM(B4:A1),-#REF!)"},
	} {
		checkText(t, cols(c.at, c.n), c.s, c.want)
	}
}
