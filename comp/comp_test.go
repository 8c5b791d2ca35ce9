package comp

import (
	"fmt"
	"slices"
	"strings"
	"testing"
	"time"

	"quadrille/api"
	"quadrille/code"
	"quadrille/list"
	"quadrille/parse"
)

// within fails the test if the work goes on for far longer than it can.
func within(t *testing.T, what string, work func()) {
	t.Helper()
	done := make(chan struct{})
	go func() {
		defer close(done)
		work()
	}()
	select {
	case <-done:
	case <-time.After(60 * time.Second):
		t.Fatalf("P0.1: %s is not done", what)
	}
}

// num, txt, truth, bad, ref, span, un, bin and fun are trees.
func num(n int64) api.Expr { return api.Expr{Kind: api.XInt, Int: n} }

func txt(s string) api.Expr { return api.Expr{Kind: api.XText, Text: s} }

func truth(n int64) api.Expr { return api.Expr{Kind: api.XBool, Int: n} }

func bad(e int64) api.Expr { return api.Expr{Kind: api.XErr, Int: e} }

func at(row, col int) api.Ref { return api.Ref{Row: row, Col: col} }

func ref(r api.Ref) api.Expr { return api.Expr{Kind: api.XRef, Ref: r} }

func span(from, to api.Ref) api.Expr { return api.Expr{Kind: api.XRange, Ref: from, To: to} }

func un(op int, kids ...api.Expr) api.Expr { return api.Expr{Kind: api.XUn, Op: op, Kids: kids} }

func minus(kid api.Expr) api.Expr { return un(api.UMinus, kid) }

func bin(op int, kids ...api.Expr) api.Expr { return api.Expr{Kind: api.XBin, Op: op, Kids: kids} }

func fun(f int, kids ...api.Expr) api.Expr { return api.Expr{Kind: api.XCall, Fun: f, Kids: kids} }

// cols gives references to the first places of the first row, one after the other.
func cols(n int) []api.Expr {
	var all []api.Expr
	for col := range n {
		all = append(all, ref(at(0, col)))
	}
	return all
}

// around lays something around a tree, so many times.
func around(n int, lay func(api.Expr) api.Expr, x api.Expr) api.Expr {
	for range n {
		x = lay(x)
	}
	return x
}

func times(n int, s string) string { return strings.Repeat(s, n) }

// spell writes all fields of a tree.
func spell(x api.Expr) string {
	kids := x.Kids
	x.Kids = nil
	b := strings.Builder{}
	fmt.Fprintf(&b, "%+v", x)
	for _, kid := range kids {
		b.WriteString("[" + spell(kid) + "]")
	}
	return b.String()
}

func brief(s string) string {
	if len(s) > 300 {
		return s[:150] + " .. " + s[len(s)-100:]
	}
	return s
}

// read gives the tree of a formula.
func read(t *testing.T, s string) api.Expr {
	t.Helper()
	x, at, e := parse.Formula(s)
	if e != api.OK {
		t.Fatalf("%s is no formula: %d at %d", brief(s), e, at)
	}
	return x
}

// oneLine writes code that may be, with "; " between its lines.
func oneLine(p api.Code) string {
	s, e := code.Text(p)
	if e != api.OK {
		return fmt.Sprintf("no code that may be: error %d", e)
	}
	return strings.ReplaceAll(strings.TrimSuffix(s, "\n"), "\n", "; ")
}

// check holds a tree's code against what it should be, with "; " between the lines.
func check(t *testing.T, promise string, x api.Expr, want string) {
	t.Helper()
	p, e := Formula(x)
	if got := oneLine(p); e != api.OK || got != want {
		t.Errorf("%s: %s: error %d\n got %s\nwant %s", promise, brief(spell(x)), e, brief(got), brief(want))
	}
}

// checkRefused holds the error of a tree that may not be against what it should be.
func checkRefused(t *testing.T, x api.Expr, want api.Errno) {
	t.Helper()
	if p, e := Formula(x); e != want || p.Ins != nil && len(p.Ins) != 0 || len(p.Consts) != 0 {
		t.Errorf("P17.1: %s: error %d, not %d, with %d instructions and %d constants", brief(spell(x)), e, want, len(p.Ins), len(p.Consts))
	}
}

// expected is a formula and its code.
type expected struct{ formula, code string }

func checkAll(t *testing.T, all []expected) {
	t.Helper()
	for _, c := range all {
		check(t, "P17.1: "+brief(c.formula), read(t, c.formula), c.code)
	}
}

func TestDocumentExamples(t *testing.T) {
	checkAll(t, []expected{
		{`=1+A1`, `const i 1; do.const 0; do.err 4 0; do.fetch 0 0; do.bin 4`},
		{`=IF(A1,2,"x")`, `const i 2; const t "x"; do.fetch 0 0; do.if 4 5; do.const 0; do.jump 5; do.const 1`},
		{`=SUM(A1:B2,1)`, `const i 1; do.area 0 0 1 1; do.err 4 0; do.const 0; do.walk 54 2`},
		{`=MOD(A1,2)`, `const i 2; do.fetch 0 0; do.err 4 0; do.const 0; do.call 3 2`},
		{`=A1:B2`, `const e 4; do.const 0`},
		{`=ROWS(1+1)`, `const e 4; do.const 0; do.place 49`},
		{`=INDEX(A1:B2,1,2)`, `const i 1; const i 2; do.area 0 0 1 1; do.err 6 0; do.const 0; do.err 6 1; do.const 1; do.index 2; do.one`},
		{`=CHOOSE(A1,B1,C1)`, `do.fetch 0 0; do.choose 5 2 4; do.fetch 0 1; do.jump 5; do.fetch 0 2`},
		{`=SWITCH(A1,1,2)`, `const i 1; const i 2; const e 6; do.fetch 0 0; do.err 9 0; do.const 0; do.err 9 1; do.match 7; do.const 1; do.jump 9; do.drop; do.const 2`},
	})
}

func TestSingleNodes(t *testing.T) {
	checkAll(t, []expected{
		{`=0`, `const i 0; do.const 0`},
		{`=9223372036854775807`, `const i 9223372036854775807; do.const 0`},
		{`=""`, `const t ""; do.const 0`},
		{`="a""é"`, `const t "a\"\xc3\xa9"; do.const 0`},
		{`=TRUE`, `const b 1; do.const 0`},
		{`=FALSE`, `const b 0; do.const 0`},
		{`=#NAME?`, `const e 1; do.const 0`},
		{`=#N/A`, `const e 6; do.const 0`},
		{`=A1`, `do.fetch 0 0`},
		{`=$C$7`, `do.fetch 6 2`},
		{`=ZZ65536`, `do.fetch 65535 701`},
		{`=A1:A1`, `const e 4; do.const 0`},
		{`=B2:$A$1`, `const e 4; do.const 0`},
		{`=A1:ZZ65536`, `const e 4; do.const 0`},
	})
	for e := int64(api.EName); e <= api.ENA; e++ {
		check(t, "P17.1", bad(e), fmt.Sprintf("const e %d; do.const 0", e))
	}
	check(t, "P17.1", txt("\x00\xff"), `const t "\x00\xff"; do.const 0`)
	check(t, "P17.1", txt(times(16384, "x")), `const t "`+times(16384, "x")+`"; do.const 0`)
}

func TestOperations(t *testing.T) {
	for op := api.UMinus; op <= api.UPercent; op++ {
		check(t, "P17.1", un(op, ref(at(4, 3))), fmt.Sprintf("do.fetch 4 3; do.un %d", op))
		check(t, "P17.1", un(op, bad(api.ENum)), fmt.Sprintf("const e 2; do.const 0; do.un %d", op))
		check(t, "P17.1", un(op, span(at(4, 3), at(5, 3))), fmt.Sprintf("const e 4; do.const 0; do.un %d", op))
	}
	for op := api.BPow; op <= api.BMoreEq; op++ {
		check(t, "P17.1", bin(op, cols(2)...), fmt.Sprintf("do.fetch 0 0; do.err 4 0; do.fetch 0 1; do.bin %d", op))
		check(t, "P17.1", bin(op, num(2), span(at(0, 0), at(0, 0))), fmt.Sprintf("const i 2; const e 4; do.const 0; do.err 4 0; do.const 1; do.bin %d", op))
	}
}

// TestEveryFunction calls each function with references alone, with every number of arguments that it takes up to 12.
func TestEveryFunction(t *testing.T) {
	seen := 0
	for f := 1; f <= api.Functions; f++ {
		told, _ := list.Info(f)
		most := told.Max
		if most < 0 {
			most = 12
		}
		for n := told.Min; n <= most; n++ {
			if want, some := ofReferences(told.Class, f, n); some {
				seen++
				check(t, "P17.1: "+told.Name, fun(f, cols(n)...), want)
			}
		}
	}
	// 38 calls are scalar, 6 asking, 6 of places, 6 of areas, 188 walking.
	if seen != 244 {
		t.Errorf("%d calls were held against their code", seen)
	}
}

// ofReferences tells the code of a call whose arguments are references to A1, B1 and so on; false: lazy ones have tests of their own.
func ofReferences(class, f, n int) (string, bool) {
	var lines []string
	lay := func(form string, numbers ...any) { lines = append(lines, fmt.Sprintf(form, numbers...)) }
	switch class {
	case api.ClassScalar, api.ClassAsking:
		for i := range n {
			lay("do.fetch 0 %d", i)
			if i < n-1 {
				lay("do.err %d %d", 2*n, i)
			}
		}
		lay("do.call %d %d", f, n)
	case api.ClassPlace:
		if n == 0 {
			lay("do.here %d", f)
			break
		}
		lay("do.area 0 0 0 0")
		lay("do.place %d", f)
	case api.ClassArea:
		if f == api.FIndirect {
			return "do.fetch 0 0; do.indirect; do.one", true
		}
		lay("do.area 0 0 0 0")
		for i := 1; i < n; i++ {
			lay("do.err %d %d", 2*n, i-1)
			lay("do.fetch 0 %d", i)
		}
		lay("do.%s %d", map[int]string{api.FOffset: "offset", api.FIndex: "index"}[f], n-1)
		lay("do.one")
	case api.ClassWalking:
		for i := range n {
			lay("do.area 0 %d 0 %d", i, i)
			lay("do.err %d %d", 2*n+1, i)
		}
		lay("do.walk %d %d", f, n)
	default:
		return "", false
	}
	return strings.Join(lines, "; "), true
}

func TestLazyCalls(t *testing.T) {
	checkAll(t, []expected{
		{`=IF(A1,B1,C1)`, `do.fetch 0 0; do.if 4 5; do.fetch 0 1; do.jump 5; do.fetch 0 2`},
		{`=IF(A1,B1)`, `const b 0; do.fetch 0 0; do.if 4 5; do.fetch 0 1; do.jump 5; do.const 0`},
		{`=IF(A1,B1+C1,D1-E1)`, `do.fetch 0 0; do.if 7 11; do.fetch 0 1; do.err 6 0; do.fetch 0 2; do.bin 4; do.jump 11; do.fetch 0 3; do.err 11 0; do.fetch 0 4; do.bin 5`},
		{`=IF(#N/A,A1:B2,#N/A)`, `const e 6; const e 4; do.const 0; do.if 4 5; do.const 1; do.jump 5; do.const 0`},
		{`=IFERROR(A1,B1)`, `do.fetch 0 0; do.ok 3 0; do.fetch 0 1`},
		{`=IFNA(A1,B1)`, `do.fetch 0 0; do.ok 3 6; do.fetch 0 1`},
		{`=IFERROR(A1:B2,1)`, `const e 4; const i 1; do.const 0; do.ok 3 0; do.const 1`},
		{`=IFNA(#N/A,A1%)`, `const e 6; do.const 0; do.ok 4 6; do.fetch 0 0; do.un 3`},
		{`=CHOOSE(A1,B1)`, `do.fetch 0 0; do.choose 3 2; do.fetch 0 1`},
		{`=CHOOSE(A1,B1,C1,D1)`, `do.fetch 0 0; do.choose 7 2 4 6; do.fetch 0 1; do.jump 7; do.fetch 0 2; do.jump 7; do.fetch 0 3`},
		{`=CHOOSE(-A1,-B1,C1,A1:A2)`, `const e 4; do.fetch 0 0; do.un 1; do.choose 9 3 6 8; do.fetch 0 1; do.un 1; do.jump 9; do.fetch 0 2; do.jump 9; do.const 0`},
		{`=SWITCH(A1,B1,C1)`, `const e 6; do.fetch 0 0; do.err 9 0; do.fetch 0 1; do.err 9 1; do.match 7; do.fetch 0 2; do.jump 9; do.drop; do.const 0`},
		{`=SWITCH(A1,B1,C1,D1)`, `do.fetch 0 0; do.err 9 0; do.fetch 0 1; do.err 9 1; do.match 7; do.fetch 0 2; do.jump 9; do.drop; do.fetch 0 3`},
		{`=SWITCH(A1,B1,C1,D1,E1)`, `const e 6; do.fetch 0 0; do.err 14 0; do.fetch 0 1; do.err 14 1; do.match 7; do.fetch 0 2; do.jump 14; do.fetch 0 3; do.err 14 1; do.match 12; do.fetch 0 4; do.jump 14; do.drop; do.const 0`},
		{`=SWITCH(A1,B1,C1,D1,E1,F1)`, `do.fetch 0 0; do.err 14 0; do.fetch 0 1; do.err 14 1; do.match 7; do.fetch 0 2; do.jump 14; do.fetch 0 3; do.err 14 1; do.match 12; do.fetch 0 4; do.jump 14; do.drop; do.fetch 0 5`},
		{`=SWITCH(-A1,-B1,-C1,-D1)`, `do.fetch 0 0; do.un 1; do.err 13 0; do.fetch 0 1; do.un 1; do.err 13 1; do.match 10; do.fetch 0 2; do.un 1; do.jump 13; do.drop; do.fetch 0 3; do.un 1`},
		{`=SWITCH(#N/A,#REF!,#N/A)`, `const e 6; const e 3; do.const 0; do.err 9 0; do.const 1; do.err 9 1; do.match 7; do.const 0; do.jump 9; do.drop; do.const 0`},
	})
}

func TestCallsOfAreas(t *testing.T) {
	checkAll(t, []expected{
		{`=INDIRECT("A1")`, `const t "A1"; do.const 0; do.indirect; do.one`},
		{`=INDIRECT(A1&"7")`, `const t "7"; do.fetch 0 0; do.err 4 0; do.const 0; do.bin 6; do.indirect; do.one`},
		{`=OFFSET(A1,1,2)`, `const i 1; const i 2; do.area 0 0 0 0; do.err 6 0; do.const 0; do.err 6 1; do.const 1; do.offset 2; do.one`},
		{`=OFFSET(A1:B2,C1,D1,E1)`, `do.area 0 0 1 1; do.err 8 0; do.fetch 0 2; do.err 8 1; do.fetch 0 3; do.err 8 2; do.fetch 0 4; do.offset 3; do.one`},
		{`=OFFSET(A1,B1,C1,D1,E1)`, `do.area 0 0 0 0; do.err 10 0; do.fetch 0 1; do.err 10 1; do.fetch 0 2; do.err 10 2; do.fetch 0 3; do.err 10 3; do.fetch 0 4; do.offset 4; do.one`},
		{`=INDEX(A1:B2,C1)`, `do.area 0 0 1 1; do.err 4 0; do.fetch 0 2; do.index 1; do.one`},
		{`=INDEX(A1:B2,-C1,D1)`, `do.area 0 0 1 1; do.err 7 0; do.fetch 0 2; do.un 1; do.err 7 1; do.fetch 0 3; do.index 2; do.one`},
		{`=INDEX(5,6)`, `const e 4; const i 6; do.const 0; do.err 4 0; do.const 1; do.index 1; do.one`},
		{`=OFFSET(#REF!,A1:A2,1)`, `const e 3; const e 4; const i 1; do.const 0; do.err 6 0; do.const 1; do.err 6 1; do.const 2; do.offset 2; do.one`},
		{`=INDEX(INDIRECT(A1),B1)`, `do.fetch 0 0; do.indirect; do.err 5 0; do.fetch 0 1; do.index 1; do.one`},
		{`=INDEX(OFFSET(A1,B1,C1),D1)`, `do.area 0 0 0 0; do.err 6 0; do.fetch 0 1; do.err 6 1; do.fetch 0 2; do.offset 2; do.err 9 0; do.fetch 0 3; do.index 1; do.one`},
		{`=INDIRECT(INDIRECT(A1))`, `do.fetch 0 0; do.indirect; do.one; do.indirect; do.one`},
		{`=INDEX(A1,INDEX(B1,C1))`, `do.area 0 0 0 0; do.err 8 0; do.area 0 1 0 1; do.err 6 0; do.fetch 0 2; do.index 1; do.one; do.index 1; do.one`},
	})
}

func TestAreasPlaces(t *testing.T) {
	checkAll(t, []expected{
		{`=ROWS(C7)`, `do.area 6 2 6 2; do.place 49`},
		{`=ROWS($C$7)`, `do.area 6 2 6 2; do.place 49`},
		{`=COLUMNS(ZZ65536)`, `do.area 65535 701 65535 701; do.place 50`},
		{`=ROW(B2:D9)`, `do.area 1 1 8 3; do.place 47`},
		{`=COLUMN(D9:B2)`, `do.area 1 1 8 3; do.place 48`},
		{`=ROWS(B9:D2)`, `do.area 1 1 8 3; do.place 49`},
		{`=COLUMNS($D$2:$B$9)`, `do.area 1 1 8 3; do.place 50`},
		{`=ROWS(A1:A4096)`, `do.area 0 0 4095 0; do.place 49`},
		{`=ROWS(A4096:A1)`, `do.area 0 0 4095 0; do.place 49`},
		{`=ROWS(A1:BL64)`, `do.area 0 0 63 63; do.place 49`},
		{`=ROWS(A1:A4097)`, `const e 3; do.const 0; do.place 49`},
		{`=ROWS(A4097:A1)`, `const e 3; do.const 0; do.place 49`},
		{`=ROWS(A1:BL65)`, `const e 3; do.const 0; do.place 49`},
		{`=ROWS(ZZ65536:A1)`, `const e 3; do.const 0; do.place 49`},
		{`=ROWS(#N/A)`, `const e 6; do.const 0; do.place 49`},
		{`=ROWS(INDIRECT(A1))`, `do.fetch 0 0; do.indirect; do.place 49`},
		{`=ROWS(OFFSET(A1,B1,C1))`, `do.area 0 0 0 0; do.err 6 0; do.fetch 0 1; do.err 6 1; do.fetch 0 2; do.offset 2; do.place 49`},
		{`=ROWS(INDEX(A1:B2,C1))`, `do.area 0 0 1 1; do.err 4 0; do.fetch 0 2; do.index 1; do.place 49`},
		{`=ROWS(INDEX(INDEX(A1,B1),C1))`, `do.area 0 0 0 0; do.err 4 0; do.fetch 0 1; do.index 1; do.err 7 0; do.fetch 0 2; do.index 1; do.place 49`},
	})
}

// TestWhatIsNoArea lays, where an area is asked for, every node that is none: of it there is no trace, not even of its constants.
func TestWhatIsNoArea(t *testing.T) {
	nodes := []api.Expr{num(5), num(0), txt("A1"), truth(1), minus(ref(at(0, 0))), bin(api.BAdd, ref(at(0, 0)), num(9))}
	for op := api.BPow; op <= api.BMoreEq; op++ {
		nodes = append(nodes, bin(op, cols(2)...))
	}
	for f := 1; f <= api.Functions; f++ {
		told, _ := list.Info(f)
		if told.Class == api.ClassArea {
			continue
		}
		nodes = append(nodes, fun(f, cols(told.Min)...), fun(f, slices.Repeat([]api.Expr{num(77)}, told.Min)...))
		if told.Max != told.Min {
			nodes = append(nodes, fun(f, cols(told.Min+1)...))
		}
	}
	for _, x := range nodes {
		for f := api.FRow; f <= api.FColumns; f++ {
			check(t, "P17.1", fun(f, x), fmt.Sprintf("const e 4; do.const 0; do.place %d", f))
		}
		check(t, "P17.1", fun(api.FIndex, x, ref(at(1, 1))), "const e 4; do.const 0; do.err 4 0; do.fetch 1 1; do.index 1; do.one")
		check(t, "P17.1", fun(api.FOffset, x, num(77), num(6)), "const e 4; const i 77; const i 6; do.const 0; do.err 6 0; do.const 1; do.err 6 1; do.const 2; do.offset 2; do.one")
		check(t, "P17.1", fun(api.FRows, fun(api.FIndex, x, ref(at(1, 1)))), "const e 4; do.const 0; do.err 4 0; do.fetch 1 1; do.index 1; do.place 49")
	}
}

func TestWalkingCalls(t *testing.T) {
	checkAll(t, []expected{
		{`=SUM(A1)`, `do.area 0 0 0 0; do.err 3 0; do.walk 54 1`},
		{`=SUM(5)`, `const i 5; do.const 0; do.walk 54 1`},
		{`=SUM(#REF!)`, `const e 3; do.const 0; do.walk 54 1`},
		{`=SUM(#REF!,A1)`, `const e 3; do.const 0; do.area 0 0 0 0; do.err 4 1; do.walk 54 2`},
		{`=SUM(A1:A4097)`, `const e 3; do.const 0; do.err 3 0; do.walk 54 1`},
		{`=SUM(INDIRECT(A1))`, `do.fetch 0 0; do.indirect; do.err 4 0; do.walk 54 1`},
		{`=SUM(OFFSET(A1,1,2))`, `const i 1; const i 2; do.area 0 0 0 0; do.err 6 0; do.const 0; do.err 6 1; do.const 1; do.offset 2; do.err 8 0; do.walk 54 1`},
		{`=SUM(1,INDEX(A1:B2,C1),D1+1)`, `const i 1; do.const 0; do.area 0 0 1 1; do.err 5 0; do.fetch 0 2; do.index 1; do.err 11 1; do.fetch 0 3; do.err 10 0; do.const 0; do.bin 4; do.walk 54 3`},
		{`=SUM(-A1,+B1:B2,ROW(C1),SUM(D1))`, `const e 4; do.fetch 0 0; do.un 1; do.const 0; do.un 2; do.area 0 2 0 2; do.place 47; do.area 0 3 0 3; do.err 9 0; do.walk 54 1; do.walk 54 4`},
		{`=JOIN("-",A1:B2,"x",C1)`, `const t "-"; const t "x"; do.const 0; do.area 0 0 1 1; do.err 7 1; do.const 1; do.area 0 2 0 2; do.err 7 3; do.walk 69 4`},
		{`=VLOOKUP(A1+0,A1:B9,2)`, `const i 0; const i 2; do.fetch 0 0; do.err 4 0; do.const 0; do.bin 4; do.area 0 0 8 1; do.err 8 1; do.const 1; do.walk 71 3`},
		{`=COUNTIF(B2:A1,"x")`, `const t "x"; do.area 0 0 1 1; do.err 4 0; do.const 0; do.walk 74 2`},
		{`=COUNTA(IF(A1,B1:B2),CHOOSE(1,A1))`, `const e 4; const b 0; const i 1; do.fetch 0 0; do.if 4 5; do.const 0; do.jump 5; do.const 1; do.const 2; do.choose 8 7; do.fetch 0 0; do.walk 57 2`},
	})
}

func TestCallsWithinCalls(t *testing.T) {
	checkAll(t, []expected{
		{`=1+2*3`, `const i 1; const i 2; const i 3; do.const 0; do.err 7 0; do.const 1; do.err 6 0; do.const 2; do.bin 2; do.bin 4`},
		{`=(1+2)*3`, `const i 1; const i 2; const i 3; do.const 0; do.err 4 0; do.const 1; do.bin 4; do.err 7 0; do.const 2; do.bin 2`},
		{`=MID(A1,MOD(B1,C1),D1)`, `do.fetch 0 0; do.err 9 0; do.fetch 0 1; do.err 6 0; do.fetch 0 2; do.call 3 2; do.err 9 1; do.fetch 0 3; do.call 19 3`},
		{`=ABS(ABS(A1))`, `do.fetch 0 0; do.call 1 1; do.call 1 1`},
		{`=ISERROR(1/0)`, `const i 1; const i 0; do.const 0; do.err 4 0; do.const 1; do.bin 3; do.call 40 1`},
		{`=IF(IF(A1,B1,C1),IF(D1,E1),F1)`, `const b 0; do.fetch 0 0; do.if 4 5; do.fetch 0 1; do.jump 5; do.fetch 0 2; do.if 12 13; do.fetch 0 3; do.if 10 11; do.fetch 0 4; do.jump 11; do.const 0; do.jump 13; do.fetch 0 5`},
		{`=IFERROR(IFNA(A1,B1),IFERROR(C1,D1))`, `do.fetch 0 0; do.ok 3 6; do.fetch 0 1; do.ok 7 0; do.fetch 0 2; do.ok 7 0; do.fetch 0 3`},
		{`=CHOOSE(CHOOSE(A1,B1),CHOOSE(C1,D1,E1),F1)`, `do.fetch 0 0; do.choose 3 2; do.fetch 0 1; do.choose 11 4 10; do.fetch 0 2; do.choose 9 6 8; do.fetch 0 3; do.jump 9; do.fetch 0 4; do.jump 11; do.fetch 0 5`},
		{`=SWITCH(SWITCH(A1,1,2),2,SWITCH(B1,1,2,3))`, `const i 1; const i 2; const e 6; const i 3; do.fetch 0 0; do.err 9 0; do.const 0; do.err 9 1; do.match 7; do.const 1; do.jump 9; do.drop; do.const 2; do.err 25 0; do.const 1; do.err 25 1; do.match 23; do.fetch 0 1; do.err 22 0; do.const 0; do.err 22 1; do.match 20; do.const 1; do.jump 22; do.drop; do.const 3; do.jump 25; do.drop; do.const 2`},
		{`=ROW()+COLUMN()`, `do.here 47; do.err 4 0; do.here 48; do.bin 4`},
		{`=-SUM(A1,MAX(B1:C2,1))%`, `const i 1; do.area 0 0 0 0; do.err 7 0; do.area 0 1 1 2; do.err 6 0; do.const 0; do.walk 60 2; do.walk 54 2; do.un 3; do.un 1`},
	})
}
