package mach

import (
	"fmt"
	"math"
	"strings"
	"testing"
	"time"

	"quadrille/api"
	"quadrille/code"
	"quadrille/comp"
	"quadrille/parse"
)

// within fails the test if the work goes on for far longer than it can.
func within(t *testing.T, what string, work func()) {
	t.Helper()
	done := make(chan struct{})
	go func() {
		defer close(done)
		work()
	}()
	select {
	case <-done:
	case <-time.After(60 * time.Second):
		t.Fatalf("P0.1: %s is not done", what)
	}
}

// num, txt, bad, yes, no and blank are values, made apart from the program's own.
func num(n int64) api.Value { return api.Value{Kind: api.VInt, Int: n} }

func txt(s string) api.Value { return api.Value{Kind: api.VText, Text: s} }

func bad(e int64) api.Value { return api.Value{Kind: api.VErr, Int: e} }

func yes() api.Value { return api.Value{Kind: api.VBool, Int: 1} }

func no() api.Value { return api.Value{Kind: api.VBool} }

func blank() api.Value { return api.Value{} }

func xs(many int) string { return strings.Repeat("x", many) }

// place reads a place such as B7.
func place(s string) api.Spot {
	letters := strings.IndexAny(s, "0123456789")
	at := api.Spot{Row: -1, Col: -1}
	col := 0
	for _, r := range s[:letters] {
		col = col*26 + int(r-'A') + 1
	}
	row := 0
	for _, r := range s[letters:] {
		row = row*10 + int(r-'0')
	}
	at.Row += row
	at.Col += col
	return at
}

// brief writes a value without the most of a long text.
func brief(v api.Value) string {
	return fmt.Sprintf("{kind %d, %d, %.40q of %d bytes}", v.Kind, v.Int, v.Text, len(v.Text))
}

// written writes the beginning of code, and how much of it there is.
func written(p api.Code) string {
	return fmt.Sprintf("%.600s (%d instructions, %d constants)", fmt.Sprint(p.Ins, p.Consts), len(p.Ins), len(p.Consts))
}

// of reads code from its lines.
func of(t *testing.T, lines string) api.Code {
	t.Helper()
	p, at, e := code.Read(strings.ReplaceAll(lines, "; ", "\n") + "\n")
	if e != api.OK {
		t.Fatalf("the test's code %s may not be: %d at %d", lines, e, at)
	}
	return p
}

// formula gives a formula's code.
func formula(t *testing.T, s string) api.Code {
	t.Helper()
	x, at, e := parse.Formula(s)
	if e != api.OK {
		t.Fatalf("the test's formula %s is none: %d at %d", s, e, at)
	}
	p, e := comp.Formula(x)
	if e != api.OK {
		t.Fatalf("the test's formula %s has no code: %d", s, e)
	}
	return p
}

// begin gives a machine that is not refused.
func begin(t *testing.T, p api.Code, own api.Spot) *Machine {
	t.Helper()
	m, e := New(p, own)
	if e != api.OK || m == nil {
		t.Fatalf("P18.1: %s at %v is refused: %d", written(p), own, e)
	}
	return m
}

// wanting checks that a machine wants a place, where it stands then, and that it is not over.
func wanting(t *testing.T, what string, m *Machine, want api.Spot, look api.MachLook) {
	t.Helper()
	if at, wants := m.Wants(); at != want || !wants {
		t.Errorf("P18.2: %s wants %v, %t; it should want %v", what, at, wants, want)
	}
	if v, over := m.Value(); v != (api.Value{}) || over {
		t.Errorf("P18.4: %s is worth %s, %t; it should want %v", what, brief(v), over, want)
	}
	if got := m.Look(); got != look {
		t.Errorf("P18.5: %s stands at %+v, not %+v", what, got, look)
	}
}

// ending checks that a machine is over, with what, where it stands then, and that it wants and takes nothing any more.
func ending(t *testing.T, what string, m *Machine, want api.Value, look api.MachLook) {
	t.Helper()
	for range 2 {
		if at, wants := m.Wants(); at != (api.Spot{}) || wants {
			t.Errorf("P18.2: %s wants %v, %t; it should be over", what, at, wants)
		}
		if v, over := m.Value(); v != want || !over {
			t.Errorf("P18.4: %s is worth %s, %t; not %s", what, brief(v), over, brief(want))
		}
		if got := m.Look(); got != look {
			t.Errorf("P18.5: %s stands at %+v, not %+v", what, got, look)
		}
		for _, v := range []api.Value{num(1), {Kind: 9}} {
			if e := m.Give(v); e != api.ErrStill {
				t.Errorf("P18.3: %s was given %s behind its end: %d", what, brief(v), e)
			}
		}
	}
}

// giving hands a value to a machine that wants one.
func giving(t *testing.T, what string, m *Machine, v api.Value) {
	t.Helper()
	if e := m.Give(v); e != api.OK {
		t.Errorf("P18.3: %s takes no %s: %d", what, brief(v), e)
	}
}

// told is a place that is wanted, and what is given for it.
type told struct {
	at string
	v  api.Value
}

// tell runs code at B7.
func tell(t *testing.T, what string, p api.Code, gets []told, end api.Value) {
	t.Helper()
	m := begin(t, p, place("B7"))
	for i, g := range gets {
		if at, wants := m.Wants(); at != place(g.at) || !wants {
			t.Errorf("P18.2: %s behind %d values wants %v, %t; it should want %s", what, i, at, wants, g.at)
		}
		giving(t, what, m, g.v)
	}
	ending(t, what, m, end, api.MachLook{At: len(p.Ins), Height: 1, Fetches: len(gets), Over: true})
}

func TestTheDocumentsExamples(t *testing.T) {
	for _, c := range []struct {
		formula string
		gets    []told
		end     api.Value
	}{
		{"=A1+1", []told{{"A1", num(4)}}, num(5)},
		{"=A1+1", []told{{"A1", bad(api.ENA)}}, bad(api.ENA)},
		{"=A1+A1", []told{{"A1", num(2)}, {"A1", num(3)}}, num(5)},
		{"=IF(A1,B1,C1)", []told{{"A1", no()}, {"C1", num(7)}}, num(7)},
		{"=IFERROR(A1,B1)", []told{{"A1", bad(api.ERef)}, {"B1", num(3)}}, num(3)},
		{"=ROW()", nil, num(7)},
		{"=OFFSET(A1,1,A2)", []told{{"A2", num(1)}, {"B2", num(8)}}, num(8)},
		{"=OFFSET(A1,1,A2)", []told{{"A2", txt("x")}}, bad(api.EValue)},
		{"=SUM(A1:A2,5)", []told{{"A1", num(1)}, {"A2", num(2)}}, num(8)},
		{`=SWITCH(A1,1,"one",B1,"b")`, []told{{"A1", num(1)}}, txt("one")},
		{`=SWITCH(A1,1,"one",B1,"b")`, []told{{"A1", num(2)}, {"B1", num(2)}}, txt("b")},
	} {
		tell(t, c.formula, formula(t, c.formula), c.gets, c.end)
	}
	m := begin(t, formula(t, "=A1+1"), place("B7"))
	if e := m.Give(api.Value{Kind: 9}); e != api.ErrValue {
		t.Errorf("P18.3: the kind 9 is taken: %d", e)
	}
	wanting(t, "=A1+1", m, place("A1"), api.MachLook{})
}

// TestWhatEachInstructionDoes has one row for each thing that an instruction can do.
func TestWhatEachInstructionDoes(t *testing.T) {
	for _, c := range []struct {
		lines string
		gets  []told
		end   api.Value
	}{
		{`const i 5; const t "a"; do.const 0`, nil, num(5)},
		{`const i 5; const t "a"; do.const 1`, nil, txt("a")},
		{`const e 3; do.const 0`, nil, bad(api.ERef)},
		{`const b 0; do.const 0`, nil, no()},
		{`do.fetch 6 1`, []told{{"B7", blank()}}, blank()},
		{`do.fetch 65535 701`, []told{{"ZZ65536", txt("\x00")}}, txt("\x00")},
		{`do.area 2 1 4 6; do.place 47`, nil, num(3)},
		{`do.area 2 1 4 6; do.place 48`, nil, num(2)},
		{`do.area 2 1 4 6; do.place 49`, nil, num(3)},
		{`do.area 2 1 4 6; do.place 50`, nil, num(6)},
		{`const e 2; do.const 0; do.place 50`, nil, bad(api.ENum)},
		{`do.fetch 0 0; do.un 1`, []told{{"A1", num(250)}}, num(-250)},
		{`do.fetch 0 0; do.un 2`, []told{{"A1", txt("250")}}, num(250)},
		{`do.fetch 0 0; do.un 3`, []told{{"A1", num(250)}}, num(2)},
		{`do.fetch 0 0; do.fetch 0 1; do.bin 5`, []told{{"A1", num(9)}, {"B1", num(2)}}, num(7)},
		{`do.fetch 0 0; do.fetch 0 1; do.bin 6`, []told{{"A1", num(9)}, {"B1", num(2)}}, txt("92")},
		{`do.fetch 0 0; do.fetch 0 1; do.bin 6`, []told{{"A1", bad(api.EDiv)}, {"B1", bad(api.ENA)}}, bad(api.EDiv)},
		{`do.fetch 0 0; do.fetch 0 1; do.fetch 0 2; do.call 19 3`, []told{{"A1", txt("abcd")}, {"B1", num(2)}, {"C1", num(1)}}, txt("b")},
		{`do.fetch 0 0; do.call 40 1`, []told{{"A1", bad(api.ENA)}}, yes()},
		{`do.call 35 0`, nil, bad(api.ENA)},
		// IErr, with an item below that is taken or stays.
		{`do.fetch 0 0; do.fetch 0 1; do.err 4 1; do.walk 69 2`, []told{{"A1", txt("-")}, {"B1", num(2)}}, txt("2")},
		{`do.fetch 0 0; do.fetch 0 1; do.err 4 1; do.walk 57 2`, []told{{"A1", num(1)}, {"B1", bad(api.ENA)}}, bad(api.ENA)},
		{`do.fetch 0 0; do.fetch 0 1; do.err 4 0; do.un 1; do.walk 57 2`, []told{{"A1", num(1)}, {"B1", bad(api.ENA)}}, num(2)},
		{`do.area 0 0 1 1; do.err 2 0; do.place 49`, nil, num(2)},
		{`do.fetch 0 0; do.area 0 0 1 1; do.fetch 0 1; do.err 5 2; do.walk 73 3`, []told{{"A1", num(1)}, {"B1", bad(api.EName)}}, bad(api.EName)},
		{`const e 6; do.fetch 0 0; do.const 0; do.err 5 1; do.walk 57 2; do.un 1`, []told{{"A1", num(1)}}, bad(api.ENA)},
		// IIf.
		{`const i 1; const i 2; do.fetch 0 0; do.if 4 5; do.const 0; do.jump 5; do.const 1`, []told{{"A1", num(-7)}}, num(1)},
		{`const i 1; const i 2; do.fetch 0 0; do.if 4 5; do.const 0; do.jump 5; do.const 1`, []told{{"A1", txt("FALSE")}}, num(2)},
		{`const i 1; const i 2; do.fetch 0 0; do.if 4 5; do.const 0; do.jump 5; do.const 1`, []told{{"A1", blank()}}, num(2)},
		{`const i 1; const i 2; do.fetch 0 0; do.if 4 5; do.const 0; do.jump 5; do.const 1`, []told{{"A1", txt("false")}}, bad(api.EValue)},
		{`const i 1; const i 2; do.fetch 0 0; do.if 4 5; do.const 0; do.jump 5; do.const 1`, []told{{"A1", bad(api.ENum)}}, bad(api.ENum)},
		// IOk.
		{`const i 1; do.fetch 0 0; do.ok 3 0; do.const 0`, []told{{"A1", blank()}}, blank()},
		{`const i 1; do.fetch 0 0; do.ok 3 0; do.const 0`, []told{{"A1", bad(api.EName)}}, num(1)},
		{`const i 1; do.fetch 0 0; do.ok 3 6; do.const 0`, []told{{"A1", bad(api.EName)}}, bad(api.EName)},
		{`const i 1; do.fetch 0 0; do.ok 3 6; do.const 0`, []told{{"A1", bad(api.ENA)}}, num(1)},
		{`const i 1; do.fetch 0 0; do.ok 3 6; do.const 0`, []told{{"A1", num(6)}}, num(6)},
		// IChoose.
		{`const i 1; const i 2; do.fetch 0 0; do.choose 5 2 4 2; do.const 0; do.jump 5; do.const 1`, []told{{"A1", yes()}}, num(1)},
		{`const i 1; const i 2; do.fetch 0 0; do.choose 5 2 4 2; do.const 0; do.jump 5; do.const 1`, []told{{"A1", txt("2")}}, num(2)},
		{`const i 1; const i 2; do.fetch 0 0; do.choose 5 2 4 2; do.const 0; do.jump 5; do.const 1`, []told{{"A1", num(3)}}, num(1)},
		{`const i 1; const i 2; do.fetch 0 0; do.choose 5 2 4 2; do.const 0; do.jump 5; do.const 1`, []told{{"A1", num(4)}}, bad(api.EValue)},
		{`const i 1; const i 2; do.fetch 0 0; do.choose 5 2 4 2; do.const 0; do.jump 5; do.const 1`, []told{{"A1", blank()}}, bad(api.EValue)},
		{`const i 1; const i 2; do.fetch 0 0; do.choose 5 2 4 2; do.const 0; do.jump 5; do.const 1`, []told{{"A1", num(math.MinInt64)}}, bad(api.EValue)},
		{`const i 1; const i 2; do.fetch 0 0; do.choose 5 2 4 2; do.const 0; do.jump 5; do.const 1`, []told{{"A1", num(1<<32 + 1)}}, bad(api.EValue)},
		{`const i 1; const i 2; do.fetch 0 0; do.choose 5 2 4 2; do.const 0; do.jump 5; do.const 1`, []told{{"A1", bad(api.ERef)}}, bad(api.ERef)},
		// IMatch: what stays is the lower one.
		{`const i 1; do.fetch 0 0; do.fetch 0 1; do.match 5; do.const 0; do.jump 6; do.un 1`, []told{{"A1", num(7)}, {"B1", num(7)}}, num(1)},
		{`const i 1; do.fetch 0 0; do.fetch 0 1; do.match 5; do.const 0; do.jump 6; do.un 1`, []told{{"A1", num(7)}, {"B1", num(8)}}, num(-7)},
		{`const i 1; do.fetch 0 0; do.fetch 0 1; do.match 5; do.const 0; do.jump 6; do.un 1`, []told{{"A1", blank()}, {"B1", txt("")}}, num(1)},
		{`const i 1; do.fetch 0 0; do.fetch 0 1; do.match 5; do.const 0; do.jump 6; do.un 1`, []told{{"A1", bad(api.ENA)}, {"B1", bad(api.ENA)}}, num(1)},
		{`const i 1; do.fetch 0 0; do.fetch 0 1; do.match 5; do.const 0; do.jump 6; do.un 1`, []told{{"A1", bad(api.EDiv)}, {"B1", bad(api.ENA)}}, bad(api.EDiv)},
		{`do.fetch 0 0; do.fetch 0 1; do.drop`, []told{{"A1", num(1)}, {"B1", bad(api.ENA)}}, num(1)},
		{`do.jump 1; do.fetch 0 0`, []told{{"A1", num(1)}}, num(1)},
		{`do.fetch 0 0; do.jump 2`, []told{{"A1", num(1)}}, num(1)},
		{`do.here 47`, nil, num(7)},
		{`do.here 48`, nil, num(2)},
		// IOne.
		{`do.area 4 3 4 3; do.one`, []told{{"D5", num(9)}}, num(9)},
		{`do.area 4 3 4 3; do.one`, []told{{"D5", bad(api.ENA)}}, bad(api.ENA)},
		{`do.area 4 3 5 3; do.one`, nil, bad(api.EValue)},
		{`do.area 4 3 4 4; do.one`, nil, bad(api.EValue)},
		{`const e 5; do.const 0; do.one`, nil, bad(api.EDiv)},
		// IIndirect.
		{`do.fetch 0 0; do.indirect; do.place 50`, []told{{"A1", txt("b2:$D$4")}}, num(3)},
		{`do.fetch 0 0; do.indirect; do.one`, []told{{"A1", txt("C9")}, {"C9", blank()}}, blank()},
		{`do.fetch 0 0; do.indirect; do.one`, []told{{"A1", num(9)}}, bad(api.ERef)},
		{`do.fetch 0 0; do.indirect; do.one`, []told{{"A1", blank()}}, bad(api.ERef)},
		{`do.fetch 0 0; do.indirect; do.one`, []told{{"A1", bad(api.ENum)}}, bad(api.ENum)},
		// IOffset: errors that stand there come ahead of those of the values as numbers.
		{`do.area 1 1 2 3; do.fetch 0 0; do.fetch 0 1; do.offset 2; do.place 50`, []told{{"A1", num(1)}, {"B1", txt("-1")}}, num(3)},
		{`do.area 1 1 1 1; do.fetch 0 0; do.fetch 0 1; do.offset 2; do.one`, []told{{"A1", num(1)}, {"B1", txt("-1")}, {"A3", num(4)}}, num(4)},
		{`do.area 1 1 2 2; do.fetch 0 0; do.fetch 0 1; do.fetch 0 2; do.fetch 0 3; do.offset 4; do.one`, []told{{"A1", num(0)}, {"B1", blank()}, {"C1", yes()}, {"D1", txt("1")}, {"B2", num(4)}}, num(4)},
		{`const e 2; do.const 0; do.fetch 0 0; do.fetch 0 1; do.offset 2; do.one`, []told{{"A1", txt("x")}, {"B1", bad(api.ENA)}}, bad(api.ENum)},
		{`do.area 1 1 1 1; do.fetch 0 0; do.fetch 0 1; do.offset 2; do.one`, []told{{"A1", txt("x")}, {"B1", bad(api.ENA)}}, bad(api.ENA)},
		{`do.area 1 1 1 1; do.fetch 0 0; do.fetch 0 1; do.offset 2; do.one`, []told{{"A1", bad(api.EDiv)}, {"B1", bad(api.ENA)}}, bad(api.EDiv)},
		{`do.area 1 1 1 1; do.fetch 0 0; do.fetch 0 1; do.fetch 0 2; do.offset 3; do.one`, []told{{"A1", num(-9)}, {"B1", num(0)}, {"C1", txt("x")}}, bad(api.EValue)},
		{`do.area 1 1 1 1; do.fetch 0 0; do.fetch 0 1; do.offset 2; do.one`, []told{{"A1", num(-2)}, {"B1", num(0)}}, bad(api.ERef)},
		// IIndex.
		{`do.area 1 1 3 2; do.fetch 0 0; do.index 1; do.one`, []told{{"A1", num(3)}, {"B4", num(4)}}, num(4)},
		{`do.area 1 1 3 2; do.fetch 0 0; do.fetch 0 1; do.index 2; do.one`, []told{{"A1", num(1)}, {"B1", num(2)}, {"C2", num(4)}}, num(4)},
		{`do.area 1 1 3 2; do.fetch 0 0; do.fetch 0 1; do.index 2; do.one`, []told{{"A1", num(1)}, {"B1", num(3)}}, bad(api.ERef)},
		{`do.area 1 1 3 2; do.fetch 0 0; do.fetch 0 1; do.index 2; do.one`, []told{{"A1", num(4)}, {"B1", num(1)}}, bad(api.ERef)},
		{`do.area 1 1 3 2; do.fetch 0 0; do.fetch 0 1; do.index 2; do.one`, []told{{"A1", txt("y")}, {"B1", bad(api.ENA)}}, bad(api.ENA)},
		{`const e 2; do.const 0; do.fetch 0 0; do.index 1; do.one`, []told{{"A1", bad(api.ENA)}}, bad(api.ENum)},
		// IWalk.
		{`do.area 1 0 1 1; do.fetch 0 0; do.area 0 1 0 1; do.walk 54 3`, []told{{"A1", txt("5")}, {"A2", num(1)}, {"B2", txt("9")}, {"B1", num(2)}}, num(8)},
		{`const e 2; do.const 0; do.area 0 0 1 1; do.walk 55 2`, nil, bad(api.ENum)},
		{`do.fetch 0 0; do.area 1 0 3 0; do.walk 70 2`, []told{{"A1", num(3)}, {"A2", num(1)}, {"A3", num(3)}}, num(2)},
		{`do.area 0 0 1 0; do.walk 76 1`, []told{{"A1", blank()}, {"A2", bad(api.ENA)}}, bad(api.ENA)},
		{`do.area 0 0 9 0; do.walk 65 1; do.area 0 1 9 1; do.walk 66 1; do.bin 7`, []told{{"A1", no()}, {"B1", yes()}}, no()},
	} {
		tell(t, c.lines, of(t, c.lines), c.gets, c.end)
	}
}

// TestWhereItStands looks at machines at each of their stops.
func TestWhereItStands(t *testing.T) {
	for _, c := range []struct {
		lines string
		stops []api.MachLook
	}{
		{`do.here 47`, nil},
		{`do.fetch 0 0`, []api.MachLook{{}}},
		{`do.jump 1; do.fetch 0 0; do.jump 3`, []api.MachLook{{At: 1}}},
		{`do.fetch 0 0; do.fetch 0 1; do.bin 4`, []api.MachLook{{}, {At: 1, Height: 1}}},
		{`do.area 0 0 1 0; do.walk 54 1`, []api.MachLook{{At: 1}, {At: 1}}},
		{`do.here 47; do.area 0 0 1 0; do.here 48; do.area 1 1 1 1; do.walk 54 3; do.bin 4`, []api.MachLook{{At: 4, Height: 1}, {At: 4, Height: 1}, {At: 4, Height: 1}}},
		{`do.here 47; do.here 48; do.area 0 0 0 0; do.one; do.bin 4; do.bin 4`, []api.MachLook{{At: 3, Height: 2}}},
		{`do.area 0 0 0 0; do.fetch 0 0; do.fetch 0 1; do.offset 2; do.one`, []api.MachLook{{At: 1, Height: 1}, {At: 2, Height: 2}, {At: 4}}},
	} {
		p := of(t, c.lines)
		m := begin(t, p, place("B7"))
		for i, want := range c.stops {
			want.Fetches = i
			if got := m.Look(); got != want {
				t.Errorf("P18.5: %s behind %d values stands at %+v, not %+v", c.lines, i, got, want)
			}
			giving(t, c.lines, m, num(1))
		}
		want := api.MachLook{At: len(p.Ins), Height: 1, Fetches: len(c.stops), Over: true}
		if got := m.Look(); got != want {
			t.Errorf("P18.5: %s at its end stands at %+v, not %+v", c.lines, got, want)
		}
	}
}

// refused checks that code is refused at a place.
func refused(t *testing.T, p api.Code, own api.Spot, want api.Errno) {
	t.Helper()
	if m, e := New(p, own); e != want || m != nil {
		t.Errorf("P18.1: %s at %v: %v, %d; not nil, %d", written(p), own, m, e, want)
	}
}

// noCode gives code that may not be, with its error.
func noCode() map[string]api.Errno {
	return map[string]api.Errno{
		"": api.ErrLong, "const i 1": api.ErrLong,
		"do.drop": api.ErrCode, "do.un 1": api.ErrCode, "do.jump 0": api.ErrCode, "do.jump 2; do.fetch 0 0": api.ErrCode, "do.area 0 0 0 0": api.ErrCode, "do.const 0": api.ErrCode,
		"do.fetch 0 0; do.fetch 0 0": api.ErrCode, "do.fetch 65536 0": api.ErrCode, "do.fetch 0 702": api.ErrCode, "do.area 0 0 4096 0; do.one": api.ErrCode, "do.here 49": api.ErrCode, "do.fetch 0 0; do.one": api.ErrCode,
		"do.fetch 0 0; do.fetch 0 0; do.call 1 2": api.ErrCode, "do.fetch 0 0; do.walk 1 1": api.ErrCode, "const b 2; do.const 0": api.ErrCode, "const e 7; do.const 0": api.ErrCode,
		"do.fetch 0 0; do.err 3 0; do.fetch 0 1; do.bin 4; do.un 1": api.ErrCode, "do.fetch 0 0; do.err 2 1; do.un 1": api.ErrCode,
	}
}

func TestNewIsRefused(t *testing.T) {
	good := api.Code{Ins: []api.Ins{{Op: api.IFetch}}}
	for _, off := range []api.Spot{{Row: -1}, {Col: -1}, {Row: 65536}, {Col: 702}, {Row: math.MaxInt}, {Row: math.MinInt}, {Col: math.MaxInt}, {Col: math.MinInt}, {Row: 1 << 32}, {Col: 1 << 32}, {Row: -1, Col: -1}} {
		refused(t, good, off, api.ErrSpot)
		refused(t, api.Code{}, off, api.ErrSpot)
		refused(t, api.Code{Ins: []api.Ins{{Op: 99}}}, off, api.ErrSpot)
	}
	for _, on := range []api.Spot{{}, {Row: 65535, Col: 701}, {Row: 65535}, {Col: 701}} {
		begin(t, good, on)
		for lines, want := range noCode() {
			refused(t, loose(lines), on, want)
		}
	}
	for _, p := range []api.Code{
		{Ins: []api.Ins{{Op: 0}}}, {Ins: []api.Ins{{Op: 21}}}, {Ins: []api.Ins{{Op: -1}}}, {Ins: []api.Ins{{Op: math.MinInt}}},
		{Ins: []api.Ins{{Op: api.IFetch, C: 1}}}, {Ins: []api.Ins{{Op: api.IFetch, D: 1}}}, {Ins: []api.Ins{{Op: api.IFetch, T: []int{1}}}},
		{Ins: good.Ins, Consts: []api.Value{{}}}, {Ins: good.Ins, Consts: []api.Value{{Kind: 9}}}, {Ins: good.Ins, Consts: []api.Value{txt(xs(32768))}},
		{Ins: []api.Ins{{Op: api.IFetch}, {Op: api.IChoose, A: 2}, {Op: api.IFetch}}}, {Ins: []api.Ins{{Op: api.IFetch}, {Op: api.IErr, A: 2, B: math.MaxInt}, {Op: api.IDrop}}},
	} {
		refused(t, p, api.Spot{}, api.ErrCode)
	}
	for _, p := range []api.Code{
		{Ins: make([]api.Ins, 8193)}, {Ins: good.Ins, Consts: make([]api.Value, 1025)}, {Consts: []api.Value{num(1)}}, {Ins: []api.Ins{}},
		{Ins: []api.Ins{{Op: api.IFetch}, {Op: api.IChoose, A: 3, T: make([]int, 8193)}, {Op: api.IFetch}}},
	} {
		refused(t, p, api.Spot{}, api.ErrLong)
	}
	// A nil list is an empty one.
	tell(t, "without constants", api.Code{Ins: []api.Ins{{Op: api.IFetch, T: []int{}}}, Consts: []api.Value{}}, []told{{"A1", num(3)}}, num(3))
}

// loose reads lines of code that need not be such as may be.
func loose(lines string) api.Code {
	names := strings.Split(" const fetch area un bin call err if ok choose match drop jump here place one indirect offset index walk", " ")
	p := api.Code{}
	for line := range strings.SplitSeq(lines, "; ") {
		word, rest, _ := strings.Cut(line, " ")
		if word == "const" {
			v := api.Value{}
			fmt.Sscan(rest[2:], &v.Int)
			v.Kind = strings.IndexByte(" ibte", rest[0])
			p.Consts = append(p.Consts, v)
			continue
		}
		for op, name := range names {
			if op > 0 && word == "do."+name {
				in := api.Ins{Op: op}
				fmt.Sscan(rest, &in.A, &in.B, &in.C, &in.D)
				p.Ins = append(p.Ins, in)
			}
		}
	}
	return p
}

// wrongValues are values that may not be.
func wrongValues() []api.Value {
	return []api.Value{
		{Kind: 9}, {Kind: -1}, {Kind: 5}, {Kind: math.MinInt}, {Int: 1}, {Text: "x"}, {Kind: api.VInt, Text: "x"}, {Kind: api.VBool, Int: 2}, {Kind: api.VBool, Int: -1}, {Kind: api.VBool, Text: "TRUE"},
		{Kind: api.VText, Int: 1}, {Kind: api.VText, Text: xs(32768)}, bad(0), bad(api.ECycle), bad(-1), {Kind: api.VErr, Int: api.ENA, Text: "#N/A"},
	}
}

// TestValuesThatAreRefused gives wrong values ahead of each right one: at a fetch, within a walk, and at an area of one place.
func TestValuesThatAreRefused(t *testing.T) {
	p := of(t, `do.fetch 0 0; do.area 1 0 2 0; do.walk 54 1; do.area 3 0 3 0; do.one; do.walk 69 3`)
	m := begin(t, p, api.Spot{})
	for i, s := range []struct {
		at     string
		doing  int
		height int
	}{{"A1", 0, 0}, {"A2", 2, 1}, {"A3", 2, 1}, {"A4", 4, 2}} {
		look := api.MachLook{At: s.doing, Height: s.height, Fetches: i}
		wanting(t, "ahead of wrong values", m, place(s.at), look)
		for _, v := range wrongValues() {
			if e := m.Give(v); e != api.ErrValue {
				t.Errorf("P18.3: %s is taken: %d", brief(v), e)
			}
			wanting(t, "behind a wrong value", m, place(s.at), look)
		}
		giving(t, "behind wrong values", m, num(int64(i+1)))
	}
	ending(t, "behind wrong values", m, txt("514"), api.MachLook{At: 6, Height: 1, Fetches: 4, Over: true})
	// The longest text may be, and each error but #CYCLE!.
	tell(t, "the longest text", of(t, "do.fetch 0 0"), []told{{"A1", txt(xs(32767))}}, txt(xs(32767)))
	for e := int64(api.EName); e <= api.ENA; e++ {
		tell(t, "an error", of(t, "do.fetch 0 0"), []told{{"A1", bad(e)}}, bad(e))
	}
}

// TestItsOwnPlace asks machines at other places of the grid for theirs.
func TestItsOwnPlace(t *testing.T) {
	for _, own := range []api.Spot{{}, {Row: 65535}, {Col: 701}, {Row: 65535, Col: 701}, {Row: 9, Col: 4}} {
		end := api.MachLook{At: 1, Height: 1, Over: true}
		ending(t, "ROW()", begin(t, of(t, "do.here 47"), own), num(int64(own.Row+1)), end)
		ending(t, "COLUMN()", begin(t, of(t, "do.here 48"), own), num(int64(own.Col+1)), end)
	}
}
