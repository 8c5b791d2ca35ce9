package code

import (
	"fmt"
	"math"
	"slices"
	"strings"
	"testing"
	"time"

	"quadrille/api"
	"quadrille/list"
)

const (
	low  = math.MinInt
	high = math.MaxInt
)

// within fails the test if the work goes on for far longer than it can.
func within(t *testing.T, what string, work func()) {
	t.Helper()
	done := make(chan struct{})
	go func() {
		defer close(done)
		work()
	}()
	select {
	case <-done:
	case <-time.After(60 * time.Second):
		t.Fatalf("P0.1: %s is not done", what)
	}
}

// num, txt, bad, yes and no are values, made apart from the program's own.
func num(n int64) api.Value { return api.Value{Kind: api.VInt, Int: n} }

func txt(s string) api.Value { return api.Value{Kind: api.VText, Text: s} }

func bad(e int64) api.Value { return api.Value{Kind: api.VErr, Int: e} }

func yes() api.Value { return api.Value{Kind: api.VBool, Int: 1} }

func no() api.Value { return api.Value{Kind: api.VBool} }

func consts(all ...api.Value) []api.Value { return all }

// do is an instruction with its numbers from A on.
func do(op int, given ...int) api.Ins {
	var n [4]int
	copy(n[:], given)
	return api.Ins{Op: op, A: n[0], B: n[1], C: n[2], D: n[3]}
}

// pick is the instruction that goes to one of a list.
func pick(a int, t ...int) api.Ins { return api.Ins{Op: api.IChoose, A: a, T: t} }

// of is code with some constants.
func of(values []api.Value, all ...api.Ins) api.Code { return api.Code{Ins: all, Consts: values} }

// bare is code without constants.
func bare(all ...api.Ins) api.Code { return api.Code{Ins: all} }

// A value, an area, an error (of the constant 0), and what makes a value of an area.
var (
	val   = do(api.IFetch, 6, 1)
	box   = do(api.IArea, 0, 0, 1, 1)
	first = do(api.IConst, 0)
	one   = do(api.IOne)
	drop  = do(api.IDrop)
	minus = do(api.IUn, api.UMinus)
	plus  = do(api.IBin, api.BAdd)
)

func sum(n int) api.Ins { return do(api.IWalk, api.FSum, n) }

func jump(a int) api.Ins { return do(api.IJump, a) }

func onErr(a, b int) api.Ins { return do(api.IErr, a, b) }

// names are the instructions' names, by their Ops, as the document lists them.
func names() []string {
	return strings.Split(" const fetch area un bin call err if ok choose match drop jump here place one indirect offset index walk", " ")
}

// uses is how many numbers the document says that an instruction uses, by its Op.
func uses() []int { return []int{0, 1, 2, 4, 1, 1, 2, 2, 2, 2, 1, 1, 0, 1, 1, 1, 0, 0, 1, 1, 2} }

// written writes code in the document's form, apart from the program's own writing. Its Ops are such as there are; the numbers that an instruction does not use are left away.
func written(p api.Code) string {
	var b strings.Builder
	for _, v := range p.Consts {
		switch v.Kind {
		case api.VText:
			b.WriteString("const t \"")
			for _, c := range []byte(v.Text) {
				switch {
				case c == '"' || c == '\\':
					fmt.Fprintf(&b, "\\%c", c)
				case c < 32 || c > 126:
					fmt.Fprintf(&b, "\\x%02x", c)
				default:
					b.WriteByte(c)
				}
			}
			b.WriteString("\"\n")
		default:
			fmt.Fprintf(&b, "const %s %d\n", map[int]string{api.VInt: "i", api.VBool: "b", api.VErr: "e"}[v.Kind], v.Int)
		}
	}
	for _, in := range p.Ins {
		b.WriteString("do." + names()[in.Op])
		for _, n := range []int{in.A, in.B, in.C, in.D}[:uses()[in.Op]] {
			fmt.Fprintf(&b, " %d", n)
		}
		for _, n := range in.T {
			fmt.Fprintf(&b, " %d", n)
		}
		b.WriteByte('\n')
	}
	return b.String()
}

// same tells whether two codes are alike; a nil list is the same as an empty one.
func same(p, q api.Code) bool {
	return slices.Equal(p.Consts, q.Consts) && slices.EqualFunc(p.Ins, q.Ins, func(a, b api.Ins) bool {
		return a.Op == b.Op && a.A == b.A && a.B == b.B && a.C == b.C && a.D == b.D && slices.Equal(a.T, b.T)
	})
}

// brief writes the beginning of a text.
func brief(s string) string { return fmt.Sprintf("%.200q of %d bytes", s, len(s)) }

// briefCode writes the beginning of code of any form.
func briefCode(p api.Code) string {
	ins, values := p.Ins[:min(len(p.Ins), 12)], p.Consts[:min(len(p.Consts), 4)]
	return fmt.Sprintf("%d instructions %.400s, %d constants %.100s", len(p.Ins), fmt.Sprint(ins), len(p.Consts), fmt.Sprintf("%+v", values))
}

// good checks that code may be, is written in the document's form, and read back.
func good(t *testing.T, what string, p api.Code) {
	t.Helper()
	if e := May(p); e != api.OK {
		t.Errorf("P16.1: %s: %d, it may be: %s", what, e, briefCode(p))
		return
	}
	want := written(p)
	s, e := Text(p)
	if s != want || e != api.OK {
		t.Errorf("P16.2: %s: %s, %d, not %s", what, brief(s), e, brief(want))
		return
	}
	if q, at, e := Read(s); !same(p, q) || at != 0 || e != api.OK {
		t.Errorf("P16.3: %s: %s, %d, %d, of %s", what, briefCode(q), at, e, brief(s))
	}
}

// wrong checks that code may not be, and is not written.
func wrong(t *testing.T, what string, p api.Code, want api.Errno) {
	t.Helper()
	if e := May(p); e != want {
		t.Errorf("P16.1: %s: %d, not %d: %s", what, e, want, briefCode(p))
	}
	if s, e := Text(p); s != "" || e != want {
		t.Errorf("P16.2: %s: %s, %d, not %d", what, brief(s), e, want)
	}
}

// unread checks that a text is refused.
func unread(t *testing.T, s string, at int, want api.Errno) {
	t.Helper()
	if p, place, e := Read(s); p.Ins != nil || p.Consts != nil || place != at || e != want {
		t.Errorf("P16.3: Read(%s): %s, %d, %d, not %d, %d", brief(s), briefCode(p), place, e, at, want)
	}
}

// wrongBoth checks that code whose fault is no number that is left away may not be, and is refused as a text.
func wrongBoth(t *testing.T, what string, p api.Code, want api.Errno) {
	t.Helper()
	wrong(t, what, p, want)
	s := written(p)
	unread(t, s, len(s), want)
}

func TestTheDocumentsExamples(t *testing.T) {
	a1 := do(api.IFetch, 0, 0)
	good(t, "A1", bare(a1))
	wrongBoth(t, "a jump to 3", of(consts(num(1)), a1, onErr(3, 0), first, do(api.IBin, 4)), api.ErrCode)
	good(t, "A1+1", of(consts(num(1)), a1, onErr(4, 0), first, do(api.IBin, 4)))
	wrongBoth(t, "an A at the end", bare(box), api.ErrCode)
	good(t, "one place", bare(box, one))
	good(t, "a jump to what comes next", bare(jump(1), a1))
	wrongBoth(t, "no way to 1", bare(jump(2), a1, do(api.IFetch, 0, 1)), api.ErrCode)
	wrongBoth(t, "nothing to drop", bare(drop), api.ErrCode)
	wrongBoth(t, "nothing", api.Code{}, api.ErrLong)
	good(t, "a text", of(consts(txt("a\n\"")), first))
	for s, want := range map[string]api.Code{
		"do.fetch 0 0\n": bare(a1),
		"const i 1\ndo.fetch 0 0\ndo.err 4 0\ndo.const 0\ndo.bin 4\n": of(consts(num(1)), a1, onErr(4, 0), first, do(api.IBin, 4)),
		"do.area 0 0 1 1\ndo.one\n":                                   bare(box, one),
		"do.jump 1\ndo.fetch 0 0\n":                                   bare(jump(1), a1),
		"const t \"a\\x0a\\\"\"\ndo.const 0\n":                        of(consts(txt("a\n\"")), first),
	} {
		if p, at, e := Read(s); !same(p, want) || at != 0 || e != api.OK {
			t.Errorf("P16.3: Read(%q): %s, %d, %d", s, briefCode(p), at, e)
		}
		if got, e := Text(want); got != s || e != api.OK {
			t.Errorf("P16.2: %q, %d, not %q", got, e, s)
		}
	}
	for s, want := range map[string]api.Errno{
		"const i 1\ndo.fetch 0 0\ndo.err 3 0\ndo.const 0\ndo.bin 4\n": api.ErrCode,
		"do.area 0 0 1 1\n":                       api.ErrCode,
		"do.jump 2\ndo.fetch 0 0\ndo.fetch 0 1\n": api.ErrCode,
		"do.drop\n": api.ErrCode,
		"":          api.ErrLong,
	} {
		unread(t, s, len(s), want)
	}
}

// TestTheExamplesOfFormulas has the code that the document lays of formulas.
func TestTheExamplesOfFormulas(t *testing.T) {
	for _, lines := range []string{
		"const i 1; do.const 0; do.err 4 0; do.fetch 0 0; do.bin 4",
		"const i 2; const t \"x\"; do.fetch 0 0; do.if 4 5; do.const 0; do.jump 5; do.const 1",
		"const i 1; do.area 0 0 1 1; do.err 4 0; do.const 0; do.walk 54 2",
		"const i 2; do.fetch 0 0; do.err 4 0; do.const 0; do.call 3 2",
		"const e 4; do.const 0",
		"const e 4; do.const 0; do.place 49",
		"const i 1; const i 2; do.area 0 0 1 1; do.err 6 0; do.const 0; do.err 6 1; do.const 1; do.index 2; do.one",
		"do.fetch 0 0; do.choose 5 2 4; do.fetch 0 1; do.jump 5; do.fetch 0 2",
		"const i 1; const i 2; const e 6; do.fetch 0 0; do.err 9 0; do.const 0; do.err 9 1; do.match 7; do.const 1; do.jump 9; do.drop; do.const 2",
	} {
		s := strings.ReplaceAll(lines, "; ", "\n") + "\n"
		p, at, e := Read(s)
		if at != 0 || e != api.OK {
			t.Errorf("P16.3: Read(%q): %d, %d", s, at, e)
			continue
		}
		if got, e := Text(p); got != s || e != api.OK {
			t.Errorf("P16.2: %q, %d, not %q", got, e, s)
		}
	}
}

// specimen is code that may be, of which one instruction is looked at.
type specimen struct {
	line string // of that instruction
	at   int    // where it stands
	p    api.Code
}

// specimens gives code with each instruction of the table.
func specimens() []specimen {
	text := consts(num(3), bad(api.ERef))
	return []specimen{
		{"do.const 0", 0, of(text, do(api.IConst, 0))},
		{"do.const 1", 0, of(text, do(api.IConst, 1))},
		{"do.fetch 65535 701", 0, bare(do(api.IFetch, 65535, 701))},
		{"do.area 1 2 3 4", 0, bare(do(api.IArea, 1, 2, 3, 4), one)},
		{"do.un 3", 1, bare(val, do(api.IUn, api.UPercent))},
		{"do.bin 12", 2, bare(val, val, do(api.IBin, api.BMoreEq))},
		{"do.call 19 3", 3, bare(val, val, val, do(api.ICall, api.FMid, 3))},
		{"do.call 40 1", 1, bare(val, do(api.ICall, api.FIserror, 1))},
		{"do.call 35 0", 0, bare(do(api.ICall, api.FNa, 0))},
		{"do.err 4 1", 2, bare(val, val, do(api.IErr, 4, 1), plus)},
		{"do.if 4 5", 1, bare(val, do(api.IIf, 4, 5), val, jump(5), val)},
		{"do.ok 3 0", 1, bare(val, do(api.IOk, 3, 0), val)},
		{"do.ok 3 6", 1, bare(val, do(api.IOk, 3, 6), val)},
		{"do.choose 5 2 4", 1, bare(val, pick(5, 2, 4), val, jump(5), val)},
		{"do.match 5", 2, bare(val, val, do(api.IMatch, 5), val, jump(5))},
		{"do.drop", 1, bare(val, drop, val)},
		{"do.jump 2", 1, bare(val, jump(2), minus)},
		{"do.here 48", 0, bare(do(api.IHere, api.FColumn))},
		{"do.place 50", 1, bare(box, do(api.IPlace, api.FColumns))},
		{"do.one", 1, bare(box, one)},
		{"do.indirect", 1, bare(val, do(api.IIndirect), one)},
		{"do.offset 2", 3, bare(box, val, val, do(api.IOffset, 2), one)},
		{"do.index 2", 3, bare(box, val, val, do(api.IIndex, 2), one)},
		{"do.walk 54 2", 2, bare(val, box, sum(2))},
	}
}

func TestEveryInstruction(t *testing.T) {
	met := map[int]bool{}
	for _, c := range specimens() {
		good(t, c.line, c.p)
		met[c.p.Ins[c.at].Op] = true
		s, e := Text(c.p)
		lines := strings.Split(s, "\n")
		if e != api.OK || len(lines) != len(c.p.Consts)+len(c.p.Ins)+1 || lines[len(c.p.Consts)+c.at] != c.line {
			t.Errorf("P16.2: %q, %d has no line %q", s, e, c.line)
		}
	}
	for op := api.IConst; op <= api.IWalk; op++ {
		if !met[op] {
			t.Errorf("no code with the Op %d", op)
		}
	}
}

// changed gives code with another instruction at a place.
func changed(p api.Code, at int, change func(in *api.Ins)) api.Code {
	p.Ins = slices.Clone(p.Ins)
	change(&p.Ins[at])
	return p
}

func TestOpsThatAreNone(t *testing.T) {
	for _, c := range specimens() {
		for _, op := range []int{0, -1, 21, 22, 255, 256 + 1, 1<<32 + c.p.Ins[c.at].Op, low, high, -c.p.Ins[c.at].Op} {
			wrong(t, c.line, changed(c.p, c.at, func(in *api.Ins) { in.Op = op }), api.ErrCode)
		}
	}
}

// TestWhatAnInstructionDoesNotUse sets each number that is not used, and a T where none is told.
func TestWhatAnInstructionDoesNotUse(t *testing.T) {
	for _, c := range specimens() {
		in := c.p.Ins[c.at]
		for _, n := range []int{1, -1, c.at + 1, 1 << 32, high, low} {
			for number := uses()[in.Op]; number < 4; number++ {
				wrong(t, c.line, changed(c.p, c.at, func(in *api.Ins) {
					*[]*int{&in.A, &in.B, &in.C, &in.D}[number] = n
				}), api.ErrCode)
			}
			if in.Op != api.IChoose {
				wrong(t, c.line, changed(c.p, c.at, func(in *api.Ins) { in.T = []int{n} }), api.ErrCode)
			}
		}
		empty := changed(c.p, c.at, func(in *api.Ins) { in.T = append([]int{7}, in.T...)[1:] })
		good(t, c.line+" with a list that is not nil", empty)
		if in.Op == api.IChoose {
			for _, none := range [][]int{nil, {}, make([]int, 0, 3)} {
				wrongBoth(t, "a choice of none", changed(c.p, c.at, func(in *api.Ins) { in.T = none }), api.ErrCode)
			}
		}
	}
}

func TestJumpsGoAhead(t *testing.T) {
	jumps := map[int]int{api.IErr: 1, api.IIf: 2, api.IOk: 1, api.IChoose: 1, api.IMatch: 1, api.IJump: 1}
	for _, c := range specimens() {
		in := c.p.Ins[c.at]
		end := len(c.p.Ins)
		for _, to := range []int{c.at, c.at - 1, 0, -1, end + 1, end + 2, 1<<32 + end, high, low} {
			for number := range jumps[in.Op] {
				wrongBoth(t, c.line, changed(c.p, c.at, func(in *api.Ins) { *[]*int{&in.A, &in.B}[number] = to }), api.ErrCode)
			}
			for i := range in.T {
				wrongBoth(t, c.line, changed(c.p, c.at, func(in *api.Ins) {
					in.T = slices.Clone(in.T)
					in.T[i] = to
				}), api.ErrCode)
			}
		}
	}
	good(t, "jumps to the end", bare(val, onErr(3, 0), minus))
	good(t, "a jump to the end, from the last one", bare(val, jump(2)))
	good(t, "an error at the end, from the last one", bare(val, onErr(2, 0)))
	wrongBoth(t, "a jump behind the end, from the last one", bare(val, jump(3)), api.ErrCode)
}

func TestNumbersAsTold(t *testing.T) {
	three := consts(num(1), num(2), num(3))
	for _, c := range []struct {
		p         api.Code
		number    int // 0: A, 1: B
		low, high int
	}{
		{of(three, do(api.IConst, 0)), 0, 0, 2},
		{bare(do(api.IFetch, 0, 0)), 0, 0, 65535},
		{bare(do(api.IFetch, 0, 0)), 1, 0, 701},
		{bare(do(api.IFetch, 65535, 701)), 0, 0, 65535},
		{bare(do(api.IFetch, 65535, 701)), 1, 0, 701},
		{bare(val, do(api.IUn, 1)), 0, 1, 3},
		{bare(val, val, do(api.IBin, 1)), 0, 1, 12},
		{bare(do(api.IHere, api.FRow)), 0, 47, 48},
		{bare(box, do(api.IPlace, api.FRow)), 0, 47, 50},
	} {
		at := len(c.p.Ins) - 1
		set := func(n int) api.Code {
			return changed(c.p, at, func(in *api.Ins) { *[]*int{&in.A, &in.B}[c.number] = n })
		}
		for n := c.low; n <= min(c.high, c.low+100); n++ {
			good(t, "a number", set(n))
		}
		good(t, "the greatest number", set(c.high))
		for _, n := range []int{c.low - 1, c.low - 2, -c.high, c.high + 1, c.high + 2, 1 << 32, 1<<32 + c.low, -1, low, high, low + c.low, high - 1} {
			if n < c.low || n > c.high {
				wrongBoth(t, "a number", set(n), api.ErrCode)
			}
		}
	}
	wrongBoth(t, "a constant where there is none", bare(first), api.ErrCode)
	for b := range 20 {
		p := bare(val, do(api.IOk, 3, b), val)
		if b == 0 || b == 6 {
			good(t, "ok", p)
		} else {
			wrongBoth(t, "ok", p, api.ErrCode)
		}
		wrongBoth(t, "ok", bare(val, do(api.IOk, 3, -1-b), val), api.ErrCode)
	}
}

// TestCountsOfArguments lays as many values as the number says, and holds the number alone against what may be.
func TestCountsOfArguments(t *testing.T) {
	for n := -2; n <= 7; n++ {
		laid := append([]api.Ins{box}, slices.Repeat([]api.Ins{val}, max(n, 0))...)
		offset := bare(append(slices.Clone(laid), do(api.IOffset, n), one)...)
		index := bare(append(slices.Clone(laid), do(api.IIndex, n), one)...)
		if n >= 2 && n <= 4 {
			good(t, "offset", offset)
		} else {
			wrongBoth(t, "offset", offset, api.ErrCode)
		}
		if n == 1 || n == 2 {
			good(t, "index", index)
		} else {
			wrongBoth(t, "index", index, api.ErrCode)
		}
	}
	for _, n := range []int{low, high, high - 1, -high, 1 << 32, 1<<32 + 2} {
		wrongBoth(t, "offset", bare(box, val, val, do(api.IOffset, n), one), api.ErrCode)
		wrongBoth(t, "index", bare(box, val, val, do(api.IIndex, n), one), api.ErrCode)
	}
}

// TestFunctions has every function, and what is none, with every count of arguments.
func TestFunctions(t *testing.T) {
	for f := -3; f <= api.Functions+3; f++ {
		told, e := list.Info(f)
		for n := range 8 {
			takes := e == api.OK && n >= told.Min && (n <= told.Max || told.Max == -1)
			laid := slices.Repeat([]api.Ins{val}, n)
			call := bare(append(slices.Clone(laid), do(api.ICall, f, n))...)
			walk := bare(append(slices.Clone(laid), do(api.IWalk, f, n))...)
			what := fmt.Sprintf("function %d of %d", f, n)
			if takes && (told.Class == api.ClassScalar || told.Class == api.ClassAsking) {
				good(t, what, call)
			} else {
				wrongBoth(t, what, call, api.ErrCode)
			}
			if takes && told.Class == api.ClassWalking {
				good(t, what, walk)
			} else {
				wrongBoth(t, what, walk, api.ErrCode)
			}
		}
		for _, n := range []int{-1, low, high, high - 1, -high, 1 << 32, 1<<32 + 1} {
			wrongBoth(t, "a huge count", bare(val, do(api.ICall, f, n)), api.ErrCode)
			wrongBoth(t, "a huge count", bare(val, do(api.IWalk, f, n)), api.ErrCode)
		}
	}
	for _, f := range []int{low, high, 1<<32 + api.FAbs, 1<<32 + api.FSum, -api.FSum} {
		wrongBoth(t, "no function", bare(val, do(api.ICall, f, 1)), api.ErrCode)
		wrongBoth(t, "no function", bare(val, do(api.IWalk, f, 1)), api.ErrCode)
	}
}

func TestConstants(t *testing.T) {
	for _, v := range []api.Value{
		num(0), num(-1), num(math.MinInt64), num(math.MaxInt64), yes(), no(), txt(""), txt("x"), txt(" \" \\ \n"), txt(strings.Repeat("x", 32767)),
		bad(api.EName), bad(api.ENum), bad(api.ERef), bad(api.EValue), bad(api.EDiv), bad(api.ENA),
	} {
		good(t, "a constant", of(consts(v), first))
		good(t, "a constant that nobody lays", of(consts(v), val))
		good(t, "two constants that are the same", of(consts(v, v), do(api.IConst, 1)))
	}
	for _, v := range []api.Value{
		{}, {Int: 1}, {Text: "x"}, {Kind: api.VInt, Text: "x"}, {Kind: api.VBool, Int: 2}, {Kind: api.VBool, Int: -1}, {Kind: api.VBool, Text: "x"},
		{Kind: api.VText, Int: 1}, txt(strings.Repeat("x", 32768)), bad(0), bad(-1), bad(api.ECycle), bad(8), {Kind: api.VErr, Int: 1, Text: "x"},
		{Kind: 5}, {Kind: -1}, {Kind: high}, {Kind: low},
	} {
		wrong(t, "a constant that may not be", of(consts(v), first), api.ErrCode)
		wrong(t, "a constant that may not be, and nobody lays", of(consts(v), val), api.ErrCode)
		wrong(t, "a constant that may not be, behind one that may", of(consts(num(1), v), first), api.ErrCode)
		wrong(t, "a constant that may not be, ahead of one that may", of(consts(v, num(1)), do(api.IConst, 1)), api.ErrCode)
	}
}
