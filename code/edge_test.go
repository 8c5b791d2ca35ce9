package code

import (
	"slices"
	"strings"
	"testing"

	"quadrille/api"
)

// times gives code with one instruction again and again.
func times(many int, in api.Ins) []api.Ins { return slices.Repeat([]api.Ins{in}, many) }

func TestCountsOfInstructions(t *testing.T) {
	for _, many := range []int{1, 2, 8190, 8191, 8192} {
		good(t, "many instructions", bare(append([]api.Ins{val}, times(many-1, minus)...)...))
	}
	for _, many := range []int{8193, 8194, 100_000} {
		wrongBoth(t, "too many instructions", bare(append([]api.Ins{val}, times(many-1, minus)...)...), api.ErrLong)
		// Whatever else may not be.
		wrong(t, "too many instructions that are none", bare(times(many, api.Ins{})...), api.ErrLong)
		wrongBoth(t, "too many instructions to which no way leads", bare(append([]api.Ins{jump(many)}, times(many-1, drop)...)...), api.ErrLong)
	}
	wrong(t, "as many instructions as there may be, all of them none", bare(times(8192, api.Ins{})...), api.ErrCode)
	// The last jump that there may be.
	far := bare(append([]api.Ins{val, onErr(8192, 0)}, times(8190, minus)...)...)
	good(t, "a jump to 8192", far)
	far.Ins[1].A = 8193
	wrongBoth(t, "a jump to 8193", far, api.ErrCode)
	for _, none := range []api.Code{{}, {Ins: []api.Ins{}}, {Ins: make([]api.Ins, 0, 7)}, {Consts: consts(num(1))}, {Consts: consts(api.Value{})}, {Consts: make([]api.Value, 1025)}} {
		wrong(t, "no instruction", none, api.ErrLong)
	}
}

func TestCountsOfConstants(t *testing.T) {
	for _, many := range []int{1, 1023, 1024} {
		values := slices.Repeat(consts(num(5)), many)
		good(t, "many constants", of(values, do(api.IConst, many-1)))
		wrongBoth(t, "a constant behind the last one", of(values, do(api.IConst, many)), api.ErrCode)
		values[many-1] = api.Value{}
		wrong(t, "a blank as the last one", of(values, val), api.ErrCode)
	}
	for _, many := range []int{1025, 5000} {
		wrongBoth(t, "too many constants", of(slices.Repeat(consts(num(5)), many), val), api.ErrLong)
		wrong(t, "too many constants, blanks", of(make([]api.Value, many), val), api.ErrLong)
		wrongBoth(t, "too many constants, and an area at the end", of(slices.Repeat(consts(num(5)), many), box), api.ErrLong)
	}
}

func TestLengthsOfLists(t *testing.T) {
	twos := slices.Repeat([]int{2}, 8193)
	for _, many := range []int{1, 8191, 8192} {
		good(t, "a long list", bare(val, pick(3, twos[:many]...), val))
	}
	wrongBoth(t, "too long a list", bare(val, pick(3, twos...), val), api.ErrLong)
	good(t, "two lists", bare(val, pick(6, twos[:4096]...), val, pick(5, slices.Repeat([]int{4}, 4096)...), val, minus))
	wrongBoth(t, "two lists, together too long", bare(val, pick(6, twos[:4096]...), val, pick(5, slices.Repeat([]int{4}, 4097)...), val, minus), api.ErrLong)
	wrongBoth(t, "two lists, together too long, the first one longer", bare(val, pick(6, twos[:8192]...), val, pick(5, 4), val, minus), api.ErrLong)
	// Too long comes ahead of what may not be, and counts lists that nothing uses.
	wrong(t, "jumps to nowhere", bare(val, pick(-1, make([]int, 8193)...)), api.ErrLong)
	wrong(t, "as many jumps to nowhere as there may be", bare(val, pick(2, make([]int, 8192)...)), api.ErrCode)
	unused := val
	unused.T = make([]int, 8193)
	wrong(t, "a list that nothing uses", bare(unused), api.ErrLong)
	unused.T = unused.T[:8192]
	wrong(t, "a list that nothing uses", bare(unused), api.ErrCode)
	none := api.Ins{T: make([]int, 8192)}
	wrong(t, "no instruction, with a list", bare(none), api.ErrCode)
	wrong(t, "no instructions, with lists", bare(none, api.Ins{Op: 99, T: []int{1}}), api.ErrLong)
	wrong(t, "a blank, and lists", of(make([]api.Value, 1), none, none), api.ErrLong)
}

// TestListsThatAreShared has one list in all instructions.
func TestListsThatAreShared(t *testing.T) {
	within(t, "lists that are shared", func() {
		long := make([]int, 1<<24)
		for i := range long {
			long[i] = 8192
		}
		wrong(t, "a list that is shared", bare(times(8192, pick(8192, long...))...), api.ErrLong)
		// 4,096 times the same two jumps, to the end.
		two := []int{8192, 8192}
		wrongBoth(t, "a list that is shared", bare(times(4096, pick(8192, two...))...), api.ErrCode)
	})
}

func TestHeights(t *testing.T) {
	for _, many := range []int{1, 1023, 1024} {
		good(t, "many items", bare(append(times(many, val), sum(many))...))
	}
	for _, many := range []int{1025, 1026, 8191} {
		wrongBoth(t, "too many items", bare(append(times(many, val), sum(many))...), api.ErrCode)
	}
	full := times(1024, val)
	// What lays one more, and what takes as many as it lays.
	for _, in := range []api.Ins{val, box, first, do(api.IHere, api.FRow), do(api.ICall, api.FNa, 0)} {
		wrongBoth(t, "one more", of(wrongs(), slices.Concat(full, []api.Ins{in, sum(1025)})...), api.ErrCode)
		wrongBoth(t, "one more, and one less", of(wrongs(), slices.Concat(full, []api.Ins{in, sum(2), sum(1024)})...), api.ErrCode)
		good(t, "up to the last one", of(wrongs(), slices.Concat(full[1:], []api.Ins{in, sum(1024)})...))
	}
	for _, in := range []api.Ins{minus, do(api.ICall, api.FAbs, 1), sum(1), onErr(1025, 0), jump(1025)} {
		good(t, "as many as there may be", bare(slices.Concat(full, []api.Ins{in, sum(1024)})...))
	}
	good(t, "all below go", bare(slices.Concat(full, []api.Ins{onErr(1026, 1023), sum(1024)})...))
	wrongBoth(t, "one too many below", bare(slices.Concat(full, []api.Ins{onErr(1026, 1024), sum(1024)})...), api.ErrCode)
	good(t, "if, on a full stack", bare(slices.Concat(full, []api.Ins{do(api.IIf, 1027, 1028), val, jump(1028), val, sum(1024)})...))
	good(t, "ok, on a full stack", bare(slices.Concat(full, []api.Ins{do(api.IOk, 1026, 0), val, sum(1024)})...))
	good(t, "choose, on a full stack", bare(slices.Concat(full, []api.Ins{pick(1026, 1025), val, sum(1024)})...))
	good(t, "match, on a full stack", bare(slices.Concat(full, []api.Ins{do(api.IMatch, 1026), val, sum(1023)})...))
	good(t, "drop, on a full stack", bare(slices.Concat(full, []api.Ins{drop, val, sum(1024)})...))
	good(t, "an index, on a full stack", bare(slices.Concat(full[2:], []api.Ins{box, val, do(api.IIndex, 1), sum(1023)})...))
}

// TestHighAndLong has as much on the stack as may be, all along the code, with ways that meet.
func TestHighAndLong(t *testing.T) {
	within(t, "high and long code", func() {
		p := of(wrongs(), times(1024, first)...)
		for len(p.Ins) < 8191 {
			p.Ins = append(p.Ins, onErr(len(p.Ins)+1, 0))
		}
		p.Ins = append(p.Ins, sum(1024))
		good(t, "errors to the next ones", p)
		for i := 1024; i < 8191; i += 3 {
			p.Ins[i], p.Ins[i+1], p.Ins[i+2] = do(api.IOk, i+2, 0), val, do(api.IUn, 1)
		}
		p.Ins = append(p.Ins[:8191], sum(1024))
		good(t, "ways that meet", p)
		q := bare(times(1024, val)...)
		jumps := make([]int, 7166)
		for i := range jumps {
			jumps[i] = 1025 + i
		}
		q.Ins = append(q.Ins, pick(8191, jumps...))
		for range jumps {
			q.Ins = append(q.Ins, jump(8191))
		}
		wrongBoth(t, "a choice of all, unlike at their end", q, api.ErrCode)
		for i := range jumps {
			q.Ins[1025+i] = do(api.IJump, 1026+i)
		}
		q.Ins[8190] = val
		q.Ins = append(q.Ins, sum(1024))
		good(t, "a choice of all", q)
	})
}

func TestGreatAreas(t *testing.T) {
	for _, c := range [][4]int{
		{0, 0, 0, 0}, {0, 0, 4095, 0}, {0, 0, 2047, 1}, {0, 0, 63, 63}, {7, 9, 22, 264}, {0, 0, 4, 701}, {61440, 701, 65535, 701}, {65535, 0, 65535, 701}, {65535, 701, 65535, 701}, {65472, 638, 65535, 701},
	} {
		good(t, "an area", bare(do(api.IArea, c[:]...), one))
	}
	for _, c := range [][4]int{
		{0, 0, 4096, 0}, {0, 0, 2048, 1}, {0, 0, 64, 63}, {0, 0, 63, 64}, {0, 0, 16, 240}, {0, 0, 5, 701}, {61439, 701, 65535, 701}, {0, 0, 65535, 701}, {0, 0, 65535, 0},
		{1, 0, 0, 0}, {0, 1, 0, 0}, {5, 5, 4, 4}, {5, 5, 4, 6}, {5, 5, 6, 4}, {-1, 0, 0, 0}, {0, -1, 0, 0}, {0, 0, -1, 0}, {0, 0, 0, -1},
		{65535, 0, 65536, 0}, {65536, 0, 65536, 0}, {0, 701, 0, 702}, {0, 702, 0, 702}, {low, low, high, high}, {0, 0, high, high}, {low, 0, 0, 0}, {high, high, high, high}, {1 << 32, 0, 1 << 32, 0},
	} {
		wrongBoth(t, "no area, or too great a one", bare(do(api.IArea, c[:]...), one), api.ErrCode)
	}
}

// ofSize gives code whose text has so many bytes, which are some hundred thousand.
func ofSize(many int) api.Code {
	left := many - len("do.const 0\n")
	around := len("const t \"\"\n")
	var p api.Code
	for left > 0 {
		letters := min(left-around, 32767)
		// What is left behind it is either nothing, or room for one more.
		if rest := left - around - letters; rest > 0 && rest < around {
			letters -= around
		}
		p.Consts = append(p.Consts, txt(strings.Repeat("x", letters)))
		left -= letters + around
	}
	p.Ins = []api.Ins{first}
	return p
}

func TestTextsUpToTheLongest(t *testing.T) {
	for _, many := range []int{1 << 19, 1<<20 - 1, 1 << 20} {
		p := ofSize(many)
		if s, _ := Text(p); len(s) != many {
			t.Errorf("P16.2: %d bytes, not %d", len(s), many)
		}
		good(t, "a long text", p)
	}
	for _, many := range []int{1<<20 + 1, 1<<20 + 2, 1<<20 + 50_000, 1 << 22} {
		p := ofSize(many)
		if e := May(p); e != api.OK {
			t.Errorf("P16.1: a text of %d bytes: %d", many, e)
		}
		if s, e := Text(p); s != "" || e != api.ErrLong {
			t.Errorf("P16.2: %d bytes: %s, %d", many, brief(s), e)
		}
		unread(t, written(p), 0, api.ErrLong)
	}
	// The bytes that are too many are those of instructions.
	p := ofSize(1<<20 - 7*1000 + 1)
	p.Ins = append(p.Ins, times(1000, do(api.IUn, 1))...)
	if many := len(written(p)); many != 1<<20+1001 {
		t.Fatal(many)
	}
	if s, e := Text(p); s != "" || e != api.ErrLong {
		t.Errorf("P16.2: many instructions: %s, %d", brief(s), e)
	}
	// May's error comes ahead.
	p.Ins = append(p.Ins, drop)
	wrong(t, "a long text of code that may not be", p, api.ErrCode)
}

// TestTheLongestText has code whose text would be a hundred times too long.
func TestTheLongestText(t *testing.T) {
	within(t, "a very long text", func() {
		p := of(slices.Repeat(consts(txt(strings.Repeat("\xff", 32767))), 1024), first)
		for range 50 {
			if s, e := Text(p); s != "" || e != api.ErrLong {
				t.Errorf("P16.2: %s, %d", brief(s), e)
			}
		}
		if e := May(p); e != api.OK {
			t.Errorf("P16.1: %d", e)
		}
	})
}

func TestBytesOfTexts(t *testing.T) {
	for c := range 256 {
		s := string([]byte{byte(c)})
		for _, text := range []string{s, s + s, "a" + s, s + "a", s + "0a", s + `"`, `\` + s, `\x` + s, s + `x41`} {
			good(t, "a byte", of(consts(txt(text)), first))
		}
	}
	all := make([]byte, 256)
	for c := range all {
		all[c] = byte(c)
	}
	good(t, "all bytes", of(consts(txt(string(all))), first))
	got, e := Text(of(consts(txt("\x00\x1f !\"#[\\]^~\x7f\x80\xa0\xfféx")), first))
	if want := `const t "\x00\x1f !\"#[\\]^~\x7f\x80\xa0\xff\xc3\xa9x"` + "\ndo.const 0\n"; got != want || e != api.OK {
		t.Errorf("P16.2: %q, %d, not %q", got, e, want)
	}
}

func TestEveryConstantsLine(t *testing.T) {
	values := consts(num(0), num(-1), num(-1<<63), num(1<<63-1), yes(), no(), bad(1), bad(6), txt(""), txt("a b"))
	want := "const i 0\nconst i -1\nconst i -9223372036854775808\nconst i 9223372036854775807\nconst b 1\nconst b 0\nconst e 1\nconst e 6\nconst t \"\"\nconst t \"a b\"\ndo.const 9\n"
	p := of(values, do(api.IConst, 9))
	if s, e := Text(p); s != want || e != api.OK {
		t.Errorf("P16.2: %q, %d, not %q", s, e, want)
	}
	good(t, "all kinds of constants", p)
}
