package code

import (
	"math/rand"
	"slices"
	"strings"
	"sync"
	"testing"

	"quadrille/api"
)

// roomy gives code with lists of its own, all with spare room in which something stands.
func roomy(p api.Code) api.Code {
	ins := make([]api.Ins, 0, len(p.Ins)+3)
	for _, in := range p.Ins {
		in.T = append(slices.Clone(in.T), 71, 72, 73)[:len(in.T)]
		ins = append(ins, in)
	}
	ins = append(ins, pick(74, 75, 76), drop, do(99, 1, 2, 3, 4))
	values := append(slices.Clone(p.Consts), txt("behind"), api.Value{}, bad(9))
	return api.Code{Ins: ins[:len(p.Ins)], Consts: values[:len(p.Consts)]}
}

// withRoom gives code with its spare room, in memory of its own.
func withRoom(p api.Code) api.Code {
	out := api.Code{Ins: slices.Clone(p.Ins[:cap(p.Ins)]), Consts: slices.Clone(p.Consts[:cap(p.Consts)])}
	for i, in := range out.Ins {
		out.Ins[i].T = slices.Clone(in.T[:cap(in.T)])
	}
	return out
}

// overwrite writes other things into all of a code's lists, and their spare room.
func overwrite(p api.Code) {
	for i, in := range p.Ins[:cap(p.Ins)] {
		for k := range in.T[:cap(in.T)] {
			in.T[:cap(in.T)][k] = -5
		}
		p.Ins[:cap(p.Ins)][i] = do(api.IJump, -6, 1, 2, 3)
	}
	for i := range p.Consts[:cap(p.Consts)] {
		p.Consts[:cap(p.Consts)][i] = txt("written over")
	}
}

// someCode gives code of every form, that which is refused too.
func someCode() []api.Code {
	var out []api.Code
	for _, c := range specimens() {
		out = append(out, c.p)
	}
	c := rand.New(rand.NewSource(4))
	for range 100 {
		p := byChance(c)
		out = append(out, p, spoilt(c, p))
	}
	return append(out,
		api.Code{}, bare(drop), bare(api.Ins{}), of(consts(api.Value{}), val), bare(times(8193, val)...), of(make([]api.Value, 1025), val), bare(val, pick(3, make([]int, 8193)...), val), ofSize(1<<20), ofSize(1<<20+1),
	)
}

// answer is what May and Text tell of code.
type answer struct {
	may, text api.Errno
	s         string
}

func ask(p api.Code) answer {
	may := May(p)
	s, e := Text(p)
	return answer{may, e, s}
}

func TestCodeIsNotChanged(t *testing.T) {
	for _, p := range someCode() {
		alone := ask(p)
		own := roomy(p)
		was := withRoom(own)
		for range 2 {
			if ask(own) != alone {
				t.Errorf("P16.4: the answer hangs on where the lists lie: %s", briefCode(p))
			}
		}
		if !same(withRoom(own), was) {
			t.Errorf("P16.4: code that was handed in, or its spare room, is changed: %s", briefCode(p))
		}
	}
}

// TestCodeIsNotKept writes into code that was handed in: the next answers are of what stands there now, and those that were given stay.
func TestCodeIsNotKept(t *testing.T) {
	for _, p := range someCode() {
		alone := ask(p)
		own := roomy(p)
		first := ask(own)
		overwrite(own)
		if first != alone {
			t.Errorf("P16.4: an answer has changed with the code: %s", briefCode(p))
		}
		if e := May(own); e == api.OK || e != modelMay(own) {
			t.Errorf("P16.4: %d of code that was written over: %s", e, briefCode(own))
		}
		if ask(p) != alone {
			t.Errorf("P16.4: what was handed in is kept: %s", briefCode(p))
		}
	}
	jumps := []int{2, 4}
	list := []api.Ins{val, pick(5, jumps...), val, jump(5), val}
	list[1].T = jumps
	values := consts(num(1))
	p := of(values, list...)
	good(t, "ahead of a change", p)
	jumps[1] = 5
	wrong(t, "a changed T", p, api.ErrCode)
	jumps[1] = 4
	values[0] = api.Value{}
	wrong(t, "a changed constant", p, api.ErrCode)
	values[0] = bad(api.ENA)
	list[2] = first
	good(t, "changed back", p)
	list[4] = box
	wrong(t, "a changed instruction", p, api.ErrCode)
}

// texts gives texts that are read.
func texts() []string {
	c := rand.New(rand.NewSource(5))
	out := []string{
		"const i 1\nconst i 2\nconst i 3\ndo.fetch 0 0\ndo.choose 7 2 4 6\ndo.const 0\ndo.jump 7\ndo.const 1\ndo.jump 7\ndo.const 2\n",
		"do.fetch 0 0\ndo.choose 5 2 4\ndo.fetch 0 1\ndo.jump 5\ndo.fetch 0 2\ndo.choose 9 6 8\ndo.fetch 0 1\ndo.jump 9\ndo.fetch 0 2\n",
	}
	for range 60 {
		out = append(out, written(byChance(c)))
	}
	return out
}

// TestWhatIsReadIsNewMemory writes into all that was read of a text, its spare room too: what was read of it ahead, and behind, stays.
func TestWhatIsReadIsNewMemory(t *testing.T) {
	for _, s := range texts() {
		first, _, _ := Read(s)
		second, _, e := Read(s)
		if e != api.OK {
			t.Fatalf("P16.3: %s is not read: %d", brief(s), e)
		}
		was := withRoom(first)
		overwrite(second)
		_ = append(second.Ins, drop)
		_ = append(second.Consts, num(9))
		third, _, _ := Read(s)
		if !same(withRoom(first), was) || !same(first, third) {
			t.Errorf("P16.4: two answers share memory: %s", brief(s))
		}
		if again, e := Text(first); again != s || e != api.OK {
			t.Errorf("P16.4: an answer has changed: %s", brief(s))
		}
	}
}

// TestListsOfAnAnswerShareNothing writes into one list of an answer after the other, and behind it, and looks at all the others.
func TestListsOfAnAnswerShareNothing(t *testing.T) {
	for _, s := range texts() {
		p, _, _ := Read(s)
		for i := range p.Ins {
			was := withRoom(p)
			room := p.Ins[i].T[:cap(p.Ins[i].T)]
			for k := range room {
				room[k] = -1 - i
			}
			_ = append(p.Ins[i].T, -100)
			was.Ins[i].T = slices.Clone(p.Ins[i].T[:cap(p.Ins[i].T)])
			if !same(withRoom(p), was) {
				t.Errorf("P16.4: two lists of an answer share memory: %s", brief(s))
			}
		}
	}
}

// TestSpareRoomOfAnswersIsEmpty looks at what stands behind the lists of answers.
func TestSpareRoomOfAnswersIsEmpty(t *testing.T) {
	for _, s := range texts() {
		p, _, _ := Read(s)
		for _, in := range p.Ins[len(p.Ins):cap(p.Ins)] {
			if !same(bare(in), bare(api.Ins{})) {
				t.Errorf("P16.4: %v stands behind the instructions of %s", in, brief(s))
			}
		}
		for _, v := range p.Consts[len(p.Consts):cap(p.Consts)] {
			if v != (api.Value{}) {
				t.Errorf("P16.4: %v stands behind the constants of %s", v, brief(s))
			}
		}
	}
}

// TestTheSameAgain asks from several goroutines at a time, in an order of each one's own.
func TestTheSameAgain(t *testing.T) {
	codes, lines := someCode(), texts()
	for i, s := range slices.Clone(lines) {
		lines = append(lines, strings.Replace(s, "0", "00", 1+i%3))
	}
	answers := make([]answer, len(codes))
	for i, p := range codes {
		answers[i] = ask(p)
	}
	type reading struct {
		p  api.Code
		at int
		e  api.Errno
	}
	readings := make([]reading, len(lines))
	for i, s := range lines {
		p, at, e := Read(s)
		readings[i] = reading{p, at, e}
	}
	var workers sync.WaitGroup
	for worker := range 8 {
		workers.Go(func() {
			c := rand.New(rand.NewSource(int64(worker)))
			for _, i := range c.Perm(len(codes)) {
				if ask(codes[i]) != answers[i] {
					t.Errorf("P16.4: another answer of %s", briefCode(codes[i]))
				}
			}
			for _, i := range c.Perm(len(lines)) {
				p, at, e := Read(lines[i])
				if want := readings[i]; !same(p, want.p) || at != want.at || e != want.e {
					t.Errorf("P16.4: another answer of %s", brief(lines[i]))
				}
			}
		})
	}
	workers.Wait()
}
