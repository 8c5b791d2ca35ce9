package comp

import (
	"fmt"
	"math/rand"
	"slices"
	"strings"
	"sync"
	"testing"

	"quadrille/api"
)

// roomy gives a tree with lists of its own, all with spare room in which something stands.
func roomy(x api.Expr) api.Expr {
	kids := make([]api.Expr, 0, len(x.Kids)+3)
	for _, kid := range x.Kids {
		kids = append(kids, roomy(kid))
	}
	behind := append(kids, txt("behind"), ref(at(9, 9)), minus(num(8)))
	x.Kids = behind[:len(kids)]
	return x
}

// spellRoom writes all that a tree has, its lists' spare room too.
func spellRoom(x api.Expr) string {
	kids := x.Kids[:cap(x.Kids)]
	x.Kids = nil
	b := strings.Builder{}
	b.WriteString(spell(x))
	for _, kid := range kids {
		b.WriteString(spellRoom(kid))
	}
	return b.String()
}

// someTrees gives trees of every form, those that are refused too.
func someTrees() []api.Expr {
	c := chance{rand.New(rand.NewSource(174))}
	all := smallKids()
	for _, s := range slots() {
		all = append(all, s.lay(ref(at(3, 3))), s.lay(num(7)))
	}
	for range 100 {
		all = append(all, c.tree(1+c.Intn(60), 2+c.Intn(6)))
	}
	return append(all, c.tree(512, 64), fun(api.FChoose, ones(511)...), fun(api.FSwitch, ones(511)...), fun(api.FSum, ones(512)...), num(-1), fun(api.FSum), api.Expr{}, fun(api.FSum, num(1), un(9, num(2))))
}

// answer is what Formula tells of a tree, written out.
type answer struct {
	s string
	e api.Errno
}

func written(p api.Code) string { return fmt.Sprintf("%+v", p) }

func ask(x api.Expr) answer {
	p, e := Formula(x)
	return answer{written(p), e}
}

func TestWhatIsHandedInIsNotChanged(t *testing.T) {
	for _, x := range someTrees() {
		alone := ask(x)
		room := roomy(x)
		was := spellRoom(room)
		for range 2 {
			if ask(room) != alone {
				t.Errorf("P17.4: the answer hangs on where the lists lie: %s", brief(spell(x)))
			}
		}
		if spellRoom(room) != was {
			t.Errorf("P17.4: a tree that was handed in, or its spare room, is changed: %s", brief(spell(x)))
		}
	}
}

// TestWhatIsHandedInIsNotKept writes into trees that were handed in: the answers stay, and the next ones are of what stands there now.
func TestWhatIsHandedInIsNotKept(t *testing.T) {
	for _, x := range someTrees() {
		alone := ask(x)
		own := roomy(x)
		first, _ := Formula(own)
		for i := range own.Kids {
			own.Kids[i] = txt("other")
		}
		want := ask(roomy(own))
		if got := ask(own); got != want || written(first) != alone.s {
			t.Errorf("P17.4: what was handed in is kept: %s", brief(spell(x)))
		}
	}
	kids := cols(2)
	x := bin(api.BAdd, kids...)
	check(t, "P17.4", x, "do.fetch 0 0; do.err 4 0; do.fetch 0 1; do.bin 4")
	kids[0] = num(5)
	check(t, "P17.4", x, "const i 5; do.const 0; do.err 4 0; do.fetch 0 1; do.bin 4")
	kids[1] = num(-1)
	checkRefused(t, x, api.ErrTree)
	kids[1] = num(6)
	check(t, "P17.4", x, "const i 5; const i 6; do.const 0; do.err 4 0; do.const 1; do.bin 4")
}

// overwrite writes into all lists of code, their spare room too.
func overwrite(p api.Code) {
	for i := range p.Ins {
		jumps := p.Ins[i].T[:cap(p.Ins[i].T)]
		for k := range jumps {
			jumps[k] = -5
		}
	}
	instructions := p.Ins[:cap(p.Ins)]
	for i := range instructions {
		instructions[i] = api.Ins{Op: -1, A: -2, B: -3, C: -4, D: -5}
	}
	consts := p.Consts[:cap(p.Consts)]
	for i := range consts {
		consts[i] = api.Value{Kind: -6, Text: "other"}
	}
}

func TestWhoeverWritesChangesNothingElse(t *testing.T) {
	for _, x := range someTrees() {
		x = roomy(x)
		was, room := ask(x), spellRoom(x)
		first, _ := Formula(x)
		second, _ := Formula(x)
		_ = append(first.Ins, api.Ins{Op: -1})
		_ = append(first.Consts, api.Value{Kind: -1})
		overwrite(first)
		if written(second) != was.s || ask(x) != was || spellRoom(x) != room {
			t.Errorf("P17.4: writing into an answer changes something else: %s", brief(spell(x)))
		}
	}
}

// TestListsOfAnAnswerShareNothing appends to each list of an answer and writes into its spare room: all others stay.
func TestListsOfAnAnswerShareNothing(t *testing.T) {
	nested := around(20, func(k api.Expr) api.Expr { return fun(api.FChoose, num(1), k, num(2), ref(at(0, 1))) }, num(5))
	for _, x := range append(someTrees(), nested, bin(api.BAdd, nested, nested)) {
		p, _ := Formula(x)
		was := written(p)
		for i := range p.Ins {
			jumps := p.Ins[i].T
			spare := append(jumps, -7)[:cap(jumps)]
			for k := len(jumps); k < len(spare); k++ {
				spare[k] = -8
			}
		}
		_ = append(p.Ins, api.Ins{Op: -1})
		_ = append(p.Consts, api.Value{Kind: -1})
		if written(p) != was {
			t.Errorf("P17.4: two lists of one answer share memory: %s", brief(spell(x)))
		}
		// Each list keeps what is written into it, whatever is written into the others.
		for i := range p.Ins {
			for k := range p.Ins[i].T {
				p.Ins[i].T[k] = i*1000 + k
			}
		}
		for i := range p.Ins {
			for k, to := range p.Ins[i].T {
				if to != i*1000+k {
					t.Fatalf("P17.4: two lists of jumps share memory: %s", brief(spell(x)))
				}
			}
		}
	}
}

// TestSpareRoomOfAnswersIsEmpty finds nothing of a tree behind the ends of an answer's lists.
func TestSpareRoomOfAnswersIsEmpty(t *testing.T) {
	for _, x := range someTrees() {
		p, _ := Formula(x)
		for _, in := range p.Ins[len(p.Ins):cap(p.Ins)] {
			if in.Op != 0 || in.A != 0 || in.B != 0 || in.T != nil {
				t.Fatalf("P17.4: something stands behind the instructions: %+v", in)
			}
		}
		for _, v := range p.Consts[len(p.Consts):cap(p.Consts)] {
			if v != (api.Value{}) {
				t.Fatalf("P17.4: something stands behind the constants: %+v", v)
			}
		}
	}
}

func TestTheSameTreeIsAnsweredTheSame(t *testing.T) {
	all := someTrees()
	alone := make([]answer, len(all))
	for i, x := range all {
		alone[i] = ask(x)
	}
	for i := range all {
		k := len(all) - 1 - i
		if ask(all[k]) != alone[k] {
			t.Fatalf("P17.4: tree %d has other code behind other trees", k)
		}
	}
	// Many at a time, in other orders, some of them sharing their lists.
	var group sync.WaitGroup
	for worker := range 8 {
		group.Go(func() {
			order := rand.New(rand.NewSource(int64(worker))).Perm(len(all))
			for _, i := range slices.Concat(order, order) {
				if ask(all[i]) != alone[i] {
					t.Errorf("P17.4: tree %d has other code beside other trees", i)
				}
			}
		})
	}
	group.Wait()
}
