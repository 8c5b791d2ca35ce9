package shift

import (
	"math/rand"
	"slices"
	"strings"
	"sync"
	"testing"

	"quadrille/api"
)

// roomy gives a tree with lists of its own, all with spare room in which something stands.
func roomy(t api.Expr) api.Expr {
	kids := make([]api.Expr, 0, len(t.Kids)+3)
	for _, kid := range t.Kids {
		kids = append(kids, roomy(kid))
	}
	behind := append(kids, txt("behind"), ref(place(9, 9)), minus(span(place(8, 8), place(9, 9))))
	t.Kids = behind[:len(kids)]
	return t
}

// spellRoom writes all that a tree has, its lists' spare room too.
func spellRoom(t api.Expr) string {
	kids := t.Kids[:cap(t.Kids)]
	t.Kids = nil
	b := strings.Builder{}
	b.WriteString(spell(t))
	for _, kid := range kids {
		b.WriteString(spellRoom(kid))
	}
	return b.String()
}

// slotsOf gives where each node of a tree's lists lies, the spare room too.
func slotsOf(t api.Expr) []*api.Expr {
	kids := t.Kids[:cap(t.Kids)]
	var all []*api.Expr
	for i := range kids {
		all = append(all, &kids[i])
		all = append(all, slotsOf(kids[i])...)
	}
	return all
}

// scribble writes over all that a tree's lists have, the spare room too.
func scribble(t api.Expr) {
	for _, at := range slotsOf(t) {
		*at = api.Expr{Kind: -1, Int: -1, Text: "scribbled"}
	}
}

// goodTrees gives trees of every form that may be.
func goodTrees(t *testing.T) []api.Expr {
	var all []api.Expr
	for _, s := range []string{"=1", `="A1"`, "=TRUE", "=#N/A", "=NA()", "=C3", "=$C$3", "=SUM(1,TRUE)+2", "=SUM(B2:D4,E5)-F6%", "=SUM(D4:B2)", "=IF(A1,B2,C3)&D4", "=-(-(-C4))"} {
		x := read(t, s)
		all = append(all, x)
		for _, lay := range slots()[:9] {
			all = append(all, lay(x))
		}
	}
	// One list at many places.
	kids := []api.Expr{ref(place(3, 3)), span(place(1, 1), place(4, 4))}
	shared := fun(api.FSum, kids...)
	all = append(all, bin(api.BAdd, shared, fun(api.FMax, kids...)), fun(api.FIf, shared, shared, shared), bin(api.BMul, bin(api.BAdd, kids...), bin(api.BAdd, kids...)))
	c := chance{rand.New(rand.NewSource(6))}
	for range 40 {
		all = append(all, c.tree(4))
	}
	return all
}

// goodChanges gives changes of each call, such as change nothing too.
func goodChanges() []change {
	return []change{paste(0, 0), paste(1, 1), paste(-2, 0), paste(-70000, 800), rows(0, 0), rows(3, 0), rows(3, 2), rows(2, -1), rows(0, -9), rows(65535, 1), cols(0, 0), cols(3, 2), cols(2, -1), cols(0, -9), cols(701, 1)}
}

func TestWhatIsHandedInIsNotChanged(t *testing.T) {
	for _, x := range goodTrees(t) {
		for _, c := range goodChanges() {
			alone, e := c.of(x)
			room := roomy(x)
			was := spellRoom(room)
			for range 2 {
				if got, again := c.of(room); again != e || !isSame(got, alone) {
					t.Errorf("P12.6: %s: the answer hangs on where the lists lie: %s", c, brief(written(x)))
				}
			}
			if spellRoom(room) != was {
				t.Errorf("P12.6: %s: a tree that was handed in, or its spare room, is changed: %s", c, brief(written(x)))
			}
		}
	}
	for _, x := range wrongs() {
		room := roomy(x)
		was := spellRoom(room)
		for _, c := range manyChanges() {
			c.of(room)
		}
		if spellRoom(room) != was {
			t.Errorf("P12.6: a tree that is refused, or its spare room, is changed: %s", brief(spell(x)))
		}
	}
}

func TestTheAnswerIsNewMemory(t *testing.T) {
	for _, x := range goodTrees(t) {
		for _, c := range goodChanges() {
			room := roomy(x)
			owner := map[*api.Expr]string{}
			for _, at := range slotsOf(room) {
				owner[at] = "the tree that was handed in"
			}
			first, _ := c.of(room)
			second, _ := c.of(room)
			for i, got := range []api.Expr{first, second} {
				for _, at := range slotsOf(got) {
					if who, some := owner[at]; some {
						t.Fatalf("P12.6: %s: answer %d shares memory with %s: %s", c, i+1, who, brief(written(x)))
					}
					owner[at] = "an answer"
				}
			}
		}
	}
}

// TestWhoeverWritesChangesNothingElse writes over an answer, and over what was handed in.
func TestWhoeverWritesChangesNothingElse(t *testing.T) {
	for _, x := range goodTrees(t) {
		for _, c := range goodChanges() {
			alone, _ := c.of(x)
			want := spell(alone)
			room := roomy(x)
			was := spellRoom(room)
			first, _ := c.of(room)
			second, _ := c.of(room)
			_ = append(first.Kids, txt("more"))
			scribble(first)
			if spellRoom(room) != was {
				t.Fatalf("P12.6: %s: who writes into the answer changes what was handed in: %s", c, brief(written(x)))
			}
			if third, _ := c.of(room); spell(second) != want || spell(third) != want {
				t.Fatalf("P12.6: %s: who writes into an answer changes another one: %s", c, brief(written(x)))
			}
			scribble(room)
			if spell(second) != want {
				t.Fatalf("P12.6: %s: who writes into what was handed in changes the answer: %s", c, brief(written(x)))
			}
			if again, e := c.of(x); e != api.OK || spell(again) != want {
				t.Fatalf("P12.6: %s: what was handed in is kept: %s", c, brief(written(x)))
			}
		}
	}
}

// TestWhatIsHandedInIsNotKept asks again of one list in which something else stands then.
func TestWhatIsHandedInIsNotKept(t *testing.T) {
	kids := []api.Expr{ref(place(0, 0)), num(2)}
	x := bin(api.BAdd, kids...)
	check(t, paste(1, 1), x, read(t, "=B2+2"))
	kids[0] = span(place(0, 0), place(1, 1))
	check(t, paste(1, 1), x, bin(api.BAdd, span(place(1, 1), place(2, 2)), num(2)))
	kids[1] = ref(place(4, 0))
	check(t, rows(3, 1), x, bin(api.BAdd, span(place(0, 0), place(1, 1)), ref(place(5, 0))))
	kids[0], kids[1] = kids[1], kids[0]
	check(t, rows(3, 1), x, bin(api.BAdd, ref(place(5, 0)), span(place(0, 0), place(1, 1))))
	kids[1] = num(-1)
	checkRefused(t, rows(3, 1), x, api.ErrTree)
	kids[1] = num(1)
	check(t, rows(3, 1), x, read(t, "=A6+1"))
}

// answer is what a change tells of a tree.
type answer struct {
	s string
	e api.Errno
}

func ask(c change, x api.Expr) answer {
	got, e := c.of(x)
	return answer{spell(got), e}
}

// question is a tree and a change of it.
type question struct {
	x api.Expr
	c change
}

func someQuestions(t *testing.T) []question {
	var all []question
	trees := slices.Concat(goodTrees(t)[:60:60], wrongs()[:12], []api.Expr{around(64, minus, num(1))})
	for i, x := range trees {
		changes := slices.Concat(goodChanges(), manyChanges()[11:])
		for k := range 5 {
			all = append(all, question{x, changes[(i*3+k*5)%len(changes)]})
		}
	}
	return all
}

func TestTheSameCallIsAnsweredTheSame(t *testing.T) {
	all := someQuestions(t)
	alone := make([]answer, len(all))
	for i, q := range all {
		alone[i] = ask(q.c, q.x)
	}
	for i, q := range all {
		for k, other := range all {
			other.c.of(other.x)
			if k%9 == i%9 && ask(q.c, q.x) != alone[i] {
				t.Fatalf("P12.6: question %d is answered otherwise behind question %d", i, k)
			}
		}
	}
	// Many at a time.
	var group sync.WaitGroup
	for worker := range 8 {
		group.Go(func() {
			for k := range 3 * len(all) {
				i := (k*7 + worker) % len(all)
				if ask(all[i].c, all[i].x) != alone[i] {
					t.Errorf("P12.6: question %d is answered otherwise when many are asked at a time", i)
				}
			}
		})
	}
	group.Wait()
}
