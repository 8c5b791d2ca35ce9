package tree

import (
	"reflect"
	"slices"
	"strings"
	"sync"
	"testing"
	"time"

	"quadrille/api"
)

// within fails the test if the work goes on for far longer than it can.
func within(t *testing.T, what string, work func()) {
	t.Helper()
	done := make(chan struct{})
	go func() {
		defer close(done)
		work()
	}()
	select {
	case <-done:
	case <-time.After(20 * time.Second):
		t.Fatalf("P9.6: %s is not done", what)
	}
}

// roomy gives a tree with lists of its own, all with spare room in which something stands.
func roomy(t api.Expr) api.Expr {
	kids := make([]api.Expr, 0, len(t.Kids)+3)
	for _, kid := range t.Kids {
		kids = append(kids, roomy(kid))
	}
	behind := append(kids, text("behind"), ref(at(9, 9)), un(api.UMinus, num(8)))
	t.Kids = behind[:len(kids)]
	return t
}

// spellRoom writes all that a tree has, its lists' spare room too.
func spellRoom(t api.Expr) string {
	t.Kids = t.Kids[:cap(t.Kids)]
	b := strings.Builder{}
	kids := t.Kids
	t.Kids = nil
	b.WriteString(spell(t))
	for _, kid := range kids {
		b.WriteString(spellRoom(kid))
	}
	return b.String()
}

// samples gives trees of every form that are not too great, those that are not as told too.
func samples() []api.Expr {
	shared := []api.Expr{ref(at(1, 1)), span(at(2, 2), at(1, 0)), text("x")}
	return []api.Expr{
		num(1), text("ab"), ref(at(3, 3)), call(api.FNa), {}, {Kind: 77, Text: "x", Kids: ones(2)},
		sum(ref(at(0, 0)), span(at(0, 0), at(1, 1)), bin(api.BAdd, ref(at(2, 2)), un(api.UPercent, ref(at(5, 5))))),
		bin(api.BAdd, sum(shared...), bin(api.BMul, sum(shared...), call(api.FMin, shared[:2]...))),
		doubled(5, ref(at(4, 4))), doubled(8, num(1)), minuses(63, ref(at(1, 1))), sum(slices.Repeat([]api.Expr{ref(at(6, 6))}, 511)...),
		{Kind: api.XInt, Int: -1, Kids: []api.Expr{un(9, shared...), {Kind: -1, Kids: shared}}}, bin(api.BAdd), sum(sum(), sum(sum())),
		built(512, 64, 16384, true),
	}
}

// ask makes all calls of a tree and of another one.
func ask(a, b api.Expr) {
	Size(a)
	May(a)
	Same(a, b)
	Same(b, a)
	Copy(a)
	Reads(a)
}

func TestWhatIsHandedInIsNotChanged(t *testing.T) {
	all := append(samples(), built(513, 3, 5, false), minuses(65, ref(at(1, 1))), built(3, 3, 16385, true))
	for i, x := range all {
		x = roomy(x)
		other := roomy(all[(i+1)%len(all)])
		was, otherWas := spellRoom(x), spellRoom(other)
		ask(x, other)
		ask(x, x)
		if spellRoom(x) != was || spellRoom(other) != otherWas {
			t.Errorf("P9.6: a tree that was handed in, or its spare room, is changed: %s", brief(x))
		}
	}
}

func TestCopyOfEveryField(t *testing.T) {
	x := api.Expr{Kind: -3, Op: -4, Int: -5, Text: "six\xff", Ref: api.Ref{Row: -7, Col: 8000, PinRow: true}, To: api.Ref{Row: 1 << 40, Col: -9, PinCol: true}, Fun: 100}
	inner := x
	x.Kids = []api.Expr{inner, {}, inner}
	c, e := Copy(x)
	if e != api.OK || !reflect.DeepEqual(c, x) {
		t.Errorf("P9.4: Copy gives %+v, %d; want %+v", c, e, x)
	}
	for _, x := range samples() {
		checkCopy(t, x)
	}
}

// scribble writes into all lists of a tree, their spare room too, and holds each one against what was written there: two that share memory can't both keep theirs.
func scribble(t *testing.T, x api.Expr) {
	t.Helper()
	all := lists(x)
	for i, l := range all {
		for k := range l {
			l[k] = api.Expr{Kind: -1, Op: i, Int: int64(k)}
		}
	}
	for i, l := range all {
		for k, n := range l {
			if n.Kind != -1 || n.Op != i || n.Int != int64(k) {
				t.Fatalf("P9.6: two lists of one answer share memory")
			}
		}
	}
}

func TestCopiesHaveMemoryOfTheirOwn(t *testing.T) {
	for _, x := range samples() {
		for _, handed := range []api.Expr{x, roomy(x)} {
			was := spellRoom(handed)
			first, _ := Copy(handed)
			second, _ := Copy(handed)
			third, _ := Copy(first)
			scribble(t, first)
			if spellRoom(handed) != was {
				t.Errorf("P9.4: writing into a copy has changed what was copied: %s", brief(x))
			}
			if spell(second) != spell(x) || spell(third) != spell(x) {
				t.Errorf("P9.4: two copies share memory: %s", brief(x))
			}
		}
		// The other way round: what was copied may change.
		own := roomy(x)
		copied, _ := Copy(own)
		scribble(t, own)
		if spell(copied) != spell(x) {
			t.Errorf("P9.4: a copy keeps what it was made of: %s", brief(x))
		}
	}
}

func TestAppendingToACopy(t *testing.T) {
	for _, x := range samples() {
		handed := roomy(x)
		was := spellRoom(handed)
		copied, _ := Copy(handed)
		other, _ := Copy(handed)
		for _, n := range nodesOf(copied) {
			_ = append(n.Kids, text("appended"), num(5))
		}
		if spellRoom(handed) != was || spell(copied) != spell(x) || spell(other) != spell(x) {
			t.Errorf("P9.4, P9.6: what is appended to a list of a copy is seen elsewhere: %s", brief(x))
		}
	}
}

func TestReadsGivesNewLists(t *testing.T) {
	for _, x := range samples() {
		if modelMay(x) != api.OK {
			continue
		}
		x = roomy(x)
		was, want := spellRoom(x), modelReads(x)
		first, _ := Reads(x)
		second, _ := Reads(x)
		first = append(first, api.Area{Top: -1})
		first = first[:cap(first)]
		for i := range first {
			first[i] = api.Area{Top: -2}
		}
		if !slices.Equal(second, want) || spellRoom(x) != was {
			t.Errorf("P9.6: writing into what Reads gave is seen elsewhere: %s", brief(x))
		}
		checkReads(t, x, want...)
	}
}

// ring gives a tree that holds itself as each of its kids.
func ring(n api.Expr, count int) api.Expr {
	n.Kids = make([]api.Expr, count)
	for i := range n.Kids {
		n.Kids[i] = n
	}
	return n
}

// endless gives trees in little memory that have very many nodes, or no end.
func endless() map[string]api.Expr {
	turn := make([]api.Expr, 1)
	back := un(api.UPlus, bin(api.BAdd, num(1), api.Expr{Kind: api.XUn, Op: api.UMinus, Kids: turn}))
	turn[0] = back
	layers := num(1)
	for range 60 {
		layers = sum(slices.Repeat([]api.Expr{layers}, 300)...)
	}
	wide, chain, long := ones(1<<20), minuses(1<<20, num(1)), text(strings.Repeat("x", 1<<26))
	return map[string]api.Expr{
		"60 times doubled":                doubled(60, num(1)),
		"63 times doubled":                doubled(63, ref(at(1, 1))),
		"64 times doubled":                doubled(64, num(1)),
		"1000 times doubled":              doubled(1000, num(1)),
		"doubled, not as told":            doubled(62, api.Expr{Kind: -1}),
		"doubled texts":                   doubled(60, text("x")),
		"doubled empty texts":             doubled(60, text("")),
		"doubled, a great one at its end": doubled(40, built(512, 10, 16384, true)),
		"a ring":                          ring(un(api.UMinus), 1),
		"a ring of two":                   ring(bin(api.BAdd), 2),
		"a ring of many":                  ring(sum(), 1000),
		"a ring of a kind that is none":   ring(api.Expr{}, 3),
		"a ring of texts":                 ring(text("x"), 2),
		"a ring through others":           back,
		"layers of 300 each":              layers,
		"a chain without end":             chain,
		"kids without end":                sum(wide...),
		"kids behind a chain":             minuses(62, sum(wide...)),
		"kids of a minus":                 un(api.UMinus, wide...),
		"a chain ahead of kids":           sum(chain, doubled(60, num(1))),
		"a ring behind a wrong node":      sum(num(-1), ring(un(api.UMinus), 1)),
		"a text without end":              long,
		"texts without end":               sum(slices.Repeat([]api.Expr{long}, 500)...),
	}
}

func TestEndlessTrees(t *testing.T) {
	all := endless()
	for what, x := range all {
		within(t, what, func() {
			checkGreat(t, x)
			// A call that went over all of it, though it ended once, would not end so often.
			for range 500 {
				ask(x, x)
			}
		})
	}
	within(t, "Same of two of them", func() {
		for what, a := range all {
			for other, b := range all {
				if Same(a, b) {
					t.Errorf("P9.3: %s and %s are the same", what, other)
				}
			}
		}
	})
}

func TestLongTextsThatAreNotCounted(t *testing.T) {
	long := api.Expr{Kind: api.XInt, Text: strings.Repeat("x", 1<<26)}
	within(t, "a number with a long text", func() {
		for range 2000 {
			Size(long)
			May(long)
			Copy(long)
			Reads(long)
		}
	})
	checkAll(t, api.Expr{Kind: api.XInt, Text: strings.Repeat("x", 70000)})
	checkMay(t, long, api.ErrTree)
	checkSize(t, long, 1, 1, 0)
}

// answers writes all that the calls tell of a tree and of another one.
func answers(a, b api.Expr) []any {
	nodes, depth, bytes := Size(a)
	copied, e := Copy(a)
	areas, f := Reads(a)
	return []any{nodes, depth, bytes, May(a), Same(a, b), Same(b, a), spell(copied), e, slices.Concat([]api.Area{}, areas), f}
}

func TestAnswersHangOnArgumentsAlone(t *testing.T) {
	all := append(samples(), minuses(64, num(1)), doubled(60, num(1)), ring(bin(api.BAdd), 2))
	alone := make([][]any, len(all))
	for i, x := range all {
		alone[i] = answers(x, all[(i+1)%len(all)])
	}
	// In another order, many at a time, and of trees with spare room.
	var group sync.WaitGroup
	for worker := range 8 {
		group.Go(func() {
			for k := range all {
				i := (k*5 + worker) % len(all)
				if !reflect.DeepEqual(answers(all[i], all[(i+1)%len(all)]), alone[i]) {
					t.Errorf("P9.6: the answers are others, when others were asked ahead of it: tree %d", i)
				}
			}
		})
	}
	group.Wait()
	for i, x := range samples() {
		next := all[(i+1)%len(all)]
		if !reflect.DeepEqual(answers(roomy(x), next), alone[i]) {
			t.Errorf("P9.6: the answers hang on where the lists lie: tree %d", i)
		}
	}
}
