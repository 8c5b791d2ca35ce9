package print

import (
	"slices"
	"strings"
	"sync"
	"testing"

	"quadrille/api"
	"quadrille/tree"
)

// roomy gives a tree with lists of its own, all with spare room in which something stands.
func roomy(t api.Expr) api.Expr {
	kids := make([]api.Expr, 0, len(t.Kids)+3)
	for _, kid := range t.Kids {
		kids = append(kids, roomy(kid))
	}
	behind := append(kids, txt("behind"), ref(place(9, 9)), minus(num(8)))
	t.Kids = behind[:len(kids)]
	return t
}

// spellRoom writes all that a tree has, its lists' spare room too.
func spellRoom(t api.Expr) string {
	kids := t.Kids[:cap(t.Kids)]
	t.Kids = nil
	b := strings.Builder{}
	b.WriteString(spell(t))
	for _, kid := range kids {
		b.WriteString(spellRoom(kid))
	}
	return b.String()
}

// someTrees gives trees of every form, those that are refused too.
func someTrees() []api.Expr {
	var all []api.Expr
	for _, leaf := range leaves() {
		all = append(all, leaf.tree)
	}
	for _, lay := range slices.Concat(slots(), twoSlots()) {
		all = append(all, lay(leaves()[2]).tree, lay(slots()[0](leaves()[7])).tree)
	}
	return append(all,
		fun(api.FSum, ones(511)...), fun(api.FSum, ones(512)...), around(63, minus, num(1)), around(64, minus, num(1)), txt(times(16384, `"`)), txt(times(16385, `"`)),
		num(-1), bad(api.ECycle), bin(api.BAdd, num(1)), fun(api.FSum), fun(77, num(1)), ref(place(65536, 0)), api.Expr{}, fun(api.FSum, num(1), un(9, num(2))),
	)
}

// answer is what Formula tells of a tree.
type answer struct {
	s string
	e api.Errno
}

func ask(x api.Expr) answer {
	s, e := Formula(x)
	return answer{s, e}
}

func TestWhatIsHandedInIsNotChanged(t *testing.T) {
	for _, x := range someTrees() {
		alone := ask(x)
		room := roomy(x)
		was := spellRoom(room)
		for range 2 {
			if ask(room) != alone {
				t.Errorf("P11.3: the answer hangs on where the lists lie: %s", brief(spell(x)))
			}
		}
		if spellRoom(room) != was {
			t.Errorf("P11.3: a tree that was handed in, or its spare room, is changed: %s", brief(spell(x)))
		}
	}
}

// TestWhatIsHandedInIsNotKept writes into trees that were handed in: the answers stay, and the next ones are of what stands there now.
func TestWhatIsHandedInIsNotKept(t *testing.T) {
	for _, x := range someTrees() {
		alone := ask(x)
		own := roomy(x)
		first := ask(own)
		for i := range own.Kids {
			own.Kids[i] = txt("other")
		}
		want := ask(roomy(own))
		if got := ask(own); got != want || first != alone {
			t.Errorf("P11.3: what was handed in is kept: %v, not %v; %v, not %v", got, want, first, alone)
		}
		if len(x.Kids) > 0 && alone.e == api.OK && (want == alone || strings.Count(want.s, `"other"`) != len(own.Kids)) {
			t.Errorf("P11.1: %s is the text of two trees", brief(want.s))
		}
	}
	kids := []api.Expr{num(1), num(2)}
	x := bin(api.BAdd, kids...)
	checkText(t, x, "=1+2")
	kids[0] = bin(api.BEq, num(3), num(4))
	checkText(t, x, "=(3=4)+2")
	kids[0].Kids[1] = txt(`"`)
	checkText(t, x, `=(3="""")+2`)
	kids[0], kids[1] = kids[1], kids[0]
	checkText(t, x, `=2+(3="""")`)
	kids[1] = num(-1)
	checkRefused(t, x, api.ErrTree)
	kids[1] = num(1)
	checkText(t, x, "=2+1")
}

func TestTheSameTreeIsAnsweredTheSame(t *testing.T) {
	all := someTrees()
	alone := make([]answer, len(all))
	for i, x := range all {
		alone[i] = ask(x)
	}
	for i, x := range all {
		for k, other := range all {
			ask(other)
			if ask(x) != alone[i] {
				t.Fatalf("P11.3: tree %d has another text behind tree %d", i, k)
			}
		}
		copied, e := tree.Copy(x)
		if e == api.OK && ask(copied) != alone[i] {
			t.Errorf("P11.3: a copy of tree %d has another text", i)
		}
	}
	// Many at a time.
	var group sync.WaitGroup
	for worker := range 8 {
		group.Go(func() {
			for k := range 3 * len(all) {
				i := (k*7 + worker) % len(all)
				if ask(all[i]) != alone[i] {
					t.Errorf("P11.3: tree %d has another text when many are asked at a time", i)
				}
			}
		})
	}
	group.Wait()
}

// alike gives leaves whose texts are near one another.
func alike() []api.Expr {
	all := []api.Expr{num(0), num(1), num(10), num(11), txt(""), txt("1"), txt(`"`), txt(`""`), txt("A1"), txt("TRUE"), txt("#N/A"), txt("=1"), txt("é"), txt("e\u0301"), txt("\xff"), txt("\xfe"), txt(" "), txt("\u00a0"), truth(0), truth(1), fun(api.FNa), fun(api.FRow), fun(api.FColumn)}
	for e := int64(api.EName); e <= api.ENA; e++ {
		all = append(all, bad(e))
	}
	refs := []api.Ref{place(0, 0), place(0, 1), place(1, 0), place(10, 0), place(0, 26), place(0, 27)}
	for pins := range 4 {
		refs = append(refs, api.Ref{Row: 1, Col: 1, PinRow: pins&1 != 0, PinCol: pins&2 != 0})
	}
	for _, a := range refs {
		all = append(all, ref(a))
		for _, b := range refs {
			all = append(all, span(a, b))
		}
	}
	return all
}

// checkUnlike tells that no two of all trees, which are unlike, have one text.
func checkUnlike(t *testing.T, all []api.Expr) {
	t.Helper()
	seen := make(map[string]int, len(all))
	for i, x := range all {
		s, e := Formula(x)
		if e != api.OK {
			t.Fatalf("P11.1: Formula gives %d: %s", e, brief(spell(x)))
		}
		if k, some := seen[s]; some {
			t.Fatalf("P11.3: %s is the text of two trees: %s and %s", brief(s), brief(spell(all[k])), brief(spell(x)))
		}
		seen[s] = i
	}
}

// over gives all trees that have one more node than the trees of a list, or two such as kids.
func over(kids []api.Expr) []api.Expr {
	var all []api.Expr
	for _, a := range kids {
		all = append(all, minus(a), plus(a), hundredth(a), fun(api.FAbs, a), fun(api.FSum, a), fun(api.FRow, a))
		for _, b := range kids {
			for _, o := range operationsOfTwo() {
				all = append(all, bin(o.op, a, b))
			}
			all = append(all, fun(api.FSum, a, b), fun(api.FIf, a, b))
		}
	}
	return all
}

func TestUnlikeTreesHaveUnlikeTexts(t *testing.T) {
	leaves := alike()
	checkUnlike(t, append(leaves, over(leaves)...))
	// All trees of that depth whose one leaf is 1.
	one := []api.Expr{num(1)}
	two := append(one, over(one)...)
	three := append(one, over(two)...)
	checkUnlike(t, three)
	checkUnlike(t, append(one, over(three[:120])...))
	for _, x := range three {
		s, _ := Formula(x)
		checkBack(t, x, s)
	}
}

// TestEachFieldIsSeenInTheText takes trees of which one field alone is another.
func TestEachFieldIsSeenInTheText(t *testing.T) {
	first := span(api.Ref{Row: 3, Col: 4}, api.Ref{Row: 5, Col: 6})
	all := []api.Expr{first}
	for _, change := range []func(r *api.Ref){func(r *api.Ref) { r.Row++ }, func(r *api.Ref) { r.Col++ }, func(r *api.Ref) { r.PinRow = true }, func(r *api.Ref) { r.PinCol = true }} {
		a, b := first, first
		change(&a.Ref)
		change(&b.To)
		all = append(all, a, b)
	}
	checkUnlike(t, all)
	all = nil
	for f, row := range functions() {
		for n := row.least; n <= min(row.most, 6); n++ {
			all = append(all, fun(f+1, ones(n)...))
		}
	}
	checkUnlike(t, all)
}
