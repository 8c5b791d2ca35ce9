package print

import (
	"math/rand"
	"slices"
	"strconv"
	"strings"
	"testing"

	"quadrille/api"
	"quadrille/parse"
	"quadrille/tree"
)

// operation2 is an operation of two: its sign, its number and its level.
type operation2 struct {
	sign      string
	op, level int
}

func operationsOfTwo() []operation2 {
	return []operation2{
		{"=", api.BEq, 1}, {"<>", api.BNe, 1}, {"<", api.BLess, 1}, {"<=", api.BLessEq, 1}, {">", api.BMore, 1}, {">=", api.BMoreEq, 1},
		{"&", api.BJoin, 2}, {"+", api.BAdd, 3}, {"-", api.BSub, 3}, {"*", api.BMul, 4}, {"/", api.BDiv, 4}, {"^", api.BPow, 5},
	}
}

// sample is a tree with its text and its level, made without Formula.
type sample struct {
	tree  api.Expr
	text  string
	level int
}

// within gives the text of a kid from a level on.
func (s sample) within(from int) string {
	if s.level < from {
		return "(" + s.text + ")"
	}
	return s.text
}

// slot is a place for a kid: it lays a node around it.
type slot func(kid sample) sample

// slots gives every kind of node and operation that has kids, once for each place that a kid may have; the kid stands there once.
func slots() []slot {
	all := []slot{
		func(k sample) sample { return sample{minus(k.tree), "-" + k.within(6), 6} },
		func(k sample) sample { return sample{plus(k.tree), "+" + k.within(6), 6} },
		func(k sample) sample { return sample{hundredth(k.tree), k.within(7) + "%", 7} },
		func(k sample) sample { return sample{fun(api.FAbs, k.tree), "ABS(" + k.text + ")", 8} },
		func(k sample) sample { return sample{fun(api.FSum, k.tree, num(8)), "SUM(" + k.text + ",8)", 8} },
		func(k sample) sample { return sample{fun(api.FSum, num(8), k.tree), "SUM(8," + k.text + ")", 8} },
	}
	for _, o := range operationsOfTwo() {
		all = append(all,
			func(k sample) sample {
				return sample{bin(o.op, k.tree, num(8)), k.within(o.level) + o.sign + "8", o.level}
			},
			func(k sample) sample {
				return sample{bin(o.op, num(8), k.tree), "8" + o.sign + k.within(o.level+1), o.level}
			})
	}
	return all
}

// twoSlots gives nodes that have a kid at two places.
func twoSlots() []slot {
	all := []slot{func(k sample) sample {
		return sample{fun(api.FIf, num(8), k.tree, k.tree), "IF(8," + k.text + "," + k.text + ")", 8}
	}}
	for _, o := range operationsOfTwo() {
		all = append(all, func(k sample) sample {
			return sample{bin(o.op, k.tree, k.tree), k.within(o.level) + o.sign + k.within(o.level+1), o.level}
		})
	}
	return all
}

// leaves gives nodes of every kind that has no kids.
func leaves() []sample {
	from, to := api.Ref{Row: 8, Col: 27, PinRow: true}, api.Ref{Row: 1, PinCol: true}
	all := []sample{{num(0), "0", 8}, {num(7), "7", 8}, {txt(`a"(b`), `"a""(b"`, 8}, {txt(""), `""`, 8}, {truth(1), "TRUE", 8}, {truth(0), "FALSE", 8}, {ref(from), "AB$9", 8}, {ref(to), "$A2", 8}, {span(from, to), "AB$9:$A2", 8}, {fun(api.FNa), "NA()", 8}, {fun(api.FRow), "ROW()", 8}}
	for i, s := range []string{"#NAME?", "#NUM!", "#REF!", "#VALUE!", "#DIV/0!", "#N/A"} {
		all = append(all, sample{bad(int64(i + 1)), s, 8})
	}
	return all
}

func TestEveryNodeAsEachKidOfEveryOther(t *testing.T) {
	all := slices.Concat(slots(), twoSlots())
	for _, leaf := range leaves() {
		checkText(t, leaf.tree, "="+leaf.text)
		for _, outer := range all {
			x := outer(leaf)
			checkText(t, x.tree, "="+x.text)
			for _, inner := range all {
				x := outer(inner(leaf))
				checkText(t, x.tree, "="+x.text)
				checkFewBrackets(t, x.tree)
			}
		}
	}
}

func TestThreeNodesWithinOneAnother(t *testing.T) {
	leaf := sample{num(7), "7", 8}
	for _, a := range slots() {
		for _, b := range slots() {
			for _, c := range slots() {
				x := a(b(c(leaf)))
				checkText(t, x.tree, "="+x.text)
				if t.Failed() {
					return
				}
			}
		}
	}
}

// TestBracketsByHand has the texts of nodes of each level as kids of nodes of each level, written out.
func TestBracketsByHand(t *testing.T) {
	kids := []api.Expr{
		bin(api.BLess, num(1), num(2)), bin(api.BJoin, num(1), num(2)), bin(api.BSub, num(1), num(2)), bin(api.BDiv, num(1), num(2)), bin(api.BPow, num(1), num(2)), minus(num(1)), hundredth(num(1)), num(1),
	}
	for _, row := range []struct {
		lay   func(kid api.Expr) api.Expr
		texts string
	}{
		{func(k api.Expr) api.Expr { return bin(api.BEq, k, num(3)) }, "1<2=3 1&2=3 1-2=3 1/2=3 1^2=3 -1=3 1%=3 1=3"},
		{func(k api.Expr) api.Expr { return bin(api.BEq, num(3), k) }, "3=(1<2) 3=1&2 3=1-2 3=1/2 3=1^2 3=-1 3=1% 3=1"},
		{func(k api.Expr) api.Expr { return bin(api.BJoin, k, num(3)) }, "(1<2)&3 1&2&3 1-2&3 1/2&3 1^2&3 -1&3 1%&3 1&3"},
		{func(k api.Expr) api.Expr { return bin(api.BJoin, num(3), k) }, "3&(1<2) 3&(1&2) 3&1-2 3&1/2 3&1^2 3&-1 3&1% 3&1"},
		{func(k api.Expr) api.Expr { return bin(api.BAdd, k, num(3)) }, "(1<2)+3 (1&2)+3 1-2+3 1/2+3 1^2+3 -1+3 1%+3 1+3"},
		{func(k api.Expr) api.Expr { return bin(api.BAdd, num(3), k) }, "3+(1<2) 3+(1&2) 3+(1-2) 3+1/2 3+1^2 3+-1 3+1% 3+1"},
		{func(k api.Expr) api.Expr { return bin(api.BMul, k, num(3)) }, "(1<2)*3 (1&2)*3 (1-2)*3 1/2*3 1^2*3 -1*3 1%*3 1*3"},
		{func(k api.Expr) api.Expr { return bin(api.BMul, num(3), k) }, "3*(1<2) 3*(1&2) 3*(1-2) 3*(1/2) 3*1^2 3*-1 3*1% 3*1"},
		{func(k api.Expr) api.Expr { return bin(api.BPow, k, num(3)) }, "(1<2)^3 (1&2)^3 (1-2)^3 (1/2)^3 1^2^3 -1^3 1%^3 1^3"},
		{func(k api.Expr) api.Expr { return bin(api.BPow, num(3), k) }, "3^(1<2) 3^(1&2) 3^(1-2) 3^(1/2) 3^(1^2) 3^-1 3^1% 3^1"},
		{minus, "-(1<2) -(1&2) -(1-2) -(1/2) -(1^2) --1 -1% -1"},
		{plus, "+(1<2) +(1&2) +(1-2) +(1/2) +(1^2) +-1 +1% +1"},
		{hundredth, "(1<2)% (1&2)% (1-2)% (1/2)% (1^2)% (-1)% 1%% 1%"},
		{func(k api.Expr) api.Expr { return fun(api.FSum, k, k) }, "SUM(1<2,1<2) SUM(1&2,1&2) SUM(1-2,1-2) SUM(1/2,1/2) SUM(1^2,1^2) SUM(-1,-1) SUM(1%,1%) SUM(1,1)"},
	} {
		for i, want := range strings.Fields(row.texts) {
			checkText(t, row.lay(kids[i]), "="+want)
		}
	}
}

// checkFewBrackets tells that no pair of brackets can be left away: the text would be another tree's, or no formula.
func checkFewBrackets(t *testing.T, x api.Expr) {
	t.Helper()
	s, e := Formula(x)
	if e != api.OK {
		t.Errorf("P11.1: Formula gives %d: %s", e, brief(spell(x)))
		return
	}
	all, _ := pairs(s)
	for _, p := range all {
		if p.call {
			continue
		}
		less := s[:p.open] + s[p.open+1:p.close] + s[p.close+1:]
		if back, _, e := parse.Formula(less); e == api.OK && tree.Same(back, x) {
			t.Errorf("P11.1: %s has brackets that %s has not", brief(s), brief(less))
		}
	}
}

// leafByChance gives a node without kids.
func leafByChance(r *rand.Rand) sample {
	reference := func() (api.Ref, string) {
		p := api.Ref{Row: r.Intn(65536), Col: r.Intn(26), PinRow: r.Intn(2) == 0, PinCol: r.Intn(2) == 0}
		return p, pinned(string(rune('A'+p.Col)), strconv.Itoa(p.Row+1), p)
	}
	switch r.Intn(5) {
	case 0:
		n := r.Int63() >> r.Intn(63)
		return sample{num(n), strconv.FormatInt(n, 10), 8}
	case 1:
		b := make([]byte, r.Intn(9))
		for i := range b {
			b[i] = "\"\"a(),\x00\xff\xc3\xa9 =$"[r.Intn(13)]
		}
		return sample{txt(string(b)), `"` + strings.Join(strings.Split(string(b), `"`), `""`) + `"`, 8}
	case 2:
		p, s := reference()
		return sample{ref(p), s, 8}
	case 3:
		p, s := reference()
		q, z := reference()
		return sample{span(p, q), s + ":" + z, 8}
	}
	return leaves()[r.Intn(len(leaves()))]
}

// grown gives a tree by chance that is at most so deep.
func grown(r *rand.Rand, depth int) sample {
	if depth <= 1 || r.Intn(12) == 0 {
		return leafByChance(r)
	}
	switch r.Intn(8) {
	case 0, 1:
		return slots()[r.Intn(3)](grown(r, depth-1))
	case 2, 3:
		f := r.Intn(api.Functions)
		row := functions()[f]
		node, inner := fun(f+1), []string{}
		for range row.least + r.Intn(min(row.most, 5)-row.least+1) {
			kid := grown(r, depth-1)
			node.Kids, inner = append(node.Kids, kid.tree), append(inner, kid.text)
		}
		return sample{node, row.name + "(" + strings.Join(inner, ",") + ")", 8}
	}
	o := operationsOfTwo()[r.Intn(12)]
	left, right := grown(r, depth-1), grown(r, depth-1)
	return sample{bin(o.op, left.tree, right.tree), left.within(o.level) + o.sign + right.within(o.level+1), o.level}
}

// sizeOf counts a tree a depth after the other.
func sizeOf(t api.Expr) (nodes, depth, bytes int) {
	for row := []api.Expr{t}; len(row) > 0; depth++ {
		var below []api.Expr
		for _, n := range row {
			nodes++
			bytes += len(n.Text)
			below = append(below, n.Kids...)
		}
		row = below
	}
	return nodes, depth, bytes
}

func TestTreesByChance(t *testing.T) {
	r := rand.New(rand.NewSource(11))
	refused := 0
	for range 2500 {
		x := grown(r, 1+r.Intn(10))
		if nodes, depth, bytes := sizeOf(x.tree); nodes > 512 || depth > 64 || bytes > 16384 {
			checkRefused(t, x.tree, api.ErrLong)
			refused++
			continue
		}
		checkText(t, x.tree, "="+x.text)
		checkFewBrackets(t, x.tree)
		if t.Failed() {
			return
		}
	}
	if refused == 0 || refused > 600 {
		t.Errorf("the test's own fault: %d of 2500 trees are too great", refused)
	}
}

func TestDeepTreesByChance(t *testing.T) {
	r := rand.New(rand.NewSource(64))
	all := slots()
	for range 300 {
		x := leafByChance(r)
		for range 63 {
			x = all[r.Intn(len(all))](x)
		}
		checkText(t, x.tree, "="+x.text)
		checkFewBrackets(t, x.tree)
		checkRefused(t, all[r.Intn(len(all))](x).tree, api.ErrLong)
		if t.Failed() {
			return
		}
	}
}
