package parse

import (
	"math/rand"
	"slices"
	"strings"
	"sync"
	"testing"

	"quadrille/api"
	"quadrille/tree"
)

// answer is what Formula tells of a text.
type answer struct {
	tree string
	at   int
	e    api.Errno
}

func ask(s string) answer {
	t, at, e := Formula(s)
	return answer{spell(t), at, e}
}

// texts gives formulas of every form, and faults of every sort among them.
func texts() []string {
	return []string{
		"=1", "=\"a\"\"b\"", "=A1", "=A1:$B$2", "=AAA1", "=NA()", "=-1", "=1%", "=--A1%%", "=1+2", "=1+2*3^4&5=6", "=SUM(1,2,3)", "=SUM(A1,1)+2", "=SUM(1)+SUM(1)", "=sum(sum(1,2,sum(3)),-4,5%,(6))", "=IF(A1=B1,SUM(A1:B2,1,2,3,4),\"x\"&1)", "=((1))+((1))",
		"=SUM(1" + times(510, ",1") + ")", "=" + times(63, "-") + "1", "=1" + times(63, "+1"), "=" + times(63, "ABS(") + "1" + times(63, ")"), "=\"" + times(16384, "x") + "\"", "=SUM(" + strings.TrimPrefix(times(127, ",1+1"), ",") + ")", "=" + times(256, "(") + "A1" + times(256, ")"),
		"", "1", "=", "=1+", "=*", "=1 2", "=NOPE(", "=ABS()", "=SUM(1,ABS())", "=SUM(1,2,NOPE(3))", "=(1", "=1)", "='", "=99999999999999999999", "=" + times(257, "("), "=" + times(64, "-") + "1", "=SUM(1" + times(511, ",1") + ")", "=\"" + times(16385, "x") + "\"", "=" + times(65536, " "),
	}
}

// lists gives all lists of kids of a tree, each with its spare room.
func lists(t api.Expr) [][]api.Expr {
	var all [][]api.Expr
	if cap(t.Kids) > 0 {
		all = append(all, t.Kids[:cap(t.Kids)])
	}
	for _, kid := range t.Kids {
		all = append(all, lists(kid)...)
	}
	return all
}

// scribble writes into all lists of a tree, their spare room too, and holds each one against what was written there: two that share memory can't both keep theirs.
func scribble(t *testing.T, x api.Expr) {
	t.Helper()
	all := lists(x)
	for i, l := range all {
		for k := range l {
			l[k] = api.Expr{Kind: -1, Op: i, Int: int64(k)}
		}
	}
	for i, l := range all {
		for k, n := range l {
			if n.Kind != -1 || n.Op != i || n.Int != int64(k) {
				t.Fatalf("P10.2: two lists of one answer share memory")
			}
		}
	}
}

func TestAnswersHaveMemoryOfTheirOwn(t *testing.T) {
	for _, s := range texts() {
		was := ask(s)
		first, _, _ := Formula(s)
		second, _, _ := Formula(s)
		third, _, _ := Formula(s + " ")
		scribble(t, first)
		if spell(second) != was.tree || third.Kind != 0 && spell(third) != was.tree {
			t.Errorf("P10.2: writing into an answer of %s changes another one", brief(s))
		}
		if now := ask(s); now != was {
			t.Errorf("P10.2: writing into an answer of %s changes a later one: %d, %d, %s", brief(s), now.at, now.e, brief(now.tree))
		}
	}
}

func TestAppendingToAnAnswer(t *testing.T) {
	appendAll := func(x api.Expr) {
		var visit func(n api.Expr)
		visit = func(n api.Expr) {
			_ = append(n.Kids, txt("appended"), minus(num(5)))
			for _, kid := range n.Kids {
				visit(kid)
			}
		}
		visit(x)
	}
	for _, s := range texts() {
		was := ask(s)
		first, _, _ := Formula(s)
		second, _, _ := Formula(s)
		appendAll(first)
		if spell(first) != was.tree || spell(second) != was.tree || ask(s) != was {
			t.Errorf("P10.2: what is appended to a list of an answer of %s is seen elsewhere", brief(s))
		}
	}
}

// TestWritingIntoAllOthers keeps the answers of all texts, and spoils them one after the other.
func TestWritingIntoAllOthers(t *testing.T) {
	all := texts()
	trees, were := make([]api.Expr, len(all)), make([]answer, len(all))
	for i, s := range all {
		trees[i], _, _ = Formula(s)
		were[i] = ask(s)
	}
	for i := range all {
		if spell(trees[i]) != were[i].tree {
			t.Errorf("P10.2: an answer of %s has changed with another one", brief(all[i]))
		}
		scribble(t, trees[i])
	}
	for i, s := range all {
		if ask(s) != were[i] {
			t.Errorf("P10.2: %s is answered otherwise than at first", brief(s))
		}
	}
}

func TestTheSameTextAgain(t *testing.T) {
	all := texts()
	were := make([]answer, len(all))
	for i, s := range all {
		were[i] = ask(s)
	}
	// Each one behind each other one, and from memory of its own.
	for i, s := range all {
		for k, z := range all {
			if len(s) > 5000 && len(z) > 5000 {
				continue
			}
			if a := ask(strings.Clone(z)); a != were[k] {
				t.Errorf("P10.2: %s is answered otherwise behind %s", brief(z), brief(s))
			}
			if a := ask(strings.Clone(s)); a != were[i] {
				t.Errorf("P10.2: %s is answered otherwise behind %s", brief(s), brief(z))
			}
		}
	}
	var group sync.WaitGroup
	for worker := range 8 {
		group.Go(func() {
			for k := range 3 * len(all) {
				i := (k*7 + worker*5) % len(all)
				if a := ask(all[i]); a != were[i] {
					t.Errorf("P10.2: %s is answered otherwise among others", brief(all[i]))
				}
			}
		})
	}
	group.Wait()
}

// checkAny holds Formula against what is true of any text.
func checkAny(t *testing.T, s string) {
	t.Helper()
	got, at, e := Formula(s)
	switch {
	case e == api.OK:
		if at != 0 || tree.May(got) != api.OK || !strings.HasPrefix(s, "=") || len(s) > api.MaxEntry {
			t.Errorf("P10.1: Formula(%s) gives %s, %d, OK", brief(s), brief(spell(got)), at)
		}
	case spell(got) != spell(api.Expr{}) || at < 0 || at > len(s):
		t.Errorf("P10.1: Formula(%s) gives %s, %d, %d", brief(s), brief(spell(got)), at, e)
	case !slices.Contains([]api.Errno{api.ErrArg, api.ErrSyntax, api.ErrNone, api.ErrLong, api.ErrToken, api.ErrNumber}, e):
		t.Errorf("P10.1: Formula(%s) gives an error that there is not: %d", brief(s), e)
	}
	if ask(s) != (answer{spell(got), at, e}) {
		t.Errorf("P10.2: %s is answered otherwise the second time", brief(s))
	}
}

func TestAnyBytes(t *testing.T) {
	for c := range 256 {
		checkAny(t, string([]byte{byte(c)}))
		checkAny(t, string([]byte{'=', byte(c)}))
		checkAny(t, string([]byte{'=', '1', byte(c), '1'}))
		checkAny(t, string([]byte{'=', '"', byte(c), '"'}))
		checkAny(t, string([]byte{'=', 'A', '1', ':', byte(c), 'B', '2'}))
	}
	r := rand.New(rand.NewSource(31))
	pieces := []string{"(", ")", ",", ":", "+", "-", "*", "/", "^", "&", "=", "<", ">", "<>", "%", "1", "0", "A1", "$", "B", "SUM(", "na(", "if(", "TRUE", "\"", "\"a\"", "#", "#REF!", " ", "\u00a0", "\xff", "é", "'", "."}
	for range 30000 {
		b := strings.Builder{}
		b.WriteString("=")
		for range r.Intn(12) {
			b.WriteString(pieces[r.Intn(len(pieces)-r.Intn(5))])
		}
		checkAny(t, b.String())
		noise := make([]byte, r.Intn(10))
		r.Read(noise)
		checkAny(t, "="+string(noise))
	}
	for _, s := range pieces {
		for _, n := range []int{63, 64, 65, 255, 256, 257, 511, 512, 513, 16384, 30000} {
			checkAny(t, "="+times(min(n, 65535/len(s)), s))
			checkAny(t, "=1"+times(min(n, 65534/len(s)), s))
			checkAny(t, "="+times(min(n, 65534/len(s)), s)+"1")
		}
	}
}
