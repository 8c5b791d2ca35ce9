package sheet

import (
	"slices"
	"sync"
	"testing"

	"quadrille/api"
	"quadrille/parse"
	"quadrille/tree"
)

// scribble writes over all that lies in a tree, and over the room behind its lists.
func scribble(x *api.Expr) {
	kids := x.Kids[:cap(x.Kids)]
	for i := range kids {
		scribble(&kids[i])
	}
	*x = api.Expr{Kind: api.XText, Text: "scribbled", Kids: slices.Insert(kids, 0, api.Expr{Kind: -1})}
}

// checkReads holds the tree of a place against that of a text.
func checkReads(t *testing.T, what string, s *Sheet, p api.Spot, text string) {
	t.Helper()
	want, _, _ := parse.Formula(text)
	if got, e := s.Tree(p); e != api.OK || !tree.Same(got, want) {
		t.Errorf("%s: Tree(%v): %v, %d; want that of %s", what, p, got, e, text)
	}
}

func TestTreesAreTheCallersOwn(t *testing.T) {
	formulas := []string{"=1", "=A1", "=A1:B2", "=SUM(A1,B2:C3,\"x\",-(1+2))%", "=IF(A1=1,SUM(B1:B9,ABS(-C1)),NA())", "=NA()"}
	s := New()
	for i, f := range formulas {
		do(t, s, api.Edit{Kind: api.EditSet, At: at(i, 0), Text: f})
	}
	do(t, s, api.Edit{Kind: api.EditPaste, Area: rect(0, 0, len(formulas)-1, 0), To: place("C1")})
	c := s.Copy()
	for i, f := range formulas {
		p := at(i, 0)
		first, _ := s.Tree(p)
		second, _ := s.Tree(p)
		third, _ := c.Tree(p)
		scribble(&first)
		checkReads(t, "P19.7: a tree that was written over", s, p, f)
		checkReads(t, "P19.7: a tree that was written over, in a copy", c, p, f)
		want, _, _ := parse.Formula(f)
		if !tree.Same(second, want) || !tree.Same(third, want) {
			t.Errorf("P19.7: two answers for %s share memory", f)
		}
		scribble(&third)
		checkReads(t, "P19.7: a copy's tree that was written over", s, p, f)
		pasted, _ := s.Tree(at(i, 2))
		scribble(&pasted)
		checkReads(t, "P19.7: a pasted tree that was written over", s, p, f)
		checkReads(t, "P19.7: a pasted tree that was written over", s, at(i, 2), s.Text(at(i, 2)))
		checkReads(t, "P19.7: a pasted tree that was written over", c, at(i, 2), s.Text(at(i, 2)))
	}
	// What is moved and pasted then is what was kept, not what was written.
	do(t, s, rowsIn(0, 1), paste("A2:A4", "D2"))
	for i, text := range []string{"=1", "=D2", "=D2:E3"} {
		if got := s.Text(at(i+1, 3)); got != text {
			t.Errorf("P19.7: a paste behind trees that were written over: %q; want %q", got, text)
		}
	}
}

func TestEditsAreNeitherChangedNorKept(t *testing.T) {
	room := []api.Edit{set("A1", "=B1+1"), set("B1", "5"), paste("A1:B1", "A2"), rowsIn(0, 2), {Kind: api.EditClear, Area: span("B3:B3")}, set("C1", "spare"), {}}
	was := slices.Clone(room)
	s := New()
	do(t, s, room[:5]...)
	refuse(t, s, 6, api.ErrKind, room...)
	if !slices.Equal(room, was) {
		t.Errorf("P19.7: Apply has changed its edits, or what lies behind them: %s", spell(room))
	}
	for i := range room {
		room[i] = set("A9", "other")
	}
	checkCells(t, "P19.7: behind edits that were written over", s, items("A3", "=B3+1", "A4", "=B4+1", "B4", "5"))
}

func TestDiffersAnswersAreTheCallersOwn(t *testing.T) {
	s := sheetOf(t, "A1", "5", "B1", "=A1", "C1", "x")
	o := sheetOf(t, "B1", "=A1", "C1", "y", "D1", "z")
	want := places("A1 C1 D1")
	for range 3 {
		first, second := s.Differ(o), s.Differ(o)
		for i := range first {
			first[i] = at(9, 9)
		}
		_ = append(first, at(9, 9), at(9, 9))
		if !slices.Equal(second, want) || !slices.Equal(s.Differ(o), want) {
			t.Errorf("P19.7: Differ behind a list that was written over: %v; want %v", s.Differ(o), want)
		}
		if got := s.Differ(nil); !slices.Equal(got, places("A1 B1 C1")) {
			t.Errorf("P19.7: Differ(nil): %v", got)
		}
	}
	checkCells(t, "P19.7: the other sheet", o, items("B1", "=A1", "C1", "y", "D1", "z"))
}

// readAll asks a sheet for all that it tells, and tells whether it is as it should be.
func readAll(t *testing.T, s, was *Sheet, want []item) {
	t.Helper()
	if !slices.Equal(collect(s.All()), want) || s.Len() != len(want) || s.Bytes() != was.Bytes() || len(s.Differ(was)) != 0 || len(s.Differ(nil)) != len(want) {
		t.Errorf("P19.7: what a sheet tells while it is read by many: %s", show(collect(s.All())))
	}
	for _, i := range want {
		k := kindOf(i.text)
		if s.Text(i.at) != i.text || s.What(i.at) != k.what {
			t.Errorf("P19.7: %v while it is read by many: %q, %d", i.at, s.Text(i.at), s.What(i.at))
		}
		checkValue(t, s, i.at, k)
		checkTree(t, s, i.at, k)
		if x, e := s.Tree(i.at); e == api.OK {
			scribble(&x)
		}
	}
}

func TestReadByManyAtATime(t *testing.T) {
	s := sheetOf(t, "A1", "5", "B1", "=A1+SUM(A1:A9)", "C1", "=1+", "A2", "'x", "ZY65530", "=IF(A1,B1,C1)")
	do(t, s, paste("A1:C2", "D5"), rowsIn(3, 2))
	was, want := s.Copy(), collect(s.All())
	var all sync.WaitGroup
	for range 8 {
		all.Go(func() {
			for range 20 {
				readAll(t, s, was, want)
				// A copy is its owner's alone, also while others read the sheet that it was made of.
				c := s.Copy()
				if _, e := c.Apply(rowsOut(0, 1), colsIn(1, 1), set("A1", "=A1"), paste("A1:A1", "B2")); e != api.OK {
					t.Errorf("P19.7: Apply of a copy: %d", e)
				}
				if _, e := c.Apply(clearOf("A1:ZZ5"), api.Edit{}); e != api.ErrKind {
					t.Errorf("P19.7: Apply of a copy: %d", e)
				}
			}
		})
	}
	all.Wait()
	checkCells(t, "P19.7: a sheet that many have read", s, want)
}

// TestSheetsKnowNothingOfEachOther changes some sheets by turns.
func TestSheetsKnowNothingOfEachOther(t *testing.T) {
	sheets, models := make([]*Sheet, 5), make([]model, 5)
	for i := range sheets {
		sheets[i], models[i] = New(), model{}
	}
	c := newChance(5)
	for range 400 {
		i := c.Intn(5)
		if c.Intn(6) == 0 {
			k := c.Intn(5)
			sheets[i], models[i] = sheets[k].Copy(), models[k]
		}
		es := c.batch()
		next, wantK, wantE := models[i].apply(es)
		if k, e := sheets[i].Apply(es...); k != wantK || e != wantE {
			t.Fatalf("P19.2: %s: %d, %d; want %d, %d", spell(es), k, e, wantK, wantE)
		}
		models[i] = next
		for k := range sheets {
			if !slices.Equal(collect(sheets[k].All()), models[k].all()) {
				t.Fatalf("P0.5: sheet %d behind a batch of sheet %d: %s; want %s", k, i, show(collect(sheets[k].All())), show(models[k].all()))
			}
		}
	}
}
