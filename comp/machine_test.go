package comp

import (
	"fmt"
	"math/rand"
	"slices"
	"testing"

	"quadrille/api"
	"quadrille/mach"
)

// code has a machine run code to its end, and gives what comes of it.
func (r *run) code(t *testing.T, p api.Code) api.Value {
	t.Helper()
	m, e := mach.New(p, r.at)
	if e != api.OK {
		t.Fatalf("P17.2: the machine refuses the code: %d", e)
	}
	for at, wants := m.Wants(); wants; at, wants = m.Wants() {
		r.fetched = append(r.fetched, at)
		if e := m.Give(r.cells(at)); e != api.OK {
			t.Fatalf("the machine refuses the value of %v: %d", at, e)
		}
	}
	v, _ := m.Value()
	return v
}

// sheets gives sheets of few values, each in many places.
func sheets(c chance) sheet {
	all := []api.Value{
		{}, {}, number(0), number(1), number(1), number(2), number(3), number(-1), number(70000), {Kind: api.VBool}, {Kind: api.VBool, Int: 1},
		{Kind: api.VText}, {Kind: api.VText, Text: "A1"}, {Kind: api.VText, Text: "b2:A1"}, {Kind: api.VText, Text: "A1:B4000"}, {Kind: api.VText, Text: "2"}, {Kind: api.VText, Text: "FALSE"}, {Kind: api.VText, Text: "x"},
	}
	for e := int64(api.EName); e <= api.ENA; e++ {
		all = append(all, wrong(e))
	}
	// Some sheets have no errors, most of others few.
	all = all[:min(len(all), 3+c.Intn(len(all)))]
	seed := 1 + c.Intn(1000)
	return func(at api.Spot) api.Value { return all[(at.Row*31+at.Col*17+seed)*seed%1009%len(all)] }
}

// checkRun holds what code wants and ends with against what the evaluation of its tree fetches and ends with, at a place of a sheet.
func checkRun(t *testing.T, x api.Expr, p api.Code, at api.Spot, cells sheet) ([]api.Spot, api.Value) {
	t.Helper()
	meant, done := run{at: at, cells: cells}, run{at: at, cells: cells}
	want := meant.ended(func() api.Value { return meant.tree(x) })
	got := done.code(t, p)
	if got != want || !slices.Equal(done.fetched, meant.fetched) {
		t.Fatalf("P17.3: %s at %v: ends with %v, not %v; wants %s, not %s", brief(spell(x)), at, got, want, brief(fmt.Sprint(done.fetched)), brief(fmt.Sprint(meant.fetched)))
	}
	return meant.fetched, want
}

// TestRunsByChance runs the code of trees by chance on sheets by chance, and sees to it that they tell something.
func TestRunsByChance(t *testing.T) {
	c := chance{rand.New(rand.NewSource(173))}
	goOn, many := 0, 0
	for range 30000 {
		x := c.tree(1+c.Intn(25), 2+c.Intn(5))
		p, _ := Formula(x)
		for range 3 {
			fetched, v := checkRun(t, x, p, api.Spot{Row: c.Intn(9), Col: c.Intn(9)}, sheets(c))
			if !isWrong(v) {
				goOn++
			}
			if len(fetched) > 1 {
				many++
			}
		}
	}
	if goOn < 20000 || many < 20000 {
		t.Errorf("of 90000 runs only %d end with no error, only %d fetch more than one place", goOn, many)
	}
}

// TestRunsOfSmallTrees runs the code of each function with each sort of argument in each place.
func TestRunsOfSmallTrees(t *testing.T) {
	c := chance{rand.New(rand.NewSource(1730))}
	kids := []api.Expr{num(1), num(2), txt("A1"), bad(api.ENA), ref(at(1, 2)), span(at(3, 2), at(1, 4)), fun(api.FIndex, span(at(0, 0), at(1, 1)), ref(at(4, 4))), bin(api.BMore, ref(at(1, 1)), ref(at(5, 5)))}
	for f := 1; f <= api.Functions; f++ {
		for n := range 4 {
			for _, row := range choices(kids, n) {
				x := fun(f, row...)
				p, e := Formula(x)
				if e != api.OK {
					continue
				}
				for range 4 {
					checkRun(t, x, p, api.Spot{Row: c.Intn(9), Col: c.Intn(9)}, sheets(c))
				}
			}
		}
	}
}

func TestRunsOfGreatTrees(t *testing.T) {
	c := chance{rand.New(rand.NewSource(1731))}
	for range 300 {
		x := c.tree(512, 3+c.Intn(61))
		p, _ := Formula(x)
		for range 10 {
			checkRun(t, x, p, api.Spot{}, sheets(c))
		}
	}
}

// TestWhatIsWanted runs the code of single formulas, and writes down what they want.
func TestWhatIsWanted(t *testing.T) {
	cells := func(at api.Spot) api.Value {
		switch at.Col {
		case 0:
			return number(at.Row)
		case 1:
			return api.Value{Kind: api.VText, Text: "x"}
		case 2:
			return wrong(api.ENA)
		}
		return api.Value{}
	}
	for _, c := range []struct {
		formula string
		wants   []api.Spot
		ends    api.Value
	}{
		{"=A2+A3+A2", []api.Spot{{Row: 1}, {Row: 2}, {Row: 1}}, number(4)},
		{"=C1+A3", []api.Spot{{Col: 2}}, wrong(api.ENA)},
		{"=B1+A3", []api.Spot{{Col: 1}, {Row: 2}}, wrong(api.EValue)},
		{"=MID(B1,C1,A1)", []api.Spot{{Col: 1}, {Col: 2}}, wrong(api.ENA)},
		{"=ISNA(C1)", []api.Spot{{Col: 2}}, api.Value{Kind: api.VBool, Int: 1}},
		{"=IF(A1,A2,A3)", []api.Spot{{}, {Row: 2}}, number(2)},
		{"=IF(A2,A2,A3)", []api.Spot{{Row: 1}, {Row: 1}}, number(1)},
		{"=IF(A1,A2)", []api.Spot{{}}, api.Value{Kind: api.VBool}},
		{"=IF(B1,A2,A3)", []api.Spot{{Col: 1}}, wrong(api.EValue)},
		{"=IFERROR(A1,A2)", []api.Spot{{}}, number(0)},
		{"=IFERROR(B1/1,A2)", []api.Spot{{Col: 1}, {Row: 1}}, number(1)},
		{"=IFNA(B1/1,A2)", []api.Spot{{Col: 1}}, wrong(api.EValue)},
		{"=IFNA(C1,A2)", []api.Spot{{Col: 2}, {Row: 1}}, number(1)},
		{"=CHOOSE(A3,A4,A5,A6)", []api.Spot{{Row: 2}, {Row: 4}}, number(4)},
		{"=CHOOSE(A1,A4,A5,A6)", []api.Spot{{}}, wrong(api.EValue)},
		{"=CHOOSE(C1,A4,A5,A6)", []api.Spot{{Col: 2}}, wrong(api.ENA)},
		{"=SWITCH(A3,A2,A9,A3,A7,A8)", []api.Spot{{Row: 2}, {Row: 1}, {Row: 2}, {Row: 6}}, number(6)},
		{"=SWITCH(A3,A2,A9,A4,A7,A8)", []api.Spot{{Row: 2}, {Row: 1}, {Row: 3}, {Row: 7}}, number(7)},
		{"=SWITCH(A3,A2,A9)", []api.Spot{{Row: 2}, {Row: 1}}, wrong(api.ENA)},
		{"=SWITCH(C1,A2,A9)", []api.Spot{{Col: 2}}, wrong(api.ENA)},
		{"=SWITCH(A3,C1,A9,A3,A3)", []api.Spot{{Row: 2}, {Col: 2}}, wrong(api.ENA)},
		{"=ROW()*10+COLUMN()", nil, number(52)},
		{"=ROWS(OFFSET(A1,A2,1,A4))", []api.Spot{{Row: 1}, {Row: 3}}, number(3)},
		{"=ROWS(C1:C9)", nil, number(9)},
		{"=OFFSET(B1,A2,-1)", []api.Spot{{Row: 1}, {Row: 1}}, number(1)},
		{"=OFFSET(B1,A2,-1,2)", []api.Spot{{Row: 1}}, wrong(api.EValue)},
		{"=INDEX(A5:C9,A3,1)", []api.Spot{{Row: 2}, {Row: 5}}, number(5)},
		{"=SUM(A2:A3,INDIRECT(\"A\"&A5),3)", []api.Spot{{Row: 4}, {Row: 1}, {Row: 2}, {Row: 3}}, number(9)},
		{"=SUM(A2:A3,INDIRECT(B1),A9)", []api.Spot{{Col: 1}}, wrong(api.ERef)},
		{"=COUNT(A2,C1+1,B1+0)", []api.Spot{{Col: 2}, {Col: 1}, {Row: 1}}, number(1)},
	} {
		x := read(t, c.formula)
		p, _ := Formula(x)
		fetched, v := checkRun(t, x, p, api.Spot{Row: 4, Col: 1}, cells)
		if !slices.Equal(fetched, c.wants) || v != c.ends {
			t.Errorf("P17.3: %s wants %v and ends with %v, not %v and %v", c.formula, fetched, v, c.wants, c.ends)
		}
	}
}

// TestTooManyFetches goes up to the fetch that is not made, and beyond it.
func TestTooManyFetches(t *testing.T) {
	ones := func(api.Spot) api.Value { return number(1) }
	full := "A1:A4096" + times(15, ",A1:A4096")
	for _, c := range []struct {
		formula string
		count   int
		ends    api.Value
	}{
		{"=SUM(" + full + ")", 65536, number(65536)},
		{"=SUM(" + full + ",A1)", 65536, wrong(api.ERef)},
		{"=IFERROR(SUM(" + full + ",A1),1)", 65536, wrong(api.ERef)},
		{"=ISERROR(SUM(" + full + ")+A1)", 65536, wrong(api.ERef)},
		{"=IF(SUM(" + full + ")>1,2,A1)", 65536, number(2)},
		{"=SUM(SUM(" + full + "),INDIRECT(\"B1\"))", 65536, wrong(api.ERef)},
		{"=COUNT(SUM(" + full + "),INDEX(A1:B2,1,1)+1)", 65536, wrong(api.ERef)},
	} {
		x := read(t, c.formula)
		p, _ := Formula(x)
		fetched, v := checkRun(t, x, p, api.Spot{}, ones)
		if len(fetched) != c.count || v != c.ends {
			t.Errorf("P17.3: %s wants %d places and ends with %v, not %d and %v", c.formula, len(fetched), v, c.count, c.ends)
		}
	}
}
