package comp

import (
	"fmt"
	"math/rand"
	"slices"
	"strings"
	"testing"

	"quadrille/api"
	"quadrille/code"
	"quadrille/list"
	"quadrille/tree"
)

// names writes code down as the document's tables have it: lines in which places have names (@7@ is the place of what stands behind the line @7@), and constants are mentioned as they are. What the names and constants stand for is found out when all lines are there.
type names struct{ last int }

func (m *names) fresh() string {
	m.last++
	return fmt.Sprintf("@%d@", m.last)
}

// joined lays rows of lines one behind the other.
func joined(all ...[]string) []string { return slices.Concat(all...) }

// line is a row of one line.
func line(form string, all ...any) []string { return []string{fmt.Sprintf(form, all...)} }

// quoted writes a text as code's text does.
func quoted(s string) string {
	b := strings.Builder{}
	for _, c := range []byte(s) {
		switch {
		case c == '"', c == '\\':
			b.WriteString("\\" + string(rune(c)))
		case c >= 32 && c <= 126:
			b.WriteByte(c)
		default:
			fmt.Fprintf(&b, "\\x%02x", c)
		}
	}
	return `"` + b.String() + `"`
}

// inValue lays a node in a value's place.
func (m *names) inValue(x api.Expr) []string {
	switch x.Kind {
	case api.XInt:
		return line("mention i %d", x.Int)
	case api.XText:
		return line("mention t %s", quoted(x.Text))
	case api.XBool:
		return line("mention b %d", x.Int)
	case api.XErr:
		return line("mention e %d", x.Int)
	case api.XRef:
		return line("do.fetch %d %d", x.Ref.Row, x.Ref.Col)
	case api.XRange:
		return line("mention e 4")
	case api.XUn:
		return joined(m.inValue(x.Kids[0]), line("do.un %d", x.Op))
	case api.XBin:
		behind := m.fresh()
		return joined(m.inValue(x.Kids[0]), line("do.err %s 0", behind), m.inValue(x.Kids[1]), line("do.bin %d", x.Op), []string{behind})
	}
	return m.called(x)
}

// called lays a call in a value's place.
func (m *names) called(x api.Expr) []string {
	told, _ := list.Info(x.Fun)
	end, n := m.fresh(), len(x.Kids)
	switch told.Class {
	case api.ClassArea:
		return joined(m.inArea(x), line("do.one"))
	case api.ClassPlace:
		if n == 0 {
			return line("do.here %d", x.Fun)
		}
		return joined(m.inArea(x.Kids[0]), line("do.place %d", x.Fun))
	case api.ClassLazy:
		return joined(m.lazy(x, end), []string{end})
	case api.ClassWalking:
		var all []string
		for i, kid := range x.Kids {
			f, _ := list.Info(kid.Fun)
			if kid.Kind == api.XRef || kid.Kind == api.XRange || kid.Kind == api.XCall && f.Class == api.ClassArea {
				all = joined(all, m.inArea(kid), line("do.err %s %d", end, i))
			} else {
				all = joined(all, m.inValue(kid))
			}
		}
		return joined(all, line("do.walk %d %d", x.Fun, n), []string{end})
	}
	return joined(m.listed(x.Kids, 0, end), line("do.call %d %d", x.Fun, n), []string{end})
}

// listed lays arguments, the first of which has so many ahead of it.
func (m *names) listed(kids []api.Expr, ahead int, end string) []string {
	var all []string
	for i, kid := range kids {
		all = joined(all, m.inValue(kid))
		if i+1 < len(kids) {
			all = joined(all, line("do.err %s %d", end, ahead+i))
		}
	}
	return all
}

// lazy lays a call of the class lazy, up to its end.
func (m *names) lazy(x api.Expr, end string) []string {
	first, n := m.inValue(x.Kids[0]), len(x.Kids)
	jump := line("do.jump %s", end)
	switch x.Fun {
	case api.FIf:
		other := m.fresh()
		b := line("mention b 0")
		if n == 3 {
			b = m.inValue(x.Kids[2])
		}
		return joined(first, line("do.if %s %s", other, end), m.inValue(x.Kids[1]), jump, []string{other}, b)
	case api.FIferror:
		return joined(first, line("do.ok %s 0", end), m.inValue(x.Kids[1]))
	case api.FIfna:
		return joined(first, line("do.ok %s 6", end), m.inValue(x.Kids[1]))
	case api.FChoose:
		head, all := "do.choose "+end, []string(nil)
		for i, kid := range x.Kids[1:] {
			begin := m.fresh()
			head += " " + begin
			all = joined(all, []string{begin}, m.inValue(kid))
			if i+2 < n {
				all = joined(all, jump)
			}
		}
		return joined(first, []string{head}, all)
	}
	all := joined(first, line("do.err %s 0", end))
	for i := 1; i+1 < n; i += 2 {
		next := m.fresh()
		all = joined(all, m.inValue(x.Kids[i]), line("do.err %s 1", end), line("do.match %s", next), m.inValue(x.Kids[i+1]), jump, []string{next})
	}
	if n%2 == 1 {
		return joined(all, line("do.drop"), line("mention e 6"))
	}
	return joined(all, line("do.drop"), m.inValue(x.Kids[n-1]))
}

// inArea lays a node in an area's place.
func (m *names) inArea(x api.Expr) []string {
	switch {
	case x.Kind == api.XRef:
		return line("do.area %d %d %d %d", x.Ref.Row, x.Ref.Col, x.Ref.Row, x.Ref.Col)
	case x.Kind == api.XRange:
		top, bottom := min(x.Ref.Row, x.To.Row), max(x.Ref.Row, x.To.Row)
		left, right := min(x.Ref.Col, x.To.Col), max(x.Ref.Col, x.To.Col)
		if (bottom-top+1)*(right-left+1) > 4096 {
			return line("mention e 3")
		}
		return line("do.area %d %d %d %d", top, left, bottom, right)
	case x.Kind == api.XErr:
		return line("mention e %d", x.Int)
	case x.Kind == api.XCall && x.Fun == api.FIndirect:
		return joined(m.inValue(x.Kids[0]), line("do.indirect"))
	case x.Kind == api.XCall && (x.Fun == api.FOffset || x.Fun == api.FIndex):
		end, op := m.fresh(), "offset"
		if x.Fun == api.FIndex {
			op = "index"
		}
		return joined(m.inArea(x.Kids[0]), line("do.err %s 0", end), m.listed(x.Kids[1:], 1, end), line("do.%s %d", op, len(x.Kids)-1), []string{end})
	}
	return line("mention e 4")
}

// assembled gives the text of lines, with "; " between them.
func assembled(lines []string) string {
	places, count := map[string]string{}, 0
	for _, l := range lines {
		if strings.HasPrefix(l, "@") {
			places[l] = fmt.Sprint(count)
			continue
		}
		count++
	}
	var consts, all []string
	for _, l := range lines {
		mentioned, is := strings.CutPrefix(l, "mention ")
		switch {
		case strings.HasPrefix(l, "@"):
		case is:
			if !slices.Contains(consts, "const "+mentioned) {
				consts = append(consts, "const "+mentioned)
			}
			all = append(all, fmt.Sprint("do.const ", slices.Index(consts, "const "+mentioned)))
		default:
			words := strings.Split(l, " ")
			for i, w := range words {
				if strings.HasPrefix(w, "@") {
					words[i] = places[w]
				}
			}
			all = append(all, strings.Join(words, " "))
		}
	}
	return strings.Join(append(consts, all...), "; ")
}

// modelCode gives the text of a tree's code, written down apart from the program.
func modelCode(x api.Expr) string {
	m := names{}
	return assembled(m.inValue(x))
}

// checkModel holds the code of a tree that may be against the model, and against what code may be.
func checkModel(t *testing.T, x api.Expr) api.Code {
	t.Helper()
	if e := tree.May(x); e != api.OK {
		t.Fatalf("the test's tree may not be: %d: %s", e, brief(spell(x)))
	}
	p, e := Formula(x)
	if may := code.May(p); may != api.OK {
		t.Fatalf("P17.2: the code may not be: %d: %s", may, brief(spell(x)))
	}
	if got, want := oneLine(p), modelCode(x); e != api.OK || got != want {
		t.Fatalf("P17.1: %s: error %d\n got %s\nwant %s", brief(spell(x)), e, brief(got), brief(want))
	}
	return p
}

// smallKids gives a node of each sort that a row of the tables tells apart.
func smallKids() []api.Expr {
	return []api.Expr{
		num(1), txt("1"), truth(1), bad(api.ERef), ref(at(1, 2)), span(at(3, 2), at(1, 4)), span(at(0, 0), at(64, 63)),
		bin(api.BMul, num(1), bad(api.EValue)), fun(api.FIf, ref(at(1, 1)), num(2)), fun(api.FIndex, span(at(0, 0), at(1, 1)), num(1)), fun(api.FSum, ref(at(2, 1)), truth(0)), fun(api.FRow),
	}
}

// choices gives all rows of so many of some trees.
func choices(kids []api.Expr, n int) [][]api.Expr {
	if n == 0 {
		return [][]api.Expr{nil}
	}
	var all [][]api.Expr
	for _, row := range choices(kids, n-1) {
		for _, kid := range kids {
			all = append(all, append(slices.Clone(row), kid))
		}
	}
	return all
}

// TestEverySmallTree holds each operation and each function, with up to three kids of every sort in every place, and with more of them in some, against the model.
func TestEverySmallTree(t *testing.T) {
	kids := smallKids()
	for _, x := range kids {
		checkModel(t, x)
		for op := api.UMinus; op <= api.UPercent; op++ {
			checkModel(t, un(op, x))
		}
	}
	for _, two := range choices(kids, 2) {
		for op := api.BPow; op <= api.BMoreEq; op++ {
			checkModel(t, bin(op, two...))
		}
	}
	some := []api.Expr{kids[0], kids[3], kids[4], kids[9]}
	for f := 1; f <= api.Functions; f++ {
		told, _ := list.Info(f)
		for n := told.Min; n <= 6 && (n <= told.Max || told.Max < 0); n++ {
			from := kids
			if n > 3 {
				from = some
			}
			for _, row := range choices(from, n) {
				checkModel(t, fun(f, row...))
			}
		}
	}
}

// chance gives trees by chance.
type chance struct{ *rand.Rand }

func (c chance) place() api.Ref {
	if c.Intn(20) == 0 {
		return at(c.Intn(api.MaxRows), c.Intn(api.MaxCols))
	}
	r := at(c.Intn(5), c.Intn(5))
	r.PinRow, r.PinCol = c.Intn(2) == 0, c.Intn(2) == 0
	return r
}

// leaf gives a tree of one node.
func (c chance) leaf() api.Expr {
	texts := []string{"", "A1", "$B$2:C3", "A1:ZZ9", "TRUE", "2", "x", "\x00\"\\\xff"}
	switch c.Intn(14) {
	case 0:
		return txt(texts[c.Intn(len(texts))])
	case 1:
		return truth(int64(c.Intn(2)))
	case 2:
		return bad(int64(1 + c.Intn(6)))
	case 3, 4, 5:
		return span(c.place(), c.place())
	case 6, 7, 8, 9:
		return ref(c.place())
	case 10:
		return []api.Expr{fun(api.FRow), fun(api.FColumn), fun(api.FNa), num(1<<63 - 1)}[c.Intn(4)]
	}
	return num(int64(c.Intn(5)))
}

// function gives a function that takes from one to so many arguments, and how many. Those that do more than reckon come more often.
func (c chance) function(most int) (int, int) {
	for {
		f := 1 + c.Intn(api.Functions)
		if c.Intn(2) == 0 {
			f = api.FIf + c.Intn(api.FSum+1-api.FIf)
		}
		told, _ := list.Info(f)
		if told.Max < 0 || told.Max > most {
			told.Max = most
		}
		if told.Min = max(told.Min, 1); told.Min <= told.Max {
			return f, told.Min + c.Intn(told.Max-told.Min+1)
		}
	}
}

// tree gives a tree of so many nodes and at most so many levels, of which there are two or more, if there are two nodes.
func (c chance) tree(nodes, levels int) api.Expr {
	if nodes == 1 || levels == 1 {
		return c.leaf()
	}
	if levels == 2 {
		wide := []int{api.FSum, api.FConcat, api.FCounta}
		if nodes > 3 {
			wide = append(wide, api.FChoose, api.FSwitch, api.FJoin)
		}
		return fun(wide[c.Intn(len(wide))], c.kids(nodes-1, nodes-1, 1)...)
	}
	switch n := c.Intn(8); {
	case n == 0 || n == 1 && nodes == 2:
		return un(1+c.Intn(3), c.tree(nodes-1, levels-1))
	case n == 1:
		return bin(1+c.Intn(12), c.kids(nodes-1, 2, levels-1)...)
	}
	f, n := c.function(nodes - 1)
	return fun(f, c.kids(nodes-1, n, levels-1)...)
}

// kids gives so many trees of so many nodes in all.
func (c chance) kids(nodes, n, levels int) []api.Expr {
	sizes := slices.Repeat([]int{1}, n)
	for left := nodes - n; left > 0 && levels > 1; {
		more := 1 + c.Intn(left)
		sizes[c.Intn(n)] += more
		left -= more
	}
	var all []api.Expr
	for _, size := range sizes {
		all = append(all, c.tree(size, levels))
	}
	return all
}

func TestByChance(t *testing.T) {
	c := chance{rand.New(rand.NewSource(17))}
	for range 40000 {
		checkModel(t, c.tree(1+c.Intn(30), 2+c.Intn(6)))
	}
}

func TestGreatTreesByChance(t *testing.T) {
	c := chance{rand.New(rand.NewSource(171))}
	for range 250 {
		x := c.tree(512, 64)
		if nodes, _, _ := tree.Size(x); nodes != 512 {
			t.Fatalf("the test's tree has %d nodes", nodes)
		}
		checkModel(t, x)
	}
}
