package tree

import (
	"fmt"
	"math"
	"math/rand"
	"reflect"
	"slices"
	"strconv"
	"strings"
	"testing"

	"quadrille/api"
)

const (
	least   = math.MinInt
	most    = math.MaxInt
	least64 = math.MinInt64
	most64  = math.MaxInt64
)

func num(n int64) api.Expr { return api.Expr{Kind: api.XInt, Int: n} }

func text(s string) api.Expr { return api.Expr{Kind: api.XText, Text: s} }

func truth(n int64) api.Expr { return api.Expr{Kind: api.XBool, Int: n} }

func mistake(n int64) api.Expr { return api.Expr{Kind: api.XErr, Int: n} }

func at(row, col int) api.Ref { return api.Ref{Row: row, Col: col} }

func ref(r api.Ref) api.Expr { return api.Expr{Kind: api.XRef, Ref: r} }

func span(from, to api.Ref) api.Expr { return api.Expr{Kind: api.XRange, Ref: from, To: to} }

func un(op int, kids ...api.Expr) api.Expr { return api.Expr{Kind: api.XUn, Op: op, Kids: kids} }

func bin(op int, kids ...api.Expr) api.Expr { return api.Expr{Kind: api.XBin, Op: op, Kids: kids} }

func call(function int, kids ...api.Expr) api.Expr {
	return api.Expr{Kind: api.XCall, Fun: function, Kids: kids}
}

func sum(kids ...api.Expr) api.Expr { return call(api.FSum, kids...) }

// ones gives a list of so many numbers.
func ones(n int) []api.Expr { return slices.Repeat([]api.Expr{num(1)}, max(n, 0)) }

// minuses lays so many minuses ahead of a tree.
func minuses(n int, t api.Expr) api.Expr {
	for range n {
		t = un(api.UMinus, t)
	}
	return t
}

// doubled lays a tree so many times beside itself, by lists that are shared.
func doubled(n int, t api.Expr) api.Expr {
	for range n {
		t = bin(api.BAdd, t, t)
	}
	return t
}

// built gives a tree that may be, if it is not too great, with just so many nodes, so deep and with so many bytes; the text stands deepest, in the first of the root's kids or in the last one.
func built(nodes, depth, bytes int, last bool) api.Expr {
	deep := text(strings.Repeat("x", bytes))
	if depth == 1 {
		return deep
	}
	deep = minuses(depth-2, deep)
	rest := ones(nodes - depth)
	if last {
		return sum(append(rest, deep)...)
	}
	return sum(append([]api.Expr{deep}, rest...)...)
}

// spell writes all that a tree has, so that two have one text just if they are the same.
func spell(t api.Expr) string {
	b := strings.Builder{}
	var write func(n api.Expr)
	write = func(n api.Expr) {
		fmt.Fprintf(&b, "(%d %d %d %q %v %v %d", n.Kind, n.Op, n.Int, n.Text, n.Ref, n.To, n.Fun)
		for _, kid := range n.Kids {
			write(kid)
		}
		b.WriteString(")")
	}
	write(t)
	return b.String()
}

// brief spells a tree without the most of a long one.
func brief(t api.Expr) string {
	if isGreat(t) {
		return "a tree that is too great"
	}
	s := spell(t)
	return s[:min(len(s), 300)]
}

// modelSize counts a tree of an end, a depth after the other.
func modelSize(t api.Expr) (nodes, depth, bytes int) {
	for row := []api.Expr{t}; len(row) > 0; depth++ {
		var below []api.Expr
		for _, n := range row {
			nodes++
			if n.Kind == api.XText {
				bytes += len(n.Text)
			}
			if nodes > 2000 || depth > 100 {
				return 513, 65, 16385
			}
			below = append(below, n.Kids[:min(len(n.Kids), 2000)]...)
			if len(below) > 2000 {
				return 513, 65, 16385
			}
		}
		row = below
	}
	if nodes > 512 || depth > 64 || bytes > 16384 {
		return 513, 65, 16385
	}
	return nodes, depth, bytes
}

func isGreat(t api.Expr) bool {
	nodes, _, _ := modelSize(t)
	return nodes == 513
}

// nodesOf gives a tree's nodes as they stand, a node ahead of its kids, from a pile of those that are still to come.
func nodesOf(t api.Expr) []api.Expr {
	var nodes []api.Expr
	for pile := []api.Expr{t}; len(pile) > 0; {
		n := pile[len(pile)-1]
		pile = pile[:len(pile)-1]
		nodes = append(nodes, n)
		for _, kid := range slices.Backward(n.Kids) {
			pile = append(pile, kid)
		}
	}
	return nodes
}

// catalogue is how many arguments the functions take, by their numbers, as doc/13 has it.
const catalogue = `1 1 2 2 2 2 2 1 1 1 2 2 2 1 3 1 1..2 1..2 3 1 1 1 1 2..3 3 4 2 2 1 1 1 1 1 1 0
1 1 1 1 1 1
2..3 2 2 2.. 3..
0..1 0..1 1 1
1 3..5 2..3
1.. 1.. 1.. 1.. 1.. 1.. 1.. 1.. 1.. 2 2 1.. 1.. 1.. 1.. 2.. 2 3 3 2..3 2 2 1..`

// arguments gives how many arguments a function takes; any number: most is 511, as many as a tree has room for.
func arguments(f int) (least, most int) {
	from, until, two := strings.Cut(strings.Fields(catalogue)[f-1], "..")
	least, _ = strconv.Atoi(from)
	switch {
	case !two:
		return least, least
	case until == "":
		return least, 511
	}
	most, _ = strconv.Atoi(until)
	return least, most
}

func isPlace(r api.Ref) bool { return r.Row >= 0 && r.Row <= 65535 && r.Col >= 0 && r.Col <= 701 }

// ownFields names what a kind's nodes have beside their kind.
func ownFields(kind int) []string {
	switch kind {
	case api.XInt, api.XBool, api.XErr:
		return []string{"Int"}
	case api.XText:
		return []string{"Text"}
	case api.XRef:
		return []string{"Ref"}
	case api.XRange:
		return []string{"Ref", "To"}
	case api.XUn, api.XBin:
		return []string{"Op", "Kids"}
	case api.XCall:
		return []string{"Fun", "Kids"}
	}
	return nil
}

// isBlank tells whether all fields of a node are zero or empty but its kind and those named.
func isBlank(n api.Expr, but []string) bool {
	v := reflect.ValueOf(n)
	for i := range v.NumField() {
		name, field := v.Type().Field(i).Name, v.Field(i)
		if name == "Kind" || slices.Contains(but, name) {
			continue
		}
		if name == "Kids" && field.Len() != 0 || name != "Kids" && !field.IsZero() {
			return false
		}
	}
	return true
}

// modelTold tells whether a node is as told, what it has by its kind apart from what it must not have.
func modelTold(n api.Expr) bool {
	if !isBlank(n, ownFields(n.Kind)) {
		return false
	}
	switch n.Kind {
	case api.XText:
		return true
	case api.XInt:
		return n.Int >= 0
	case api.XBool:
		return n.Int>>1 == 0
	case api.XErr:
		return n.Int > 0 && n.Int < 7
	case api.XRef:
		return isPlace(n.Ref)
	case api.XRange:
		return isPlace(n.Ref) && isPlace(n.To)
	case api.XUn:
		return n.Op > 0 && n.Op < 4 && len(n.Kids) == 1
	case api.XBin:
		return n.Op > 0 && n.Op < 13 && len(n.Kids) == 2
	case api.XCall:
		if n.Fun < 1 || n.Fun > 76 {
			return false
		}
		few, many := arguments(n.Fun)
		return few <= len(n.Kids) && len(n.Kids) <= many
	}
	return false
}

func modelMay(t api.Expr) api.Errno {
	if isGreat(t) {
		return api.ErrLong
	}
	for _, n := range nodesOf(t) {
		if !modelTold(n) {
			return api.ErrTree
		}
	}
	return api.OK
}

func modelReads(t api.Expr) []api.Area {
	var areas []api.Area
	for _, n := range nodesOf(t) {
		if n.Kind == api.XRef {
			n.To = n.Ref
		}
		if n.Kind == api.XRef || n.Kind == api.XRange {
			rows, cols := []int{n.Ref.Row, n.To.Row}, []int{n.Ref.Col, n.To.Col}
			areas = append(areas, api.Area{Top: slices.Min(rows), Left: slices.Min(cols), Bottom: slices.Max(rows), Right: slices.Max(cols)})
		}
	}
	return areas
}

func checkSize(t *testing.T, x api.Expr, nodes, depth, bytes int) {
	t.Helper()
	if n, d, b := Size(x); n != nodes || d != depth || b != bytes {
		t.Errorf("P9.1: Size is %d, %d, %d; want %d, %d, %d: %s", n, d, b, nodes, depth, bytes, brief(x))
	}
}

// checkMay holds May, and what Reads tells of it, against the error that is wanted.
func checkMay(t *testing.T, x api.Expr, want api.Errno) {
	t.Helper()
	if e := May(x); e != want {
		t.Errorf("P9.2: May is %d; want %d: %s", e, want, brief(x))
	}
	areas, e := Reads(x)
	if e != want {
		t.Errorf("P9.5: Reads tells %d; want %d: %s", e, want, brief(x))
	}
	if e != api.OK && len(areas) != 0 {
		t.Errorf("P9.5: Reads gives %v beside %d: %s", areas, e, brief(x))
	}
}

func checkSame(t *testing.T, a, b api.Expr, want bool) {
	t.Helper()
	if Same(a, b) != want || Same(b, a) != want {
		t.Errorf("P9.3: Same is %v, and %v the other way; want %v: %s and %s", Same(a, b), Same(b, a), want, brief(a), brief(b))
	}
}

// checkCopy holds a copy against a tree that is not too great.
func checkCopy(t *testing.T, x api.Expr) {
	t.Helper()
	if c, e := Copy(x); e != api.OK || spell(c) != spell(x) {
		t.Errorf("P9.4: Copy tells %d, %s; want %s", e, brief(c), brief(x))
	}
}

func checkReads(t *testing.T, x api.Expr, want ...api.Area) {
	t.Helper()
	if areas, e := Reads(x); e != api.OK || !slices.Equal(areas, want) {
		t.Errorf("P9.5: Reads gives %v, %d; want %v: %s", areas, e, want, brief(x))
	}
}

// checkGreat holds all calls against what they must tell of a tree that is too great.
func checkGreat(t *testing.T, x api.Expr) {
	t.Helper()
	checkSize(t, x, 513, 65, 16385)
	checkMay(t, x, api.ErrLong)
	checkSame(t, x, x, false)
	checkSame(t, x, num(1), false)
	if c, e := Copy(x); e != api.ErrLong || c.Kids != nil || !isBlank(c, nil) || c.Kind != 0 {
		t.Errorf("P9.4: Copy of a tree that is too great tells %d, %s", e, brief(c))
	}
}

// checkAll holds all calls against the models.
func checkAll(t *testing.T, x api.Expr) {
	t.Helper()
	if isGreat(x) {
		checkGreat(t, x)
		return
	}
	nodes, depth, bytes := modelSize(x)
	checkSize(t, x, nodes, depth, bytes)
	e := modelMay(x)
	checkMay(t, x, e)
	checkSame(t, x, x, true)
	checkCopy(t, x)
	if e == api.OK {
		checkReads(t, x, modelReads(x)...)
	}
}

func TestDocumentExamples(t *testing.T) {
	checkSize(t, num(1), 1, 1, 0)
	checkSize(t, bin(api.BAdd, sum(span(at(0, 0), at(1, 1))), num(1)), 4, 3, 0)
	checkSize(t, bin(api.BJoin, text("ab"), text("c")), 3, 2, 3)
	checkSize(t, minuses(63, num(1)), 64, 64, 0)
	checkSize(t, minuses(64, num(1)), 513, 65, 16385)
	withText := num(1)
	withText.Text = "x"
	for _, x := range []api.Expr{num(-1), truth(2), mistake(api.ECycle), un(api.UMinus), sum(), withText, ref(at(65536, 0))} {
		checkMay(t, x, api.ErrTree)
	}
	checkMay(t, call(api.FNa), api.OK)
	checkMay(t, ref(at(65535, 701)), api.OK)
	checkReads(t, bin(api.BAdd, sum(span(at(1, 1), at(0, 0)), ref(at(0, 2))), ref(at(0, 0))), api.Area{Bottom: 1, Right: 1}, api.Area{Left: 2, Right: 2}, api.Area{})
	checkSame(t, ref(api.Ref{PinCol: true}), ref(api.Ref{}), false)
}

// goods gives nodes of every kind that are as told, at the ends of what they may have.
func goods() []api.Expr {
	all := []api.Expr{
		num(0), num(1), num(7), num(most64), num(most64 - 1), num(1 << 32),
		text(""), text("x"), text("=1"), text(`"`), text("\x00\xff"), text("é\n"), text(strings.Repeat("x", 16384)),
		truth(0), truth(1),
		ref(at(0, 0)), ref(at(65535, 0)), ref(at(0, 701)), ref(at(65535, 701)), ref(at(6, 1)), ref(api.Ref{PinRow: true}), ref(api.Ref{PinCol: true}), ref(api.Ref{Row: 65535, Col: 701, PinRow: true, PinCol: true}),
		span(at(0, 0), at(0, 0)), span(at(0, 0), at(65535, 701)), span(at(65535, 701), at(0, 0)), span(at(65535, 0), at(0, 701)), span(api.Ref{Row: 3, PinRow: true}, api.Ref{Col: 5, PinCol: true}), span(at(5, 5), at(5, 5)),
	}
	for e := int64(api.EName); e <= api.ENA; e++ {
		all = append(all, mistake(e))
	}
	for op := api.UMinus; op <= api.UPercent; op++ {
		all = append(all, un(op, num(1)))
	}
	for op := api.BPow; op <= api.BMoreEq; op++ {
		all = append(all, bin(op, num(1), num(2)))
	}
	for f := 1; f <= api.Functions; f++ {
		few, many := arguments(f)
		all = append(all, call(f, ones(few)...), call(f, ones(min(many, 9))...))
	}
	return all
}

// wrongs gives nodes that are not as told, by what their kind has.
func wrongs() []api.Expr {
	all := []api.Expr{
		num(-1), num(-7), num(least64), num(least64 + 1), num(-1 << 32),
		truth(2), truth(-1), truth(3), truth(256), truth(1 << 32), truth(1<<32 + 1), truth(most64), truth(least64),
		mistake(0), mistake(api.ECycle), mistake(8), mistake(-1), mistake(-6), mistake(1<<32 + 1), mistake(most64), mistake(least64),
		un(api.UMinus), un(api.UMinus, ones(2)...), un(api.UPercent, ones(3)...), un(api.UPlus, ones(400)...),
		bin(api.BAdd), bin(api.BAdd, ones(1)...), bin(api.BAdd, ones(3)...), bin(api.BJoin, ones(4)...), bin(api.BMoreEq, ones(400)...),
	}
	for _, op := range []int{0, -1, 4, 5, 12, 1<<32 + 1, most, least} {
		all = append(all, un(op, num(1)))
	}
	for _, op := range []int{0, -1, 13, 14, 1<<32 + 1, most, least} {
		all = append(all, bin(op, num(1), num(2)))
	}
	for _, off := range []int{-1, -2, 702, 65536, 65537, 1 << 32, most, most - 1, least} {
		bad := []api.Ref{{Col: off}, {Row: 65535, Col: off, PinCol: true}, {Row: off, Col: off, PinRow: true}}
		if off != 702 {
			bad = append(bad, api.Ref{Row: off}, api.Ref{Row: off, Col: 701, PinRow: true})
		}
		for _, r := range bad {
			all = append(all, ref(r), span(r, at(0, 0)), span(at(0, 0), r), span(at(65535, 701), r), span(r, r))
		}
	}
	for _, f := range []int{0, -1, 77, 78, -76, 1 << 32, 1<<32 + 54, most, least} {
		for _, n := range []int{0, 1, 2, 3} {
			all = append(all, call(f, ones(n)...))
		}
	}
	for _, kind := range []int{0, -1, 10, 11, -9, 256 + 1, 1<<32 + 1, most, least} {
		all = append(all, api.Expr{Kind: kind}, api.Expr{Kind: kind, Int: 1}, api.Expr{Kind: kind, Text: "x"}, api.Expr{Kind: kind, Op: 1, Kids: ones(1)}, api.Expr{Kind: kind, Fun: api.FSum, Kids: ones(2)})
	}
	return all
}

// change sets one field of a node, whatever it was, to something that is not zero.
type change struct {
	field string
	what  string
	set   func(*api.Expr)
}

func changes() []change {
	var all []change
	add := func(field string, value any, set func(*api.Expr)) {
		all = append(all, change{field, fmt.Sprintf("%s %+v", field, value), set})
	}
	for _, v := range []int{1, 2, 3, 12, 13, -1, 76, 77, 1 << 32, most, least} {
		add("Op", v, func(n *api.Expr) { n.Op = v })
		add("Fun", v, func(n *api.Expr) { n.Fun = v })
	}
	for _, v := range []int64{1, 2, 6, 7, -1, 1 << 32, most64, least64} {
		add("Int", v, func(n *api.Expr) { n.Int = v })
	}
	for _, v := range []string{"x", "\x00", " ", "1", "\xff\xfe", strings.Repeat("y", 20000)} {
		add("Text", v[:1], func(n *api.Expr) { n.Text = v })
	}
	for _, v := range []api.Ref{{Row: 1}, {Col: 1}, {PinRow: true}, {PinCol: true}, {Row: -1}, {Col: -1}, {Row: 65536}, {Col: 702}, {Row: 3, Col: 3, PinRow: true, PinCol: true}, {Row: least}, {Col: most}} {
		add("Ref", v, func(n *api.Expr) { n.Ref = v })
		add("To", v, func(n *api.Expr) { n.To = v })
	}
	for _, v := range []int{1, 2, 3, 5} {
		add("Kids", v, func(n *api.Expr) { n.Kids = ones(v) })
	}
	return all
}

// around gives trees in which a node stands at different places; but for that node they are as told.
func around(n api.Expr) []api.Expr {
	rest := ref(at(3, 3))
	return []api.Expr{
		un(api.UMinus, n), un(api.UPercent, n), bin(api.BAdd, n, rest), bin(api.BEq, rest, n), bin(api.BJoin, n, n),
		sum(n), sum(n, rest, rest), sum(rest, n, rest), sum(rest, rest, n), call(api.FIf, rest, num(1), n),
		bin(api.BMul, bin(api.BSub, rest, un(api.UPlus, n)), sum(rest, text("x"))), minuses(61, n),
		sum(slices.Concat(ones(90), []api.Expr{n})...), sum(sum(sum(rest), rest), sum(rest, sum(rest, n))),
	}
}

func TestGoodNodesAloneAndWithinOneAnother(t *testing.T) {
	for _, n := range goods() {
		if modelMay(n) != api.OK {
			t.Fatalf("the test's own fault: %s", brief(n))
		}
		checkMay(t, n, api.OK)
		checkAll(t, n)
		for _, x := range around(n) {
			checkAll(t, x)
			if !isGreat(x) {
				checkMay(t, x, api.OK)
			}
		}
	}
}

func TestWrongNodesAloneAndWithinOthers(t *testing.T) {
	for _, n := range wrongs() {
		checkMay(t, n, api.ErrTree)
		checkAll(t, n)
		for _, x := range around(n) {
			checkAll(t, x)
			if !isGreat(x) {
				checkMay(t, x, api.ErrTree)
			}
		}
	}
}

func TestEachFieldThatAKindDoesNotHave(t *testing.T) {
	seen := 0
	for _, good := range goods() {
		for _, c := range changes() {
			if slices.Contains(ownFields(good.Kind), c.field) {
				continue
			}
			n := good
			c.set(&n)
			seen++
			if e := May(n); e != api.ErrTree {
				t.Errorf("P9.2: May is %d of %s with %s", e, brief(good), c.what)
			}
			checkAll(t, n)
			checkAll(t, bin(api.BAdd, num(1), n))
			checkSame(t, n, good, false)
		}
	}
	if seen < 1000 {
		t.Errorf("only %d nodes were tried", seen)
	}
}

func TestKidsThatAreNilOrEmpty(t *testing.T) {
	spare := make([]api.Expr, 0, 4)
	for _, n := range []api.Expr{num(1), text("x"), truth(1), mistake(3), ref(at(1, 1)), span(at(1, 1), at(2, 2)), call(api.FNa), call(api.FRow)} {
		for _, kids := range [][]api.Expr{nil, {}, spare, ones(3)[:0]} {
			same := n
			same.Kids = kids
			checkMay(t, same, api.OK)
			checkMay(t, un(api.UMinus, same), api.OK)
			checkSize(t, same, 1, 1, len(n.Text))
			checkSame(t, n, same, true)
			checkSame(t, sum(n, n), sum(n, same), true)
			checkCopy(t, same)
		}
	}
	for _, kids := range [][]api.Expr{nil, {}, spare} {
		checkMay(t, un(api.UMinus, kids...), api.ErrTree)
		checkMay(t, bin(api.BAdd, kids...), api.ErrTree)
		checkMay(t, sum(kids...), api.ErrTree)
	}
}

func TestArgumentsOfEachFunction(t *testing.T) {
	if n := len(strings.Fields(catalogue)); n != api.Functions {
		t.Fatalf("the test's own fault: %d functions", n)
	}
	for f := 1; f <= api.Functions; f++ {
		few, many := arguments(f)
		for _, n := range []int{0, 1, 2, 3, 4, 5, 6, few - 1, few, many, many + 1, 510, 511} {
			if n < 0 || n > 511 {
				continue
			}
			want := api.ErrTree
			if few <= n && n <= many {
				want = api.OK
			}
			if e := May(call(f, ones(n)...)); e != want {
				t.Errorf("P9.2: May is %d of function %d with %d arguments; want %d", e, f, n, want)
			}
		}
		checkMay(t, call(f, ones(512)...), api.ErrLong)
	}
}

func TestSizeCountsWhateverTheNodesAre(t *testing.T) {
	for _, kind := range []int{0, api.XInt, api.XBool, api.XErr, api.XRef, api.XRange, api.XUn, api.XBin, api.XCall, 10, -1, 258, 1<<32 + 2, most, least} {
		// Only a text's own bytes are counted, and all kids, also of nodes that must have none.
		long := api.Expr{Kind: kind, Text: strings.Repeat("x", 20000)}
		checkSize(t, long, 1, 1, 0)
		long.Kids = []api.Expr{text("abc"), {Kind: kind, Text: "de", Kids: []api.Expr{text("f")}}}
		checkSize(t, long, 4, 3, 4)
		checkCopy(t, long)
		checkSame(t, long, long, true)
		long.Kids = append(long.Kids, ones(509)...)
		checkGreat(t, long)
	}
	checkSize(t, api.Expr{Kind: api.XText, Text: "abc", Kids: []api.Expr{text("de"), num(1)}}, 3, 2, 5)
	checkSize(t, api.Expr{}, 1, 1, 0)
	checkSize(t, text("é"), 1, 1, 2)
	checkSize(t, sum(minuses(3, num(1)), num(1)), 6, 5, 0)
	checkSize(t, sum(num(1), minuses(3, num(1))), 6, 5, 0)
	checkSize(t, sum(num(1), minuses(3, num(1)), minuses(2, num(1)), num(1)), 10, 5, 0)
}

func TestLimitsEachAndTogether(t *testing.T) {
	for _, nodes := range []int{1, 2, 63, 64, 65, 66, 511, 512, 513, 514, 600} {
		for _, depth := range []int{1, 2, 3, 63, 64, 65, 66, 100} {
			if depth > nodes || depth == 1 && nodes > 1 {
				continue
			}
			for _, bytes := range []int{0, 1, 16383, 16384, 16385, 16386, 32768, 70000} {
				for _, last := range []bool{false, true} {
					x := built(nodes, depth, bytes, last)
					if nodes > 512 || depth > 64 || bytes > 16384 {
						checkGreat(t, x)
						continue
					}
					checkSize(t, x, nodes, depth, bytes)
					checkMay(t, x, api.OK)
					checkSame(t, x, x, true)
					checkCopy(t, x)
				}
			}
		}
	}
}

func TestBytesOfManyTexts(t *testing.T) {
	for _, c := range []struct{ count, each, rest int }{{2, 8192, 0}, {2, 8192, 1}, {511, 32, 32}, {16, 1024, 0}, {16, 1024, 1}, {511, 32, 33}, {3, 5461, 1}, {3, 5461, 2}, {1, 0, 16384}, {1, 16384, 1}, {1, 16385, 0}} {
		kids := slices.Repeat([]api.Expr{text(strings.Repeat("x", c.each))}, c.count)
		if c.count < 511 {
			kids = append(kids, text(strings.Repeat("y", c.rest)))
		} else {
			kids[510].Text = strings.Repeat("y", c.rest)
		}
		total := 0
		for _, kid := range kids {
			total += len(kid.Text)
		}
		for range 2 {
			if total > 16384 {
				checkGreat(t, sum(kids...))
			} else {
				checkSize(t, sum(kids...), len(kids)+1, 2, total)
				checkMay(t, sum(kids...), api.OK)
			}
			kids = slices.Clone(kids)
			slices.Reverse(kids)
		}
	}
}

func TestTooGreatComesAheadOfNotAsTold(t *testing.T) {
	for _, n := range wrongs() {
		for _, great := range []api.Expr{
			sum(slices.Concat([]api.Expr{n}, ones(512))...), sum(slices.Concat(ones(512), []api.Expr{n})...), minuses(64, n), sum(n, minuses(70, num(1))), sum(minuses(70, num(1)), n),
			sum(n, text(strings.Repeat("x", 16385))), sum(text(strings.Repeat("x", 16385)), n), {Kids: slices.Concat(ones(512), []api.Expr{n})}, doubled(9, n),
		} {
			checkGreat(t, great)
		}
	}
	// A kind of which all fields are wrong, and which has too many kids.
	checkGreat(t, api.Expr{Kind: -1, Op: -1, Int: -1, Text: "x", Ref: at(-1, -1), To: at(-1, -1), Fun: -1, Kids: ones(512)})
	checkGreat(t, un(0, ones(512)...))
	checkMay(t, un(0, ones(511)...), api.ErrTree)
}

func TestListsThatAreSharedWithinTheLimits(t *testing.T) {
	x := doubled(8, num(1))
	checkSize(t, x, 511, 9, 0)
	checkMay(t, x, api.OK)
	checkSize(t, un(api.UMinus, x), 512, 10, 0)
	checkMay(t, un(api.UMinus, x), api.OK)
	checkGreat(t, un(api.UMinus, un(api.UMinus, x)))
	checkGreat(t, doubled(9, num(1)))
	texts := doubled(8, text(strings.Repeat("x", 64)))
	checkSize(t, texts, 511, 9, 16384)
	checkMay(t, texts, api.OK)
	checkGreat(t, sum(texts, text("x")))
	checkReads(t, doubled(2, ref(at(1, 2))), slices.Repeat([]api.Area{{Top: 1, Left: 2, Bottom: 1, Right: 2}}, 4)...)
}

// grown gives a tree by chance with just so many nodes that is at most so deep; from 2 nodes on depth is at least 2. Its nodes are as told.
func grown(r *rand.Rand, nodes, depth int) api.Expr {
	if nodes == 1 {
		leaves := []api.Expr{
			num(r.Int63()), num(r.Int63n(3)), text(strings.Repeat("ab", r.Intn(30))), truth(r.Int63n(2)), mistake(1 + r.Int63n(6)),
			ref(anyRef(r)), span(anyRef(r), anyRef(r)), call(api.FNa),
		}
		return leaves[r.Intn(len(leaves))]
	}
	if depth == 2 {
		kids := make([]api.Expr, nodes-1)
		for i := range kids {
			kids[i] = grown(r, 1, 1)
		}
		return sum(kids...)
	}
	// How many kids there are is by chance, and how many nodes each of them has.
	shares := make([]int, 1+r.Intn(min(nodes-1, 4)))
	for i := range shares {
		shares[i] = 1
	}
	for range nodes - 1 - len(shares) {
		shares[r.Intn(len(shares))]++
	}
	kids := make([]api.Expr, len(shares))
	for i, share := range shares {
		kids[i] = grown(r, share, depth-1)
	}
	switch {
	case len(kids) == 1 && r.Intn(2) == 0:
		return un(1+r.Intn(3), kids...)
	case len(kids) == 2 && r.Intn(3) > 0:
		return bin(1+r.Intn(12), kids...)
	}
	return call([]int{api.FSum, api.FConcat, api.FAnd, api.FFirst}[r.Intn(4)], kids...)
}

func anyRef(r *rand.Rand) api.Ref {
	return api.Ref{Row: r.Intn(65536), Col: r.Intn(702), PinRow: r.Intn(2) == 0, PinCol: r.Intn(2) == 0}
}

// lists gives all lists of kids of a tree, each with its spare room.
func lists(t api.Expr) [][]api.Expr {
	var all [][]api.Expr
	for _, n := range nodesOf(t) {
		if cap(n.Kids) > 0 {
			all = append(all, n.Kids[:cap(n.Kids)])
		}
	}
	return all
}

// cells gives where the nodes of a tree lie whose lists are not shared, but for the root itself.
func cells(t api.Expr) []*api.Expr {
	var all []*api.Expr
	for _, n := range nodesOf(t) {
		for i := range n.Kids {
			all = append(all, &n.Kids[i])
		}
	}
	return all
}

func TestTreesByChance(t *testing.T) {
	r := rand.New(rand.NewSource(9))
	for i := range 3000 {
		nodes := 1 + r.Intn(40)
		if i%10 == 0 {
			nodes = 508 + r.Intn(8)
		}
		x := grown(r, nodes, 2+r.Intn(66))
		if n := len(nodesOf(x)); n != nodes {
			t.Fatalf("the test's own fault: %d nodes instead of %d", n, nodes)
		}
		checkAll(t, x)
		if isGreat(x) {
			continue
		}
		all := changes()
		c := all[r.Intn(len(all))]
		other, _ := Copy(x)
		where := append(cells(other), &other)
		c.set(where[r.Intn(len(where))])
		checkAll(t, other)
		checkSame(t, x, other, spell(x) == spell(other) && !isGreat(other))
	}
}

func TestSameOfDifferentTrees(t *testing.T) {
	one, two, three := num(1), num(2), num(3)
	all := []api.Expr{
		{}, one, two, num(-1), truth(1), mistake(1), {Kind: 10, Int: 1}, {Kind: -1, Int: 1}, {Kind: 1 << 32, Int: 1}, text(""), text("1"), text("a"), text("A"), text("a\x00"), text("a "), text("\xff"), text("\ufffd"),
		{Kind: api.XInt, Int: 1, Op: 1}, {Kind: api.XInt, Int: 1, Text: "x"}, {Kind: api.XInt, Int: 1, Fun: 1}, {Kind: api.XInt, Int: 1, Ref: at(1, 0)}, {Kind: api.XInt, Int: 1, To: at(1, 0)}, {Kind: api.XInt, Int: 1, Kids: ones(1)},
		ref(at(0, 0)), ref(at(0, 1)), ref(at(1, 0)), ref(at(1, 1)), ref(api.Ref{PinRow: true}), ref(api.Ref{PinCol: true}), ref(api.Ref{PinRow: true, PinCol: true}), ref(at(-1, 0)), ref(at(0, most)),
		span(at(0, 0), at(0, 0)), span(at(0, 0), at(1, 1)), span(at(1, 1), at(0, 0)), span(at(0, 1), at(1, 0)), span(at(1, 0), at(0, 1)), span(at(0, 0), api.Ref{PinRow: true}), span(at(0, 0), api.Ref{PinCol: true}), span(api.Ref{PinCol: true}, at(0, 0)),
		un(1, one), un(2, one), un(3, one), un(0, one), un(1, two), un(1, un(1, one)), un(1, un(2, one)), un(2, un(1, one)), un(1), un(1, one, one),
		bin(1, one, two), bin(1, two, one), bin(2, one, two), bin(4, one, one), bin(4, one, bin(4, one, one)), bin(4, bin(4, one, one), one), bin(1, one), bin(1, one, two, three),
		sum(), sum(one), sum(one, two), sum(two, one), sum(one, two, three), sum(one, three, two), sum(three, two, one), sum(sum(one, two), three), sum(one, sum(two, three)), sum(sum(one), two, three),
		call(api.FMin, one), call(0, one), call(-1, one), call(77, one), call(api.FMin, sum(one, two)), call(api.FMin, sum(two, one)), sum(call(api.FMin, one)), call(api.FNa), minuses(62, one), minuses(63, one), minuses(63, two),
	}
	for i, a := range all {
		for k, b := range all {
			if Same(a, b) != (i == k) {
				t.Errorf("P9.3: Same is %v: %s and %s", Same(a, b), brief(a), brief(b))
			}
		}
	}
}

func TestSameOfTreesThatDifferInOneFieldOrInOrder(t *testing.T) {
	r := rand.New(rand.NewSource(3))
	for range 300 {
		x := grown(r, 2+r.Intn(20), 6)
		for _, c := range changes() {
			other, e := Copy(x)
			if e != api.OK || !Same(x, other) {
				t.Fatalf("P9.4, P9.3: a copy tells %d, and is not the same: %s", e, brief(x))
			}
			where := cells(other)
			c.set(where[r.Intn(len(where))])
			if !isGreat(other) {
				checkSame(t, x, other, spell(x) == spell(other))
			}
		}
		// Kids that have changed places make the same tree only where they are the same.
		other, _ := Copy(x)
		all := lists(other)
		if kids := all[r.Intn(len(all))]; len(kids) > 1 {
			i, k := r.Intn(len(kids)), r.Intn(len(kids))
			kids[i], kids[k] = kids[k], kids[i]
			checkSame(t, x, other, spell(x) == spell(other))
		}
	}
}

func TestSameAtTheLimits(t *testing.T) {
	for _, last := range []bool{false, true} {
		a, b := built(512, 64, 16384, last), built(512, 64, 16384, last)
		checkSame(t, a, b, true)
		cells(b)[len(cells(b))-1].Int++
		checkSame(t, a, b, false)
		for _, great := range []api.Expr{built(513, 64, 16384, last), built(512, 65, 16384, last), built(512, 64, 16385, last)} {
			checkSame(t, great, great, false)
			checkSame(t, great, a, false)
		}
	}
	// One that is too great is not the same as the one that it begins with.
	checkSame(t, sum(ones(511)...), sum(ones(512)...), false)
	checkSame(t, minuses(63, num(1)), minuses(64, num(1)), false)
	// A tree and one whose lists are shared are the same.
	checkSame(t, bin(api.BAdd, bin(api.BAdd, num(1), num(1)), bin(api.BAdd, num(1), num(1))), doubled(2, num(1)), true)
}

func TestReadsInTheirOrder(t *testing.T) {
	spotArea := func(row, col int) api.Area { return api.Area{Top: row, Left: col, Bottom: row, Right: col} }
	a, b, c, d := ref(at(0, 0)), ref(at(1, 1)), ref(at(2, 2)), ref(at(3, 3))
	checkReads(t, bin(api.BAdd, bin(api.BMul, a, b), bin(api.BMul, c, d)), spotArea(0, 0), spotArea(1, 1), spotArea(2, 2), spotArea(3, 3))
	checkReads(t, bin(api.BAdd, d, bin(api.BMul, c, bin(api.BSub, b, a))), spotArea(3, 3), spotArea(2, 2), spotArea(1, 1), spotArea(0, 0))
	checkReads(t, sum(un(api.UPercent, b), num(1), sum(c, sum(a)), text("A1"), b), spotArea(1, 1), spotArea(2, 2), spotArea(0, 0), spotArea(1, 1))
	checkReads(t, sum(a, a, a, sum(a)), spotArea(0, 0), spotArea(0, 0), spotArea(0, 0), spotArea(0, 0))
	checkReads(t, sum(span(at(0, 0), at(2, 2)), b, span(at(2, 2), at(0, 0))), api.Area{Bottom: 2, Right: 2}, spotArea(1, 1), api.Area{Bottom: 2, Right: 2})
	for _, x := range []api.Expr{num(1), text("A1:B2"), truth(1), mistake(api.ERef), call(api.FNa), call(api.FRow), call(api.FIndirect, text("A1")), minuses(63, num(1))} {
		checkReads(t, x)
	}
	// A call that would go elsewhere speaks of nothing but its arguments.
	checkReads(t, call(api.FOffset, b, num(1), num(1)), spotArea(1, 1))
	checkReads(t, call(api.FIf, truth(0), c, d), spotArea(2, 2), spotArea(3, 3))
}

func TestReadsOfCornersAndPins(t *testing.T) {
	want := api.Area{Top: 2, Left: 1, Bottom: 8, Right: 3}
	for _, c := range [][2]api.Ref{{at(2, 1), at(8, 3)}, {at(8, 3), at(2, 1)}, {at(2, 3), at(8, 1)}, {at(8, 1), at(2, 3)}} {
		for pins := range 16 {
			from, to := c[0], c[1]
			from.PinRow, from.PinCol, to.PinRow, to.PinCol = pins&1 != 0, pins&2 != 0, pins&4 != 0, pins&8 != 0
			checkReads(t, span(from, to), want)
			checkReads(t, ref(from), api.Area{Top: from.Row, Left: from.Col, Bottom: from.Row, Right: from.Col})
		}
	}
	whole := api.Area{Bottom: 65535, Right: 701}
	checkReads(t, sum(span(at(0, 0), at(65535, 701)), span(at(65535, 0), at(0, 701)), ref(at(65535, 701))), whole, whole, api.Area{Top: 65535, Left: 701, Bottom: 65535, Right: 701})
	checkReads(t, span(at(4, 4), at(4, 4)), api.Area{Top: 4, Left: 4, Bottom: 4, Right: 4})
	checkReads(t, span(at(0, 0), at(4096, 0)), api.Area{Bottom: 4096})
	many := sum(slices.Repeat([]api.Expr{ref(at(7, 7))}, 511)...)
	checkReads(t, many, slices.Repeat([]api.Area{{Top: 7, Left: 7, Bottom: 7, Right: 7}}, 511)...)
}
