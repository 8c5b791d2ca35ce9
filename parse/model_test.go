package parse

import (
	"math/rand"
	"slices"
	"strconv"
	"strings"
	"testing"

	"quadrille/api"
)

// word is a word as it is written, what it is, and where it stands. Kinds: n a value of one word, r a reference, f a name, all others signs.
type word struct {
	s    string
	kind byte
	leaf api.Expr // of a value; of a reference XErr, if it is off the grid
	at   int
}

func sign1(s string) word { return word{s: s, kind: 's'} }

func value(s string, leaf api.Expr) word { return word{s: s, kind: 'n', leaf: leaf} }

func named(s string) word { return word{s: s, kind: 'f'} }

// laid writes words one behind the other; the blank stands between each two but for a name and its bracket.
func laid(words []word, blank string) (string, []word) {
	b := strings.Builder{}
	b.WriteString("=")
	words = slices.Clone(words)
	for i := range words {
		if i > 0 && words[i-1].kind != 'f' {
			b.WriteString(blank)
		}
		words[i].at = b.Len()
		b.WriteString(words[i].s)
	}
	return b.String(), words
}

// waiting is an operation whose last kid has not come, or an open bracket: its level is 0 then.
type waiting struct {
	level, op int
	one       bool // a sign ahead of a value
	open      bool // its bracket has come
	call      int  // of a call its function's number, else 0
	name      int  // of a call where its name stands
	commas    int  // of a call how many have come
}

// model reads words with a pile of waiting operations and one of trees, without calling itself: an operation is laid around its kids as soon as one comes that binds no tighter.
type model struct {
	trees []api.Expr
	pile  []waiting
	want  byte // what comes next: v a value, o an operation or an end, : like o, a reference came, r the second reference, ( a call's bracket, ) a value or a call's end
}

// settle lays all operations around their kids that bind as tight as a level or tighter, up to the last open bracket.
func (m *model) settle(level int) {
	for len(m.pile) > 0 {
		last := m.pile[len(m.pile)-1]
		if last.level == 0 || last.level < level {
			return
		}
		m.pile = m.pile[:len(m.pile)-1]
		kind, n := api.XBin, 2
		if last.one {
			kind, n = api.XUn, 1
		}
		node := api.Expr{Kind: kind, Op: last.op, Kids: slices.Clone(m.trees[len(m.trees)-n:])}
		m.trees = append(m.trees[:len(m.trees)-n], node)
	}
}

// depth tells how many brackets are open.
func (m *model) depth() int {
	n := 0
	for _, w := range m.pile {
		if w.open {
			n++
		}
	}
	return n
}

// top gives the last open bracket behind which all is settled.
func (m *model) top() *waiting {
	m.settle(1)
	if len(m.pile) == 0 {
		return nil
	}
	return &m.pile[len(m.pile)-1]
}

// first takes a word where a value is to come.
func (m *model) first(w word) (int, api.Errno) {
	switch {
	case w.kind == 'n':
		m.trees, m.want = append(m.trees, w.leaf), 'o'
	case w.kind == 'r':
		m.trees, m.want = append(m.trees, w.leaf), ':'
	case w.kind == 'f':
		f := slices.IndexFunc(functions(), func(f function) bool { return f.name == strings.ToUpper(w.s) })
		if f < 0 {
			return w.at, api.ErrNone
		}
		m.pile, m.want = append(m.pile, waiting{call: f + 1, name: w.at}), '('
	case w.s == "-":
		m.pile, m.want = append(m.pile, waiting{level: 6, op: api.UMinus, one: true}), 'v'
	case w.s == "+":
		m.pile, m.want = append(m.pile, waiting{level: 6, op: api.UPlus, one: true}), 'v'
	case w.s == "(":
		if m.depth() == 256 {
			return w.at, api.ErrLong
		}
		m.pile, m.want = append(m.pile, waiting{open: true}), 'v'
	case w.s == ")" && m.want == ')':
		return m.close(0)
	default:
		return w.at, api.ErrSyntax
	}
	return 0, api.OK
}

// close takes a `)` that may stand there, of a call behind so many arguments.
func (m *model) close(count int) (int, api.Errno) {
	w := *m.top()
	m.pile, m.want = m.pile[:len(m.pile)-1], 'o'
	if w.call == 0 {
		return 0, api.OK
	}
	row := functions()[w.call-1]
	if count < row.least || count > row.most && row.most < 511 {
		return w.name, api.ErrArg
	}
	kids := slices.Clone(m.trees[len(m.trees)-count:])
	m.trees = append(m.trees[:len(m.trees)-count], fun(w.call, kids...))
	return 0, api.OK
}

// next takes a word behind a value.
func (m *model) next(w word) (int, api.Errno) {
	if w.kind != 's' {
		return w.at, api.ErrSyntax
	}
	for _, s := range signs2() {
		if s.text == w.s {
			m.settle(s.level)
			m.pile, m.want = append(m.pile, waiting{level: s.level, op: s.op}), 'v'
			return 0, api.OK
		}
	}
	top := len(m.trees) - 1
	switch {
	case w.s == "%":
		m.trees[top], m.want = hundredth(m.trees[top]), 'o'
	case w.s == ":" && m.want == ':':
		m.want = 'r'
	case w.s == ")" && m.top() != nil:
		return m.close(m.top().commas + 1)
	case w.s == "," && m.top() != nil && m.top().call > 0:
		m.top().commas++
		m.want = 'v'
	default:
		return w.at, api.ErrSyntax
	}
	return 0, api.OK
}

// take takes a word.
func (m *model) take(w word) (int, api.Errno) {
	switch m.want {
	case 'v', ')':
		return m.first(w)
	case '(':
		if m.depth() == 256 {
			return w.at, api.ErrLong
		}
		m.pile[len(m.pile)-1].open = true
		m.want = ')'
		return 0, api.OK
	case 'r':
		if w.kind != 'r' {
			return w.at, api.ErrSyntax
		}
		top := &m.trees[len(m.trees)-1]
		if top.Kind == api.XErr || w.leaf.Kind == api.XErr {
			*top = bad(api.ERef)
		} else {
			*top = span(top.Ref, w.leaf.Ref)
		}
		m.want = 'o'
		return 0, api.OK
	}
	return m.next(w)
}

// modelFormula tells what Formula must answer of words in a text of so many bytes.
func modelFormula(words []word, size int) (api.Expr, int, api.Errno) {
	m := model{want: 'v'}
	for _, w := range words {
		if at, e := m.take(w); e != api.OK {
			return api.Expr{}, at, e
		}
	}
	if m.want != 'o' && m.want != ':' || m.top() != nil {
		return api.Expr{}, size, api.ErrSyntax
	}
	if isGreat(m.trees[0]) {
		return api.Expr{}, size, api.ErrLong
	}
	return m.trees[0], 0, api.OK
}

// isGreat tells whether a tree is too great, counting a depth after the other.
func isGreat(t api.Expr) bool {
	nodes, depth, bytes := 0, 0, 0
	for row := []api.Expr{t}; len(row) > 0; depth++ {
		var below []api.Expr
		for _, n := range row {
			nodes++
			bytes += len(n.Text)
			below = append(below, n.Kids...)
		}
		row = below
	}
	return nodes > 512 || depth > 64 || bytes > 16384
}

// checkWords holds Formula against the model.
func checkWords(t *testing.T, words []word, blank string) {
	t.Helper()
	s, words := laid(words, blank)
	want, wantAt, wantE := modelFormula(words, len(s))
	got, at, e := Formula(s)
	if e != wantE || at != wantAt || spell(got) != spell(want) {
		t.Errorf("P10.1: Formula(%s) gives %s, %d, %d, not %s, %d, %d", brief(s), brief(spell(got)), at, e, brief(spell(want)), wantAt, wantE)
	}
}

// some are words of all sorts; a name stands there with its bracket.
func some() [][]word {
	open := sign1("(")
	all := [][]word{
		{value("1", num(1))}, {value(`"x"`, txt("x"))}, {{s: "B2", kind: 'r', leaf: ref(place(1, 1))}}, {{s: "AAA1", kind: 'r', leaf: bad(api.ERef)}},
		{named("ABS"), open}, {named("na"), open}, {named("Sum"), open}, {named("NOPE"), open},
	}
	for _, s := range []string{"(", ")", ",", ":", "%", "+", "^", "="} {
		all = append(all, []word{sign1(s)})
	}
	return all
}

// TestAllShortFormulas asks of all rows of a few words.
func TestAllShortFormulas(t *testing.T) {
	all := some()
	var row []word
	var lay func(left int)
	lay = func(left int) {
		checkWords(t, row, " ")
		if left == 0 || t.Failed() {
			return
		}
		for _, one := range all {
			size := len(row)
			row = append(row, one...)
			lay(left - 1)
			row = row[:size]
		}
	}
	lay(4)
	// Of fewer words longer rows.
	all = slices.Concat(all[:1], all[2:3], all[4:7], all[8:14])
	lay(5)
	all = slices.Concat(all[1:2], all[4:10])
	lay(6)
}

// TestMoreWordsBehindFormulas asks of the rest of words behind formulas and beginnings of such, where short rows don't come.
func TestMoreWordsBehindFormulas(t *testing.T) {
	open, one, b2 := sign1("("), value("1", num(1)), word{s: "B2", kind: 'r', leaf: ref(place(1, 1))}
	beginnings := [][]word{
		{named("IF"), open, one, sign1(","), one}, {named("MID"), open, one, sign1(","), b2, sign1(",")}, {named("SUM"), open, open, b2, sign1(":"), b2, sign1(")")}, {open, open, one, sign1("^"), sign1("-")}, {one, sign1("+"), one, sign1("*"), b2}, {sign1("-"), sign1("+"), b2, sign1("%"), sign1("^")},
		{named("ROW"), open, named("ROW"), open, sign1(")")}, {named("NA"), open, one}, {named("ABS"), open, named("ABS"), open, one, sign1(","), one}, {named("SWITCH"), open, one, sign1(","), one, sign1(",")},
	}
	for _, begin := range beginnings {
		for _, a := range some() {
			for _, b := range some() {
				checkWords(t, slices.Concat(begin, a, b), "\n")
				for _, c := range some() {
					checkWords(t, slices.Concat(begin, a, b, c), " ")
				}
			}
		}
	}
}

// leafByChance gives a node without kids, and its word or words.
func leafByChance(r *rand.Rand) (api.Expr, []word) {
	reference := func() (string, api.Ref) {
		place := api.Ref{Row: r.Intn(65536), Col: r.Intn(26), PinRow: r.Intn(2) == 0, PinCol: r.Intn(2) == 0}
		letter := string(rune([]byte{'A', 'a'}[r.Intn(2)]) + rune(place.Col))
		return pinned(letter, place.PinCol, strconv.Itoa(place.Row+1), place.PinRow), place
	}
	s, from := reference()
	z, to := reference()
	n, texts := r.Int63(), []string{"", "a", `"`, "é\xff", "(,)", `a""b`}
	x := texts[r.Intn(len(texts))]
	mistakes := []string{"#NAME?", "#NUM!", "#REF!", "#VALUE!", "#DIV/0!", "#N/A"}
	which := r.Intn(len(mistakes))
	gone := word{s: "A" + strconv.Itoa(65537+r.Intn(9)), kind: 'r', leaf: bad(api.ERef)}
	leaves := []struct {
		tree  api.Expr
		words []word
	}{
		{num(n), []word{value(times(r.Intn(3), "0")+strconv.FormatInt(n, 10), num(n))}},
		{txt(x), []word{value(`"`+strings.ReplaceAll(x, `"`, `""`)+`"`, txt(x))}},
		{yes(), []word{value(cases("TRUE")[r.Intn(3)], yes())}},
		{no(), []word{value(cases("FALSE")[r.Intn(3)], no())}},
		{bad(int64(which + 1)), []word{value(mistakes[which], bad(int64(which+1)))}},
		{ref(from), []word{{s: s, kind: 'r', leaf: ref(from)}}},
		{span(from, to), []word{{s: s, kind: 'r', leaf: ref(from)}, sign1(":"), {s: z, kind: 'r', leaf: ref(to)}}},
		{bad(api.ERef), []word{gone}},
		{bad(api.ERef), []word{gone, sign1(":"), {s: s, kind: 'r', leaf: ref(from)}}},
	}
	l := leaves[r.Intn(len(leaves))]
	return l.tree, l.words
}

// grown gives a formula by chance: its tree, its words with the brackets that it needs and some that it does not, and its level.
func grown(r *rand.Rand, depth int) (api.Expr, []word, int) {
	within := func(from int) (api.Expr, []word) {
		t, words, level := grown(r, depth-1)
		for level < from || r.Intn(8) == 0 {
			words = slices.Concat([]word{sign1("(")}, words, []word{sign1(")")})
			level = 8
		}
		return t, words
	}
	if depth <= 1 || r.Intn(10) == 0 {
		t, words := leafByChance(r)
		return t, words, 8
	}
	switch r.Intn(8) {
	case 0:
		kid, words := within(6)
		op := 1 + r.Intn(2)
		return un(op, kid), slices.Concat([]word{sign1("-+"[op-1 : op])}, words), 6
	case 1:
		kid, words := within(7)
		return hundredth(kid), append(words, sign1("%")), 7
	case 2, 3:
		f := r.Intn(api.Functions)
		row := functions()[f]
		node := fun(f + 1)
		words := []word{named(cases(row.name)[r.Intn(3)]), sign1("(")}
		for i := range row.least + r.Intn(min(row.most, 6)-row.least+1) {
			if i > 0 {
				words = append(words, sign1(","))
			}
			kid, inner := within(0)
			node.Kids, words = append(node.Kids, kid), append(words, inner...)
		}
		return node, append(words, sign1(")")), 8
	}
	s := signs2()[r.Intn(12)]
	left, first := within(s.level)
	right, second := within(s.level + 1)
	return bin(s.op, left, right), slices.Concat(first, []word{sign1(s.text)}, second), s.level
}

// TestFormulasByChance writes trees, reads them, and reads what becomes of them when words are left away, come in, or change places.
func TestFormulasByChance(t *testing.T) {
	r := rand.New(rand.NewSource(10))
	blanks := []string{" ", "\t", "\u00a0\u3000", "\r\n "}
	for range 4000 {
		want, words, _ := grown(r, 1+r.Intn(6))
		s, _ := laid(words, blanks[r.Intn(len(blanks))])
		if isGreat(want) {
			checkFault(t, s, len(s), api.ErrLong)
		} else {
			checkTree(t, s, want)
		}
		checkWords(t, words, " ")
		for range 6 {
			checkWords(t, changed(r, words), " ")
		}
		if t.Failed() {
			return
		}
	}
}

// changed gives words of which one, or two, are other ones; a name and its bracket are never parted.
func changed(r *rand.Rand, words []word) []word {
	var pieces [][]word
	for i, w := range words {
		if i > 0 && words[i-1].kind == 'f' {
			continue
		}
		piece := []word{w}
		if w.kind == 'f' {
			piece = append(piece, words[i+1])
		}
		pieces = append(pieces, piece)
	}
	for range 1 + r.Intn(2) {
		i, k := r.Intn(len(pieces)), r.Intn(len(pieces))
		other := some()[r.Intn(len(some()))]
		switch r.Intn(5) {
		case 0:
			pieces[i] = other
		case 1:
			pieces = slices.Insert(pieces, i, other)
		case 2:
			pieces[i], pieces[k] = pieces[k], pieces[i]
		case 3:
			pieces = slices.Delete(pieces, i, i+1)
		case 4:
			pieces = pieces[:i]
		}
		if len(pieces) == 0 {
			break
		}
	}
	return slices.Concat(pieces...)
}
