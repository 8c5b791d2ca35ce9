package parse

import (
	"fmt"
	"slices"
	"strconv"
	"strings"
	"sync"
	"testing"

	"quadrille/api"
	"quadrille/tree"
)

func num(n int64) api.Expr { return api.Expr{Kind: api.XInt, Int: n} }

func txt(s string) api.Expr { return api.Expr{Kind: api.XText, Text: s} }

func bad(n int64) api.Expr { return api.Expr{Kind: api.XErr, Int: n} }

func yes() api.Expr { return api.Expr{Kind: api.XBool, Int: 1} }

func no() api.Expr { return api.Expr{Kind: api.XBool} }

func place(row, col int) api.Ref { return api.Ref{Row: row, Col: col} }

func ref(r api.Ref) api.Expr { return api.Expr{Kind: api.XRef, Ref: r} }

func span(from, to api.Ref) api.Expr { return api.Expr{Kind: api.XRange, Ref: from, To: to} }

func un(op int, kid api.Expr) api.Expr {
	return api.Expr{Kind: api.XUn, Op: op, Kids: []api.Expr{kid}}
}

func minus(kid api.Expr) api.Expr { return un(api.UMinus, kid) }

func plus(kid api.Expr) api.Expr { return un(api.UPlus, kid) }

func hundredth(kid api.Expr) api.Expr { return un(api.UPercent, kid) }

func bin(op int, left, right api.Expr) api.Expr {
	return api.Expr{Kind: api.XBin, Op: op, Kids: []api.Expr{left, right}}
}

func fun(f int, kids ...api.Expr) api.Expr {
	return api.Expr{Kind: api.XCall, Fun: f, Kids: kids}
}

// ones gives a list of so many numbers.
func ones(n int) []api.Expr { return slices.Repeat([]api.Expr{num(1)}, n) }

// times writes a text so many times.
func times(n int, s string) string { return strings.Repeat(s, n) }

// spell writes all that a tree has, so that two have one text just if they are the same.
func spell(t api.Expr) string {
	b := strings.Builder{}
	var write func(n api.Expr)
	write = func(n api.Expr) {
		fmt.Fprintf(&b, "(%d %d %d %q %v %v %d", n.Kind, n.Op, n.Int, n.Text, n.Ref, n.To, n.Fun)
		for _, kid := range n.Kids {
			write(kid)
		}
		b.WriteString(")")
	}
	write(t)
	return b.String()
}

// brief writes a text without the most of a long one.
func brief(s string) string {
	if len(s) <= 200 {
		return fmt.Sprintf("%q", s)
	}
	return fmt.Sprintf("%q.. of %d bytes", s[:200], len(s))
}

// checkTree holds Formula against the tree that is wanted of a text.
func checkTree(t *testing.T, s string, want api.Expr) {
	t.Helper()
	got, at, e := Formula(s)
	if e != api.OK || at != 0 || spell(got) != spell(want) {
		t.Errorf("P10.1: Formula(%s) gives %s, %d, %d, not %s, 0, OK", brief(s), brief(spell(got)), at, e, brief(spell(want)))
	}
	if may := tree.May(got); may != api.OK && e == api.OK {
		t.Errorf("P10.1: Formula(%s) gives a tree that may not be: %d", brief(s), may)
	}
}

// checkFault holds Formula against the fault that is wanted of a text.
func checkFault(t *testing.T, s string, at int, e api.Errno) {
	t.Helper()
	got, gotAt, gotE := Formula(s)
	if gotE != e || gotAt != at || spell(got) != spell(api.Expr{}) {
		t.Errorf("P10.1: Formula(%s) gives %s, %d, %d, not the zero tree, %d, %d", brief(s), brief(spell(got)), gotAt, gotE, at, e)
	}
}

// checkRead tells whether a text is a formula.
func checkRead(t *testing.T, s string) {
	t.Helper()
	if _, at, e := Formula(s); e != api.OK || at != 0 {
		t.Errorf("P10.1: Formula(%s) gives %d, %d, not 0, OK", brief(s), at, e)
	}
}

func TestDocumentExamples(t *testing.T) {
	a1 := ref(place(0, 0))
	checkTree(t, "=1+2*3", bin(api.BAdd, num(1), bin(api.BMul, num(2), num(3))))
	checkTree(t, "=-2^2", bin(api.BPow, minus(num(2)), num(2)))
	checkTree(t, "=2^-1", bin(api.BPow, num(2), minus(num(1))))
	checkTree(t, "=2^3^2", bin(api.BPow, bin(api.BPow, num(2), num(3)), num(2)))
	checkTree(t, "=50%%", hundredth(hundredth(num(50))))
	checkTree(t, "=--1", minus(minus(num(1))))
	checkTree(t, "=sum(B2:$A$1, aaa1)", fun(api.FSum, span(place(1, 1), api.Ref{PinRow: true, PinCol: true}), bad(api.ERef)))
	checkTree(t, "=A1:ZZZ9", bad(api.ERef))
	checkTree(t, "=((a1))", a1)
	checkTree(t, "=a1=b1=TRUE", bin(api.BEq, bin(api.BEq, a1, ref(place(0, 1))), yes()))
	checkFault(t, "=A1:B2:C3", 6, api.ErrSyntax)
	checkFault(t, "=(A1):B2", 5, api.ErrSyntax)
	checkFault(t, "=A1 B1", 4, api.ErrSyntax)
	checkFault(t, "=", 1, api.ErrSyntax)
	checkFault(t, "=1+", 3, api.ErrSyntax)
	checkFault(t, "=()", 2, api.ErrSyntax)
	checkFault(t, "=SUM(1,)", 7, api.ErrSyntax)
	checkFault(t, "=TRUE()", 1, api.ErrNone)
	checkFault(t, "=ABS()", 1, api.ErrArg)
	checkFault(t, "=ABS(1,2)", 1, api.ErrArg)
	checkFault(t, "=NOPE(", 1, api.ErrNone)
	checkFault(t, "=1.5", 2, api.ErrToken)
	checkFault(t, "1", 0, api.ErrArg)
}

func TestNumbers(t *testing.T) {
	for s, want := range map[string]int64{"0": 0, "00": 0, "1": 1, "007": 7, "42": 42, "1000000": 1000000, "9223372036854775806": 1<<63 - 2, "9223372036854775807": 1<<63 - 1, times(60000, "0") + "9223372036854775807": 1<<63 - 1} {
		checkTree(t, "="+s, num(want))
		checkTree(t, "=-"+s, minus(num(want)))
		checkTree(t, "=(("+s+"))%", hundredth(num(want)))
	}
	for _, s := range []string{"9223372036854775808", "9223372036854775809", "10000000000000000000", "18446744073709551616", "18446744073709551617", times(1000, "0") + "9223372036854775808", times(60000, "9")} {
		checkFault(t, "="+s, 1, api.ErrNumber)
		checkFault(t, "=-"+s, 2, api.ErrNumber)
		checkFault(t, "=1+("+s+")", 4, api.ErrNumber)
	}
}

func TestTextsTruthsAndErrors(t *testing.T) {
	for s, want := range map[string]string{
		`""`: ``, `"a"`: `a`, `"a""b"`: `a"b`, `""""`: `"`, `"""a"""`: `"a"`, `" "`: ` `, "\"\xff\x00é\"": "\xff\x00é", "\"\n\"": "\n",
		// What spells another word is a text here.
		`"+"`: "+", `"-"`: "-", `"("`: "(", `")"`: ")", `","`: ",", `":"`: ":", `"%"`: "%", `"="`: "=", `"=1"`: "=1", `"A1"`: "A1", `"TRUE"`: "TRUE", `"1"`: "1", `"#N/A"`: "#N/A", `"SUM("`: "SUM(", `"sum"`: "sum",
	} {
		checkTree(t, "="+s, txt(want))
		checkTree(t, "=-"+s+"%", minus(hundredth(txt(want))))
		checkTree(t, "="+s+"&"+s, bin(api.BJoin, txt(want), txt(want)))
		checkFault(t, "="+s+" "+s, 2+len(s), api.ErrSyntax)
		checkFault(t, "=1"+s, 2, api.ErrSyntax)
		checkFault(t, "=(1"+s, 3, api.ErrSyntax)
		checkFault(t, "=A1"+s, 3, api.ErrSyntax)
		checkFault(t, "=A1:"+s, 4, api.ErrSyntax)
		checkFault(t, "=SUM(1"+s, 6, api.ErrSyntax)
	}
	for s, want := range map[string]api.Expr{
		"TRUE": yes(), "true": yes(), "True": yes(), "tRuE": yes(), "FALSE": no(), "false": no(), "False": no(), "fAlSe": no(),
		"#NAME?": bad(api.EName), "#NUM!": bad(api.ENum), "#REF!": bad(api.ERef), "#VALUE!": bad(api.EValue), "#DIV/0!": bad(api.EDiv), "#N/A": bad(api.ENA),
	} {
		checkTree(t, "="+s, want)
		checkTree(t, "=("+s+")", want)
		checkTree(t, "="+s+"="+s, bin(api.BEq, want, want))
		checkTree(t, "=IF("+s+","+s+")", fun(api.FIf, want, want))
		checkFault(t, "="+s+" 1", 2+len(s), api.ErrSyntax)
		checkFault(t, "="+s+" (1)", 2+len(s), api.ErrSyntax)
		checkFault(t, "="+s+":A1", 1+len(s), api.ErrSyntax)
		checkFault(t, "=A1:"+s, 4, api.ErrSyntax)
	}
	checkFault(t, "=#CYCLE!", 1, api.ErrToken)
	checkFault(t, "=true()", 1, api.ErrNone)
	checkFault(t, "=1+FALSE(1)", 3, api.ErrNone)
}

// pinned writes a reference with its pins.
func pinned(letters string, pinCol bool, digits string, pinRow bool) string {
	s := letters
	if pinCol {
		s = "$" + s
	}
	if pinRow {
		s += "$"
	}
	return s + digits
}

func TestPins(t *testing.T) {
	for pins := range 16 {
		a := api.Ref{Row: 6, Col: 27, PinRow: pins&1 != 0, PinCol: pins&2 != 0}
		b := api.Ref{Row: 11, Col: 2, PinRow: pins&4 != 0, PinCol: pins&8 != 0}
		for _, letters := range [][2]string{{"AB", "C"}, {"ab", "c"}, {"Ab", "c"}, {"aB", "C"}} {
			first, second := pinned(letters[0], a.PinCol, "7", a.PinRow), pinned(letters[1], b.PinCol, "12", b.PinRow)
			checkTree(t, "="+first, ref(a))
			checkTree(t, "="+second, ref(b))
			checkTree(t, "="+first+":"+second, span(a, b))
			checkTree(t, "="+second+" : "+first, span(b, a))
			checkTree(t, "="+first+":"+first, span(a, a))
			checkTree(t, "=-"+first+"%+"+second, bin(api.BAdd, minus(hundredth(ref(a))), ref(b)))
			checkTree(t, "=SUM("+first+":"+second+","+second+")", fun(api.FSum, span(a, b), ref(b)))
			checkTree(t, "="+first+":"+second+"%", hundredth(span(a, b)))
		}
	}
}

func TestCornersAsTheyStand(t *testing.T) {
	corners := map[string]api.Ref{"B2": place(1, 1), "B9": place(8, 1), "E2": place(1, 4), "E9": place(8, 4), "$E$9": {Row: 8, Col: 4, PinRow: true, PinCol: true}}
	for s, a := range corners {
		for z, b := range corners {
			checkTree(t, "="+s+":"+z, span(a, b))
			checkTree(t, "=(("+s+":"+z+"))", span(a, b))
			checkTree(t, "="+s+":"+z+"="+z+":"+s, bin(api.BEq, span(a, b), span(b, a)))
		}
	}
	// However great it is, a range is a range.
	checkTree(t, "=A1:ZZ65536", span(place(0, 0), place(65535, 701)))
	checkTree(t, "=A1:A4097", span(place(0, 0), place(4096, 0)))
}

func TestOnAndOffTheGrid(t *testing.T) {
	on := map[string]api.Ref{
		"A1": place(0, 0), "a1": place(0, 0), "ZZ1": place(0, 701), "zz1": place(0, 701), "A65536": place(65535, 0), "ZZ65536": place(65535, 701), "Z9": place(8, 25), "AA9": place(8, 26),
		"$zz$65536": {Row: 65535, Col: 701, PinRow: true, PinCol: true},
	}
	off := []string{"AAA1", "aaa1", "$AAA1", "A65537", "a$65537", "ZZ65537", "AAA65537", "ZZZ70000", "$zzz$70000", "A99999999999999999999", "A" + times(30000, "9"), times(30000, "x") + "1", "TRUE1", "sum1"}
	gone := bad(api.ERef)
	for _, s := range off {
		checkTree(t, "="+s, gone)
		checkTree(t, "=-("+s+")%", minus(hundredth(gone)))
		checkTree(t, "=SUM("+s+","+s+")", fun(api.FSum, gone, gone))
		checkFault(t, "="+s+":", 2+len(s), api.ErrSyntax)
		checkFault(t, "="+s+":1", 2+len(s), api.ErrSyntax)
		checkFault(t, "="+s+":A1:B2", 4+len(s), api.ErrSyntax)
		checkFault(t, "="+s+" A1", 2+len(s), api.ErrSyntax)
		for z, r := range on {
			checkTree(t, "="+z, ref(r))
			checkTree(t, "="+z+":"+s, gone)
			checkTree(t, "="+s+":"+z, gone)
			checkTree(t, "="+s+":"+z+"+"+z, bin(api.BAdd, gone, ref(r)))
		}
	}
	for _, s := range []string{"AAA1", "A65537", "zzz70000"} {
		for _, z := range off {
			checkTree(t, "="+s+":"+z, gone)
		}
	}
	for s, a := range on {
		for z, b := range on {
			checkTree(t, "="+s+":"+z, span(a, b))
		}
	}
	for _, s := range []string{"A0", "A01", "$1", "A", "A$", "A1A"} {
		checkFault(t, "="+s, 1, api.ErrToken)
		checkFault(t, "=A1:"+s, 4, api.ErrToken)
	}
}

// sign2 is a sign of an operation of two, its number and its level: which one of the grammar's lines it stands on, the first being 1.
type sign2 struct {
	text      string
	op, level int
}

func signs2() []sign2 {
	return []sign2{
		{"=", api.BEq, 1}, {"<>", api.BNe, 1}, {"<", api.BLess, 1}, {"<=", api.BLessEq, 1}, {">", api.BMore, 1}, {">=", api.BMoreEq, 1},
		{"&", api.BJoin, 2}, {"+", api.BAdd, 3}, {"-", api.BSub, 3}, {"*", api.BMul, 4}, {"/", api.BDiv, 4}, {"^", api.BPow, 5},
	}
}

func TestOperationsOfTwo(t *testing.T) {
	x, y, z := num(1), ref(place(1, 1)), txt("z")
	for _, a := range signs2() {
		checkTree(t, "=1"+a.text+"B2", bin(a.op, x, y))
		checkTree(t, "=B2 "+a.text+" 1", bin(a.op, y, x))
		for _, b := range signs2() {
			left, right := bin(b.op, bin(a.op, x, y), z), bin(a.op, x, bin(b.op, y, z))
			want := left
			if b.level > a.level {
				want = right
			}
			checkTree(t, "=1"+a.text+"B2"+b.text+`"z"`, want)
			checkTree(t, "=1 "+a.text+" B2 "+b.text+` "z" `, want)
			checkTree(t, "=(1"+a.text+"B2)"+b.text+`"z"`, left)
			checkTree(t, "=1"+a.text+"(B2"+b.text+`"z")`, right)
			checkTree(t, "=(1)"+a.text+"((B2))"+b.text+`("z")`, want)
		}
	}
}

func TestOperationsOfALineGoFromTheLeft(t *testing.T) {
	for _, a := range signs2() {
		for _, b := range signs2() {
			for _, c := range signs2() {
				if a.level != b.level || b.level != c.level {
					continue
				}
				want := bin(c.op, bin(b.op, bin(a.op, num(1), num(2)), num(3)), num(4))
				checkTree(t, "=1"+a.text+"2"+b.text+"3"+c.text+"4", want)
				checkTree(t, "=((1"+a.text+"2)"+b.text+"3)"+c.text+"4", want)
				checkTree(t, "=1"+a.text+"(2"+b.text+"(3"+c.text+"4))", bin(a.op, num(1), bin(b.op, num(2), bin(c.op, num(3), num(4)))))
			}
		}
		many := num(0)
		for i := range 63 {
			many = bin(a.op, many, num(int64(i)))
		}
		s := "=0"
		for i := range 63 {
			s += a.text + strconv.Itoa(i)
		}
		checkTree(t, s, many)
	}
	checkTree(t, "=6/2*3", bin(api.BMul, bin(api.BDiv, num(6), num(2)), num(3)))
	checkTree(t, "=1-2+3-4", bin(api.BSub, bin(api.BAdd, bin(api.BSub, num(1), num(2)), num(3)), num(4)))
	checkTree(t, "=1<2>=3<>4", bin(api.BNe, bin(api.BMoreEq, bin(api.BLess, num(1), num(2)), num(3)), num(4)))
	checkTree(t, "=1=2&3+4*5^6", bin(api.BEq, num(1), bin(api.BJoin, num(2), bin(api.BAdd, num(3), bin(api.BMul, num(4), bin(api.BPow, num(5), num(6)))))))
	checkTree(t, "=1^2*3+4&5=6", bin(api.BEq, bin(api.BJoin, bin(api.BAdd, bin(api.BMul, bin(api.BPow, num(1), num(2)), num(3)), num(4)), num(5)), num(6)))
}

func TestSignsOfOne(t *testing.T) {
	one, two := num(1), num(2)
	for s, want := range map[string]api.Expr{
		"-1": minus(one), "+1": plus(one), "1%": hundredth(one), "--1": minus(minus(one)), "++1": plus(plus(one)), "-+1": minus(plus(one)), "+-1": plus(minus(one)), "- - 1": minus(minus(one)),
		"1%%": hundredth(hundredth(one)), "-1%": minus(hundredth(one)), "+1%": plus(hundredth(one)), "--1%%": minus(minus(hundredth(hundredth(one)))), "(-1)%": hundredth(minus(one)), "-(1%)": minus(hundredth(one)), "(+(-1)%)%": hundredth(plus(hundredth(minus(one)))),
		"-2^1": bin(api.BPow, minus(two), one), "(-2)^1": bin(api.BPow, minus(two), one), "-(2^1)": minus(bin(api.BPow, two, one)), "2^-1": bin(api.BPow, two, minus(one)), "2^+1": bin(api.BPow, two, plus(one)), "2^--1": bin(api.BPow, two, minus(minus(one))), "-2^-1": bin(api.BPow, minus(two), minus(one)), "-2^-1^-2": bin(api.BPow, bin(api.BPow, minus(two), minus(one)), minus(two)),
		"2%^1": bin(api.BPow, hundredth(two), one), "2^1%": bin(api.BPow, two, hundredth(one)), "(2^1)%": hundredth(bin(api.BPow, two, one)), "-2%^-1%": bin(api.BPow, minus(hundredth(two)), minus(hundredth(one))), "-(2^1)%": minus(hundredth(bin(api.BPow, two, one))),
		"1-1": bin(api.BSub, one, one), "1--1": bin(api.BSub, one, minus(one)), "1+-+1": bin(api.BAdd, one, minus(plus(one))), "1-+1": bin(api.BSub, one, plus(one)), "1- -1": bin(api.BSub, one, minus(one)), "-1-1": bin(api.BSub, minus(one), one), "-(1-1)": minus(bin(api.BSub, one, one)),
		"1*-2": bin(api.BMul, one, minus(two)), "1/+2": bin(api.BDiv, one, plus(two)), "-1*2": bin(api.BMul, minus(one), two), "1%*2%": bin(api.BMul, hundredth(one), hundredth(two)), "1%-2": bin(api.BSub, hundredth(one), two), "1%%-2%": bin(api.BSub, hundredth(hundredth(one)), hundredth(two)),
		"1&-2": bin(api.BJoin, one, minus(two)), "1=-2": bin(api.BEq, one, minus(two)), "1<-2": bin(api.BLess, one, minus(two)), "1>=+2%": bin(api.BMoreEq, one, plus(hundredth(two))), "-1=2": bin(api.BEq, minus(one), two),
		"2*-2^1": bin(api.BMul, two, bin(api.BPow, minus(two), one)),
		"-NA()%": minus(hundredth(fun(api.FNa))), "ABS(-1)%": hundredth(fun(api.FAbs, minus(one))), "-A1:B2%": minus(hundredth(span(place(0, 0), place(1, 1)))),
	} {
		checkTree(t, "="+s, want)
		checkTree(t, "=("+s+")", want)
		checkTree(t, "=(( "+s+" ) )", want)
		checkTree(t, "=ABS("+s+")", fun(api.FAbs, want))
	}
}

// form is a way to write a node: what stands around its kids, and from which level on a kid needs no brackets there.
type form struct {
	parts []string
	from  []int
	level int
	node  api.Expr
	inner bool // a bracket: its tree is its kid's
}

// forms gives every line of the grammar.
func forms() []form {
	var all []form
	for _, a := range signs2() {
		all = append(all, form{parts: []string{"", a.text, ""}, from: []int{a.level, a.level + 1}, level: a.level, node: api.Expr{Kind: api.XBin, Op: a.op}})
	}
	return append(all,
		form{parts: []string{"-", ""}, from: []int{6}, level: 6, node: api.Expr{Kind: api.XUn, Op: api.UMinus}},
		form{parts: []string{"+", ""}, from: []int{6}, level: 6, node: api.Expr{Kind: api.XUn, Op: api.UPlus}},
		form{parts: []string{"", "%"}, from: []int{7}, level: 7, node: api.Expr{Kind: api.XUn, Op: api.UPercent}},
		form{parts: []string{"(", ")"}, from: []int{0}, level: 8, inner: true},
		form{parts: []string{"aBs(", ")"}, from: []int{0}, level: 8, node: api.Expr{Kind: api.XCall, Fun: api.FAbs}},
		form{parts: []string{"IF(", ",", ",", ")"}, from: []int{0, 0, 0}, level: 8, node: api.Expr{Kind: api.XCall, Fun: api.FIf}},
		form{parts: []string{"7"}, level: 8, node: num(7)},
		form{parts: []string{`"a"",("`}, level: 8, node: txt(`a",(`)},
		form{parts: []string{"FALSE"}, level: 8, node: no()},
		form{parts: []string{"#NUM!"}, level: 8, node: bad(api.ENum)},
		form{parts: []string{"$C4"}, level: 8, node: ref(api.Ref{Row: 3, Col: 2, PinCol: true})},
		form{parts: []string{"C4:A$2"}, level: 8, node: span(place(3, 2), api.Ref{Row: 1, PinRow: true})},
		form{parts: []string{"ZZZ1:A1"}, level: 8, node: bad(api.ERef)},
		form{parts: []string{"na()"}, level: 8, node: fun(api.FNa)},
	)
}

// piece is a text, its tree, and its level.
type piece struct {
	s     string
	tree  api.Expr
	level int
}

// write lays a form around pieces; bare: no brackets around any of them, always: around each of them.
func (f form) write(bare, always bool, kids ...piece) piece {
	p := piece{s: f.parts[0], tree: f.node, level: f.level}
	for i, kid := range kids {
		if !bare && (always || kid.level < f.from[i]) {
			kid.s = "(" + kid.s + ")"
		}
		p.s += kid.s + f.parts[i+1]
		p.tree.Kids = append(p.tree.Kids, kid.tree)
	}
	if f.inner {
		p.tree = kids[0].tree
	}
	return p
}

// filled gives a form with numbers for its kids, but for one of them.
func (f form) filled(slot int, kid piece, bare, always bool) piece {
	kids := make([]piece, len(f.from))
	for i := range kids {
		kids[i] = piece{s: strconv.Itoa(i + 2), tree: num(int64(i + 2)), level: 8}
	}
	if slot < len(kids) {
		kids[slot] = kid
	}
	return f.write(bare, always, kids...)
}

func TestEachLineWithinEachOther(t *testing.T) {
	for _, outer := range forms() {
		alone := outer.filled(len(outer.from), piece{}, false, false)
		checkTree(t, "="+alone.s, alone.tree)
		for slot := range outer.from {
			for _, middle := range forms() {
				inside := middle.filled(len(middle.from), piece{}, false, false)
				for _, always := range []bool{false, true} {
					both := outer.filled(slot, inside, false, always)
					checkTree(t, "="+both.s, both.tree)
				}
				// Brackets change the tree just where they are needed.
				bare := outer.filled(slot, inside, true, false)
				got, _, e := Formula("=" + bare.s)
				if changed := spell(got) != spell(bare.tree); e != api.OK || changed != (inside.level < outer.from[slot]) {
					t.Errorf("P10.1: Formula(%q) gives %s, %d; with brackets it is %s", "="+bare.s, spell(got), e, spell(bare.tree))
				}
				for place := range middle.from {
					for _, inner := range forms() {
						all := outer.filled(slot, middle.filled(place, inner.filled(len(inner.from), piece{}, false, false), false, false), false, false)
						checkTree(t, "="+all.s, all.tree)
					}
				}
			}
		}
	}
}

// cases gives a name as it is, small, and with every second letter small.
func cases(name string) []string {
	mixed := []byte(name)
	for i := range mixed {
		if i%2 == 1 {
			mixed[i] = strings.ToLower(name)[i]
		}
	}
	return []string{name, strings.ToLower(name), string(mixed)}
}

// catalogue is the functions in the order of their numbers, and how many arguments each takes, as doc/13 has it.
const catalogue = `ABS 1, SIGN 1, MOD 2, QUOTIENT 2, POWER 2, GCD 2, LCM 2, FACT 1, ISEVEN 1, ISODD 1, BITAND 2, BITOR 2, BITXOR 2, NOT 1, CLAMP 3, LEN 1, LEFT 1..2, RIGHT 1..2, MID 3, UPPER 1, LOWER 1, TRIM 1, REVERSE 1, FIND 2..3, SUBSTITUTE 3, REPLACE 4, REPT 2, EXACT 2, CODE 1, CHAR 1, VALUE 1, TEXT 1, N 1, T 1, NA 0, ISBLANK 1, ISNUMBER 1, ISTEXT 1, ISLOGICAL 1, ISERROR 1, ISNA 1, IF 2..3, IFERROR 2, IFNA 2, CHOOSE 2.., SWITCH 3.., ROW 0..1, COLUMN 0..1, ROWS 1, COLUMNS 1, INDIRECT 1, OFFSET 3..5, INDEX 2..3, SUM 1.., PRODUCT 1.., COUNT 1.., COUNTA 1.., COUNTBLANK 1.., MIN 1.., MAX 1.., AVERAGE 1.., MEDIAN 1.., LARGE 2, SMALL 2, AND 1.., OR 1.., XOR 1.., CONCAT 1.., JOIN 2.., MATCH 2, VLOOKUP 3, HLOOKUP 3, SUMIF 2..3, COUNTIF 2, SUMPRODUCT 2, FIRST 1..`

// function is a row of the catalogue; any number of arguments: most is 511, as many as a tree has room for.
type function struct {
	name        string
	least, most int
}

var functions = sync.OnceValue(func() []function {
	var all []function
	for _, one := range strings.Split(catalogue, ", ") {
		name, count, _ := strings.Cut(one, " ")
		from, until, two := strings.Cut(count, "..")
		f := function{name: name}
		f.least, _ = strconv.Atoi(from)
		f.most, _ = strconv.Atoi(until)
		switch {
		case !two:
			f.most = f.least
		case until == "":
			f.most = 511
		}
		all = append(all, f)
	}
	return all
})

func TestEachFunction(t *testing.T) {
	all := functions()
	if len(all) != api.Functions {
		t.Fatalf("the catalogue has %d functions", len(all))
	}
	for i, f := range all {
		for _, name := range cases(f.name) {
			for _, n := range []int{0, 1, 2, 3, 4, 5, 6, 7, 510, 511} {
				given := name + "(" + strings.TrimPrefix(times(n, ",1"), ",") + ")"
				if n < f.least || n > f.most {
					checkFault(t, "="+given, 1, api.ErrArg)
					checkFault(t, "= 1+(-"+given+")", 6, api.ErrArg)
					checkFault(t, "=IF(1,"+given, 6, api.ErrArg)
					checkFault(t, "="+given+"+NOPE(", 1, api.ErrArg)
					checkFault(t, "="+given+")", 1, api.ErrArg)
					checkFault(t, "="+strings.TrimSuffix(given, ")"), len(given), api.ErrSyntax)
					continue
				}
				checkTree(t, "="+given, fun(i+1, ones(n)...))
				if n < 510 {
					checkTree(t, "=-"+given+"%", minus(hundredth(fun(i+1, ones(n)...))))
				}
			}
		}
		checkFault(t, "="+f.name+"X(1)", 1, api.ErrNone)
		checkFault(t, "=Q"+f.name+"(1)", 1, api.ErrNone)
		checkFault(t, "="+f.name+"1(1)", 1, api.ErrNone)
		checkFault(t, "="+f.name+" (1)", 1, api.ErrToken)
		checkFault(t, "="+f.name, 1, api.ErrToken)
	}
}

func TestArgumentsOfEveryForm(t *testing.T) {
	a1, b2 := place(0, 0), place(1, 1)
	checkTree(t, "=SUM(A1:B2,A1=B2,-A1,(A1),\"a,b\",SUM(A1,SUM(B2)),NA())", fun(api.FSum, span(a1, b2), bin(api.BEq, ref(a1), ref(b2)), minus(ref(a1)), ref(a1), txt("a,b"), fun(api.FSum, ref(a1), fun(api.FSum, ref(b2))), fun(api.FNa)))
	checkTree(t, "=ROW()+COLUMN(A1)", bin(api.BAdd, fun(api.FRow), fun(api.FColumn, ref(a1))))
	checkTree(t, "=SUM( 1 , 2 )", fun(api.FSum, num(1), num(2)))
	checkTree(t, "=NA( )", fun(api.FNa))
	checkTree(t, "=NA(\n\t\u00a0)", fun(api.FNa))
	checkTree(t, "=N((1))", fun(api.FN, num(1)))
	checkTree(t, "=T(T(T(1)))", fun(api.FT, fun(api.FT, fun(api.FT, num(1)))))
	// How many arguments there are, is counted of each call by itself.
	checkTree(t, "=IF(MOD(1,2),MID(1,2,3),ABS(4))", fun(api.FIf, fun(api.FMod, num(1), num(2)), fun(api.FMid, num(1), num(2), num(3)), fun(api.FAbs, num(4))))
	checkFault(t, "=ABS((1,2))", 7, api.ErrSyntax)
	checkFault(t, "=SUM(1,(2,3))", 9, api.ErrSyntax)
}

func TestBlanks(t *testing.T) {
	words := []string{"-", "SUM(", "A1", ":", "$B$2", ",", `"a b"`, "%", ")", "^", "(", "2", "<>", "true", "&", "#N/A", ")"}
	tight := "=" + strings.Join(words, "")
	want, at, e := Formula(tight)
	if e != api.OK || at != 0 {
		t.Fatalf("P10.1: Formula(%q) gives %d, %d", tight, at, e)
	}
	checkTree(t, tight, bin(api.BPow, minus(fun(api.FSum, span(place(0, 0), api.Ref{Row: 1, Col: 1, PinRow: true, PinCol: true}), hundredth(txt("a b")))), bin(api.BNe, num(2), bin(api.BJoin, yes(), bad(api.ENA)))))
	for _, blank := range []string{"\t", "\n", "\r", " ", "\u00a0", "\u3000", " \t\n\r\u00a0\u3000", times(1000, " ")} {
		checkTree(t, "="+strings.Join(words, blank), want)
		checkTree(t, "="+blank+strings.Join(words, blank)+blank, want)
		for i := range words {
			checkTree(t, "="+strings.Join(words[:i], "")+blank+strings.Join(words[i:], ""), want)
		}
		checkFault(t, "="+blank, 1+len(blank), api.ErrSyntax)
		checkFault(t, "=1+"+blank, 3+len(blank), api.ErrSyntax)
		checkFault(t, "=("+blank+"1"+blank, 3+2*len(blank), api.ErrSyntax)
		checkFault(t, "="+blank+")"+blank, 1+len(blank), api.ErrSyntax)
		checkFault(t, "=1"+blank+"2", 2+len(blank), api.ErrSyntax)
		checkFault(t, "=1<"+blank+">2", 3+len(blank), api.ErrSyntax)
		checkFault(t, "=1<"+blank+"=2", 3+len(blank), api.ErrSyntax)
		checkFault(t, blank+"=1", 0, api.ErrArg)
		checkFault(t, "="+blank+"ABS("+blank+")", 1+len(blank), api.ErrArg)
		checkFault(t, "="+blank+"NOPE("+blank+")", 1+len(blank), api.ErrNone)
		checkFault(t, "=SUM"+blank+"(1)", 1, api.ErrToken)
	}
	for _, none := range []string{"\v", "\f", "\u0085", "\u2003", "\ufeff", "\xa0"} {
		checkFault(t, "=1"+none+"+1", 2, api.ErrToken)
	}
}
