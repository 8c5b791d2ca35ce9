package print

import (
	"fmt"
	"math"
	"slices"
	"strconv"
	"strings"
	"testing"

	"quadrille/api"
	"quadrille/parse"
	"quadrille/tree"
)

func num(n int64) api.Expr { return api.Expr{Kind: api.XInt, Int: n} }

func txt(s string) api.Expr { return api.Expr{Kind: api.XText, Text: s} }

func truth(n int64) api.Expr { return api.Expr{Kind: api.XBool, Int: n} }

func bad(n int64) api.Expr { return api.Expr{Kind: api.XErr, Int: n} }

func place(row, col int) api.Ref { return api.Ref{Row: row, Col: col} }

func ref(r api.Ref) api.Expr { return api.Expr{Kind: api.XRef, Ref: r} }

func span(from, to api.Ref) api.Expr { return api.Expr{Kind: api.XRange, Ref: from, To: to} }

func un(op int, kids ...api.Expr) api.Expr { return api.Expr{Kind: api.XUn, Op: op, Kids: kids} }

func minus(kid api.Expr) api.Expr { return un(api.UMinus, kid) }

func plus(kid api.Expr) api.Expr { return un(api.UPlus, kid) }

func hundredth(kid api.Expr) api.Expr { return un(api.UPercent, kid) }

func bin(op int, kids ...api.Expr) api.Expr { return api.Expr{Kind: api.XBin, Op: op, Kids: kids} }

func fun(f int, kids ...api.Expr) api.Expr {
	return api.Expr{Kind: api.XCall, Fun: f, Kids: kids}
}

// ones gives a list of so many numbers.
func ones(n int) []api.Expr { return slices.Repeat([]api.Expr{num(1)}, max(n, 0)) }

// times writes a text so many times.
func times(n int, s string) string { return strings.Repeat(s, n) }

// around lays a node of one kid around a tree, so many times.
func around(n int, lay func(api.Expr) api.Expr, t api.Expr) api.Expr {
	for range n {
		t = lay(t)
	}
	return t
}

// spell writes all that a tree has, so that two have one text just if they are the same.
func spell(t api.Expr) string {
	b := strings.Builder{}
	var write func(n api.Expr)
	write = func(n api.Expr) {
		fmt.Fprintf(&b, "(%d %d %d %q %v %v %d", n.Kind, n.Op, n.Int, n.Text, n.Ref, n.To, n.Fun)
		for _, kid := range n.Kids {
			write(kid)
		}
		b.WriteString(")")
	}
	write(t)
	return b.String()
}

// brief writes a text without the most of a long one.
func brief(s string) string {
	if len(s) <= 200 {
		return fmt.Sprintf("%q", s)
	}
	return fmt.Sprintf("%q.. of %d bytes", s[:200], len(s))
}

// pair is where a bracket opens and where it closes; call: a name stands ahead of it.
type pair struct {
	open, close int
	call        bool
}

// pairs gives the brackets of a formula's text, those within its texts not counted, and how many stand within one another at most.
func pairs(s string) (all []pair, deepest int) {
	var open []int
	quoted := false
	for i := range len(s) {
		switch {
		case s[i] == '"':
			quoted = !quoted
		case quoted:
		case s[i] == '(':
			open = append(open, i)
			deepest = max(deepest, len(open))
		case s[i] == ')':
			at := open[len(open)-1]
			open = open[:len(open)-1]
			all = append(all, pair{at, i, s[at-1] >= 'A' && s[at-1] <= 'Z'})
		}
	}
	return all, deepest
}

// checkText holds Formula against the text that is wanted of a tree, and that text against the bounds and the way back.
func checkText(t *testing.T, x api.Expr, want string) {
	t.Helper()
	got, e := Formula(x)
	if e != api.OK || got != want {
		t.Errorf("P11.1: Formula gives %s, %d, not %s, OK: %s", brief(got), e, brief(want), brief(spell(x)))
		return
	}
	checkBack(t, x, got)
}

// checkBack holds a text against what P11.2 says of it.
func checkBack(t *testing.T, x api.Expr, s string) {
	t.Helper()
	if len(s) > 65536 {
		t.Errorf("P11.2: the text has %d bytes: %s", len(s), brief(s))
	}
	back, at, e := parse.Formula(s)
	if e != api.OK || at != 0 || spell(back) != spell(x) || !tree.Same(back, x) {
		t.Errorf("P11.2: %s is read as %s, %d, %d, not as %s", brief(s), brief(spell(back)), at, e, brief(spell(x)))
		return
	}
	if _, deepest := pairs(s); deepest > 128 {
		t.Errorf("P11.2: %d brackets stand within one another: %s", deepest, brief(s))
	}
}

// checkRefused holds Formula against the error that is wanted of a tree.
func checkRefused(t *testing.T, x api.Expr, want api.Errno) {
	t.Helper()
	s, e := Formula(x)
	if s != "" || e != want {
		t.Errorf("P11.1: Formula gives %s, %d, not the empty text, %d", brief(s), e, want)
	}
	if may := tree.May(x); may != e {
		t.Errorf("P11.1: Formula tells %d, tree.May %d", e, may)
	}
}

func TestDocumentExamples(t *testing.T) {
	one, two, three, five := num(1), num(2), num(3), num(5)
	a1, b1, c1 := ref(place(0, 0)), ref(place(0, 1)), ref(place(0, 2))
	checkText(t, bin(api.BMul, bin(api.BAdd, one, two), three), "=(1+2)*3")
	checkText(t, bin(api.BAdd, one, bin(api.BMul, two, three)), "=1+2*3")
	checkText(t, bin(api.BSub, one, bin(api.BSub, two, three)), "=1-(2-3)")
	checkText(t, bin(api.BSub, bin(api.BSub, one, two), three), "=1-2-3")
	checkText(t, bin(api.BPow, minus(two), two), "=-2^2")
	checkText(t, minus(bin(api.BPow, two, two)), "=-(2^2)")
	checkText(t, bin(api.BPow, two, minus(two)), "=2^-2")
	checkText(t, hundredth(minus(five)), "=(-5)%")
	checkText(t, minus(hundredth(five)), "=-5%")
	checkText(t, hundredth(hundredth(five)), "=5%%")
	checkText(t, bin(api.BEq, bin(api.BLess, a1, b1), c1), "=A1<B1=C1")
	checkText(t, bin(api.BLess, a1, bin(api.BEq, b1, c1)), "=A1<(B1=C1)")
	checkText(t, bin(api.BJoin, bin(api.BJoin, a1, txt(`a"b`)), one), `=A1&"a""b"&1`)
	checkText(t, fun(api.FSum, span(api.Ref{PinCol: true}, api.Ref{Row: 1, Col: 1, PinRow: true}), bad(api.ERef), hundredth(one)), "=SUM($A1:B$2,#REF!,1%)")
	checkText(t, fun(api.FNa), "=NA()")
	checkText(t, span(place(1, 1), place(0, 0)), "=B2:A1")
}

// checkLeaf holds a node without kids against its text, alone and beside all that may stand beside it.
func checkLeaf(t *testing.T, n api.Expr, want string) {
	t.Helper()
	checkText(t, n, "="+want)
	checkText(t, minus(n), "=-"+want)
	checkText(t, plus(n), "=+"+want)
	checkText(t, hundredth(n), "="+want+"%")
	for _, o := range operationsOfTwo() {
		checkText(t, bin(o.op, n, n), "="+want+o.sign+want)
	}
	checkText(t, fun(api.FSum, n, n, n), "=SUM("+want+","+want+","+want+")")
	checkText(t, hundredth(bin(api.BAdd, n, n)), "=("+want+"+"+want+")%")
}

func TestNumbers(t *testing.T) {
	for n, want := range map[int64]string{0: "0", 1: "1", 9: "9", 10: "10", 42: "42", 255: "255", 256: "256", 1000000: "1000000", 1<<31 - 1: "2147483647", 1 << 31: "2147483648", 1<<32 + 1: "4294967297", 1 << 53: "9007199254740992", 1<<53 + 1: "9007199254740993", 1<<62 + 1: "4611686018427387905", math.MaxInt64 - 1: "9223372036854775806", math.MaxInt64: "9223372036854775807"} {
		checkLeaf(t, num(n), want)
	}
	for n, size := int64(1), 1; size <= 19; n, size = n*10, size+1 {
		checkText(t, num(n), "=1"+times(size-1, "0"))
		checkText(t, num(n-1), "="+strconv.FormatInt(n-1, 10))
		checkText(t, num(n+1), "="+strconv.FormatInt(n+1, 10))
	}
	for bit := range 63 {
		for _, n := range []int64{1 << bit, 1<<bit - 1, math.MaxInt64 - 1<<bit} {
			checkText(t, num(n), "="+strconv.FormatInt(n, 10))
		}
	}
}

func TestTexts(t *testing.T) {
	for s, want := range map[string]string{
		``: `""`, `a`: `"a"`, `"`: `""""`, `""`: `""""""`, `"""`: `""""""""`, `a"b`: `"a""b"`, `"a`: `"""a"`, `a"`: `"a"""`, `"a"`: `"""a"""`, `a""b`: `"a""""b"`, `" "`: `""" """`, `","`: `""","""`,
		"é": `"é"`, "\xff": "\"\xff\"", "\x00": "\"\x00\"", "\xc3\"": "\"\xc3\"\"\"", "\"\xa9": "\"\"\"\xa9\"", "\xef\xbf\xbd": "\"\xef\xbf\xbd\"", "a\nb\r\t": "\"a\nb\r\t\"", "\u00a0\u3000": "\"\u00a0\u3000\"", "'": `"'"`, `\`: `"\"`, `\n`: `"\n"`, "`": "\"`\"",
		// What spells something else is a text all the same.
		"=1": `"=1"`, "A1": `"A1"`, "$A$1": `"$A$1"`, "1": `"1"`, "TRUE": `"TRUE"`, "true": `"true"`, "#N/A": `"#N/A"`, "(": `"("`, ")": `")"`, ",": `","`, "NA()": `"NA()"`, "-1": `"-1"`, "007": `"007"`, " ": `" "`, "%": `"%"`,
	} {
		checkLeaf(t, txt(s), want)
	}
	for c := range 256 {
		b := string([]byte{byte(c)})
		twice := b
		if b == `"` {
			twice = `""`
		}
		checkText(t, txt(b), `="`+twice+`"`)
		checkText(t, txt("a"+b+b+"é"), `="a`+twice+twice+`é"`)
		checkText(t, txt(b+`"`+b), `="`+twice+`""`+twice+`"`)
		checkText(t, bin(api.BJoin, txt(b), txt(b)), `="`+twice+`"&"`+twice+`"`)
	}
	for n := range 60 {
		checkText(t, txt(times(n, `"`)), `="`+times(2*n, `"`)+`"`)
		checkText(t, fun(api.FConcat, txt(times(n, `"`)), txt(`",`)), `=CONCAT("`+times(2*n, `"`)+`",""",")`)
	}
}

func TestTruthsAndErrors(t *testing.T) {
	checkLeaf(t, truth(1), "TRUE")
	checkLeaf(t, truth(0), "FALSE")
	for e, want := range map[int64]string{api.EName: "#NAME?", api.ENum: "#NUM!", api.ERef: "#REF!", api.EValue: "#VALUE!", api.EDiv: "#DIV/0!", api.ENA: "#N/A"} {
		checkLeaf(t, bad(e), want)
	}
	checkRefused(t, bad(api.ECycle), api.ErrTree)
}

// pinned writes a reference.
func pinned(letters, digits string, r api.Ref) string {
	s := letters
	if r.PinCol {
		s = "$" + s
	}
	if r.PinRow {
		s += "$"
	}
	return s + digits
}

// corner is a place and how it is written.
type corner struct {
	row, col        int
	letters, digits string
}

func corners() []corner {
	return []corner{
		{0, 0, "A", "1"}, {65535, 701, "ZZ", "65536"}, {0, 701, "ZZ", "1"}, {65535, 0, "A", "65536"}, {8, 25, "Z", "9"}, {9, 26, "AA", "10"}, {98, 27, "AB", "99"}, {99, 51, "AZ", "100"}, {998, 52, "BA", "999"}, {9999, 675, "YZ", "10000"}, {65534, 676, "ZA", "65535"}, {6, 1, "B", "7"},
	}
}

// written gives a corner's reference and its text, with the pins of two bits.
func (c corner) written(pins int) (api.Ref, string) {
	r := api.Ref{Row: c.row, Col: c.col, PinRow: pins&1 != 0, PinCol: pins&2 != 0}
	return r, pinned(c.letters, c.digits, r)
}

func TestReferencesWithEveryChoiceOfPins(t *testing.T) {
	for _, c := range corners() {
		for pins := range 4 {
			r, want := c.written(pins)
			checkLeaf(t, ref(r), want)
		}
	}
	for col := range 702 {
		letters := string(rune('A' + col%26))
		if col >= 26 {
			letters = string(rune('A'+col/26-1)) + letters
		}
		checkText(t, ref(place(col*90, col)), "="+letters+strconv.Itoa(col*90+1))
	}
	for row := 0; row < 65536; row += 41 {
		checkText(t, ref(api.Ref{Row: row, Col: 30, PinRow: true}), "=AE$"+strconv.Itoa(row+1))
	}
}

func TestRangesWithTheirCornersAsTheyStand(t *testing.T) {
	for _, a := range corners() {
		for _, b := range corners() {
			for pins := range 16 {
				from, first := a.written(pins & 3)
				to, second := b.written(pins >> 2)
				checkText(t, span(from, to), "="+first+":"+second)
				checkText(t, fun(api.FSum, span(to, from), ref(from)), "=SUM("+second+":"+first+","+first+")")
			}
		}
	}
	for _, a := range corners()[:4] {
		from, first := a.written(1)
		to, second := corners()[11].written(2)
		checkLeaf(t, span(from, to), first+":"+second)
		checkLeaf(t, span(to, from), second+":"+first)
	}
}

// catalogue is the functions' names in the order of their numbers, each with the fewest arguments and the most, as doc/13 has it.
const catalogue = `ABS 1, SIGN 1, MOD 2, QUOTIENT 2, POWER 2, GCD 2, LCM 2, FACT 1, ISEVEN 1, ISODD 1, BITAND 2, BITOR 2, BITXOR 2, NOT 1, CLAMP 3, LEN 1, LEFT 1..2, RIGHT 1..2, MID 3, UPPER 1, LOWER 1, TRIM 1, REVERSE 1, FIND 2..3, SUBSTITUTE 3, REPLACE 4, REPT 2, EXACT 2, CODE 1, CHAR 1, VALUE 1, TEXT 1, N 1, T 1, NA 0, ISBLANK 1, ISNUMBER 1, ISTEXT 1, ISLOGICAL 1, ISERROR 1, ISNA 1, IF 2..3, IFERROR 2, IFNA 2, CHOOSE 2.., SWITCH 3.., ROW 0..1, COLUMN 0..1, ROWS 1, COLUMNS 1, INDIRECT 1, OFFSET 3..5, INDEX 2..3, SUM 1.., PRODUCT 1.., COUNT 1.., COUNTA 1.., COUNTBLANK 1.., MIN 1.., MAX 1.., AVERAGE 1.., MEDIAN 1.., LARGE 2, SMALL 2, AND 1.., OR 1.., XOR 1.., CONCAT 1.., JOIN 2.., MATCH 2, VLOOKUP 3, HLOOKUP 3, SUMIF 2..3, COUNTIF 2, SUMPRODUCT 2, FIRST 1..`

// function is a row of the catalogue; any number: most is 511, as many as a tree has room for.
type function struct {
	name        string
	least, most int
}

func functions() []function {
	var all []function
	for _, row := range strings.Split(catalogue, ", ") {
		name, counts, _ := strings.Cut(row, " ")
		from, until, two := strings.Cut(counts, "..")
		f := function{name: name}
		f.least, _ = strconv.Atoi(from)
		f.most, _ = strconv.Atoi(until)
		switch {
		case !two:
			f.most = f.least
		case until == "":
			f.most = 511
		}
		all = append(all, f)
	}
	return all
}

func TestEveryFunctionByItsName(t *testing.T) {
	all := functions()
	if len(all) != api.Functions {
		t.Fatalf("the test's own fault: %d functions", len(all))
	}
	for i, f := range all {
		for n := 0; n <= 511; n++ {
			if n > 8 && n < 509 && n%50 != 0 {
				continue
			}
			x := fun(i+1, ones(n)...)
			if n < f.least || n > f.most {
				checkRefused(t, x, api.ErrTree)
				continue
			}
			inner := strings.TrimPrefix(times(n, ",1"), ",")
			checkText(t, x, "="+f.name+"("+inner+")")
			if n <= 250 {
				checkText(t, minus(hundredth(bin(api.BPow, x, x))), "=-("+f.name+"("+inner+")^"+f.name+"("+inner+"))%")
			}
		}
	}
}

func TestArgumentsStandInTheirOrder(t *testing.T) {
	var kids []api.Expr
	want := ""
	for i := range 511 {
		kids = append(kids, num(int64(i)))
		want += "," + strconv.Itoa(i)
	}
	checkText(t, fun(api.FMax, kids...), "=MAX("+want[1:]+")")
	checkText(t, fun(api.FIf, truth(0), fun(api.FRow), fun(api.FRow, ref(place(1, 1)))), "=IF(FALSE,ROW(),ROW(B2))")
	checkText(t, fun(api.FSwitch, num(1), minus(num(2)), bin(api.BEq, num(3), num(4)), txt("x,y")), `=SWITCH(1,-2,3=4,"x,y")`)
	checkText(t, fun(api.FSum, fun(api.FSum, num(1), num(2)), fun(api.FSum, num(3)), fun(api.FNa)), "=SUM(SUM(1,2),SUM(3),NA())")
}
