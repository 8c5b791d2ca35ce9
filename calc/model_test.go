package calc

import (
	"bytes"
	"cmp"
	"math/big"
	"math/rand"
	"regexp"
	"slices"
	"strconv"
	"strings"
	"testing"
	"unicode/utf8"

	"quadrille/api"
)

// document is how the document writes the functions of both classes, in the order of their numbers, each with its arguments.
const document = `ABS(n) SIGN(n) MOD(a,b) QUOTIENT(a,b) POWER(a,b) GCD(a,b) LCM(a,b) FACT(n) ISEVEN(n) ISODD(n) BITAND(a,b) BITOR(a,b) BITXOR(a,b) NOT(b?) CLAMP(n,lo,hi) LEN(t) LEFT(t,[n]) RIGHT(t,[n]) MID(t,from,n) UPPER(t) LOWER(t) TRIM(t) REVERSE(t) FIND(what,in,[from]) SUBSTITUTE(in,old,new) REPLACE(t,from,n,new) REPT(t,n) EXACT(t,t) CODE(t) CHAR(n) VALUE(n) TEXT(t) N(v) T(v) NA() ISBLANK(e) ISNUMBER(e) ISTEXT(e) ISLOGICAL(e) ISERROR(e) ISNA(e)`

// documentRow is a function as the document has it: what its arguments are called, and how many of them there must be.
type documentRow struct {
	name   string
	number int
	asks   []string
	fewest int
}

// documentRows reads the document's functions.
func documentRows(t *testing.T) []documentRow {
	t.Helper()
	var all []documentRow
	for i, one := range strings.Fields(document) {
		name, inside, _ := strings.Cut(strings.TrimSuffix(one, ")"), "(")
		r := documentRow{name: name, number: i + 1}
		if inside != "" {
			r.asks = strings.Split(inside, ",")
		}
		for at, ask := range r.asks {
			r.asks[at] = strings.Trim(ask, "[]")
			if r.asks[at] == ask {
				r.fewest++
			}
		}
		all = append(all, r)
	}
	if len(all) != 41 {
		t.Fatalf("the document has 41 functions of both classes, not %d", len(all))
	}
	return all
}

// modelMay tells whether there is a value.
func modelMay(v api.Value) bool {
	switch v.Kind {
	case api.VBlank:
		return v == api.Value{}
	case api.VInt:
		return len(v.Text) == 0
	case api.VBool:
		return v == yes() || v == no()
	case api.VText:
		return v.Int == 0 && len(v.Text) < 32768
	case api.VErr:
		return len(v.Text) == 0 && v.Int >= 1 && v.Int <= 6
	}
	return false
}

var oneForm = regexp.MustCompile(`^(0|-?[1-9][0-9]*)$`)

// modelNumber gives a value that is no error as a number; nil is none.
func modelNumber(v api.Value) *big.Int {
	switch v.Kind {
	case api.VBlank:
		return new(big.Int)
	case api.VText:
		if !oneForm.MatchString(v.Text) {
			return nil
		}
		n, _ := new(big.Int).SetString(v.Text, 10)
		if !n.IsInt64() {
			return nil
		}
		return n
	}
	return big.NewInt(v.Int)
}

// modelText gives a value that is no error as a text.
func modelText(v api.Value) string {
	switch v {
	case yes():
		return "TRUE"
	case no():
		return "FALSE"
	}
	if v.Kind == api.VInt {
		return strconv.FormatInt(v.Int, 10)
	}
	return v.Text
}

// modelTruth gives a value that is no error as a truth: 0, 1, or -1 for none.
func modelTruth(v api.Value) int {
	switch {
	case v.Kind != api.VText && v.Int == 0, v == txt("FALSE"):
		return 0
	case v.Kind != api.VText, v == txt("TRUE"):
		return 1
	}
	return -1
}

// piecesOf cuts a text into the bytes of its runes.
func piecesOf(s string) []string {
	all := []string{}
	for s != "" {
		_, size := utf8.DecodeRuneInString(s)
		all = append(all, s[:size])
		s = s[size:]
	}
	return all
}

// settings is what the arguments of a call were looked at as, from the left: numbers and texts in lists of their own, and the value of one that is taken as it is.
type settings struct {
	ns []*big.Int
	ts []string
	b  int
	v  api.Value
}

// look looks at all arguments; false: one of them is not what it should be.
func look(r documentRow, args []api.Value) (settings, bool) {
	s := settings{}
	for i, v := range args {
		switch r.asks[i] {
		case "n", "a", "b", "lo", "hi", "from":
			n := modelNumber(v)
			if n == nil {
				return s, false
			}
			s.ns = append(s.ns, n)
		case "t", "what", "in", "old", "new":
			s.ts = append(s.ts, modelText(v))
		case "b?":
			s.b = modelTruth(v)
			if s.b < 0 {
				return s, false
			}
		default:
			s.v = v
		}
	}
	return s, true
}

// modelCall is what the document says of a call.
func modelCall(r documentRow, args []api.Value) (api.Value, api.Errno) {
	if len(args) < r.fewest || len(args) > len(r.asks) {
		return api.Value{}, api.ErrArg
	}
	if slices.ContainsFunc(args, func(v api.Value) bool { return !modelMay(v) }) {
		return api.Value{}, api.ErrValue
	}
	if strings.HasPrefix(r.name, "IS") && r.asks[0] == "e" {
		return modelAsking(r.name, args[0]), api.OK
	}
	for _, v := range args {
		if v.Kind == api.VErr {
			return v, api.OK
		}
	}
	s, fine := look(r, args)
	if !fine {
		return bad(api.EValue), api.OK
	}
	if len(s.ts) > 0 {
		return modelOfTexts(r.name, s), api.OK
	}
	return modelOfNumbers(r.name, s), api.OK
}

func modelBool(b bool) api.Value {
	if b {
		return yes()
	}
	return no()
}

func modelAsking(name string, v api.Value) api.Value {
	kinds := []string{"ISBLANK", "ISNUMBER", "ISLOGICAL", "ISTEXT", "ISERROR"}
	return modelBool(kinds[v.Kind] == name || name == "ISNA" && v == bad(api.ENA))
}

// fit gives a number of any size, if it is one of 64 bits.
func fit(n *big.Int) api.Value {
	if !n.IsInt64() {
		return bad(api.ENum)
	}
	return num(n.Int64())
}

func modelPower(a, b *big.Int) api.Value {
	one := big.NewInt(1)
	switch {
	case b.Sign() < 0:
		return bad(api.ENum)
	case a.CmpAbs(one) <= 0 && b.Sign() > 0:
		if a.Sign() < 0 && b.Bit(0) == 0 {
			return num(1)
		}
		return num(a.Int64())
	case b.Cmp(big.NewInt(64)) > 0:
		return bad(api.ENum)
	}
	return fit(new(big.Int).Exp(a, b, nil))
}

func modelOfNumbers(name string, s settings) api.Value {
	n := s.ns
	out := new(big.Int)
	switch name {
	case "ABS":
		return fit(out.Abs(n[0]))
	case "SIGN":
		return num(int64(n[0].Sign()))
	case "MOD", "QUOTIENT":
		if n[1].Sign() == 0 {
			return bad(api.EDiv)
		}
		if name == "QUOTIENT" {
			return fit(out.Quo(n[0], n[1]))
		}
		// Big's own rest is 0 or more, whatever the divisor's sign.
		out.Mod(n[0], n[1])
		if out.Sign() > 0 && n[1].Sign() < 0 {
			out.Add(out, n[1])
		}
		return fit(out)
	case "POWER":
		return modelPower(n[0], n[1])
	case "GCD", "LCM":
		a, b := new(big.Int).Abs(n[0]), new(big.Int).Abs(n[1])
		out.GCD(nil, nil, a, b)
		if name == "GCD" || out.Sign() == 0 {
			return fit(out)
		}
		return fit(a.Mul(a, b).Quo(a, out))
	case "FACT":
		if n[0].Sign() < 0 || n[0].Cmp(big.NewInt(20)) > 0 {
			return bad(api.ENum)
		}
		return fit(out.MulRange(1, n[0].Int64()))
	case "ISEVEN":
		return modelBool(n[0].Bit(0) == 0)
	case "ISODD":
		return modelBool(n[0].Bit(0) == 1)
	case "NOT":
		return modelBool(s.b == 0)
	case "CHAR":
		return modelChar(n[0].Int64())
	case "VALUE":
		return fit(n[0])
	case "NA":
		return bad(api.ENA)
	case "N":
		if s.v.Kind == api.VInt || s.v.Kind == api.VBool {
			return num(s.v.Int)
		}
		return num(0)
	case "T":
		if s.v.Kind == api.VText {
			return s.v
		}
		return txt("")
	}
	return modelOfBounds(name, n)
}

// modelOfBounds does what is #NUM! of numbers that stand wrong to one another.
func modelOfBounds(name string, n []*big.Int) api.Value {
	out := new(big.Int)
	if name == "CLAMP" {
		if n[1].Cmp(n[2]) > 0 {
			return bad(api.ENum)
		}
		sorted := slices.SortedFunc(slices.Values(n), (*big.Int).Cmp)
		return fit(sorted[1])
	}
	if n[0].Sign() < 0 || n[1].Sign() < 0 {
		return bad(api.ENum)
	}
	switch name {
	case "BITAND":
		return fit(out.And(n[0], n[1]))
	case "BITOR":
		return fit(out.Or(n[0], n[1]))
	case "BITXOR":
		return fit(out.Xor(n[0], n[1]))
	}
	panic("the model has no function " + name)
}

func modelChar(n int64) api.Value {
	if n < 0 || n > 1114111 || n >= 55296 && n <= 57343 {
		return bad(api.EValue)
	}
	return txt(string(utf8.AppendRune(nil, rune(n))))
}

// bounded gives n as a count, not below 0 and not above most.
func bounded(n *big.Int, highest int) int {
	if n.Sign() < 0 {
		return 0
	}
	if n.Cmp(big.NewInt(int64(highest))) > 0 {
		return highest
	}
	return int(n.Int64())
}

func glued(pieces ...string) api.Value {
	all := strings.Join(pieces, "")
	if len(all) > 32767 {
		return bad(api.EValue)
	}
	return txt(all)
}

func modelOfTexts(name string, s settings) api.Value {
	t := s.ts[0]
	cut := piecesOf(t)
	switch name {
	case "LEN":
		return num(int64(len(cut)))
	case "UPPER":
		return txt(cased(t, 'a', 'z', -32))
	case "LOWER":
		return txt(cased(t, 'A', 'Z', 32))
	case "TRIM":
		return txt(strings.Join(strings.FieldsFunc(t, func(r rune) bool { return r == ' ' }), " "))
	case "REVERSE":
		slices.Reverse(cut)
		return txt(strings.Join(cut, ""))
	case "CODE":
		if t == "" {
			return bad(api.EValue)
		}
		r, _ := utf8.DecodeRuneInString(t)
		return num(int64(r))
	case "TEXT":
		return txt(t)
	case "EXACT":
		return modelBool(bytes.Equal([]byte(t), []byte(s.ts[1])))
	case "SUBSTITUTE":
		if s.ts[1] == "" {
			return txt(t)
		}
		return glued(strings.Join(strings.Split(t, s.ts[1]), s.ts[2]))
	}
	return modelOfPlaces(name, s, cut)
}

// modelOfPlaces does what speaks of places and counts of runes.
func modelOfPlaces(name string, s settings, cut []string) api.Value {
	one := big.NewInt(1)
	ns := s.ns
	if len(ns) == 0 {
		ns = []*big.Int{one}
	}
	last := ns[len(ns)-1]
	switch name {
	case "LEFT", "RIGHT", "REPT", "MID", "REPLACE":
		if last.Sign() < 0 {
			return bad(api.EValue)
		}
	}
	switch name {
	case "LEFT":
		return glued(cut[:bounded(last, len(cut))]...)
	case "RIGHT":
		return glued(cut[len(cut)-bounded(last, len(cut)):]...)
	case "REPT":
		if s.ts[0] == "" {
			return txt("")
		}
		return glued(strings.Repeat(s.ts[0], bounded(last, 32768)))
	}
	if ns[0].Sign() <= 0 {
		return bad(api.EValue)
	}
	from := new(big.Int).Sub(ns[0], one)
	if name == "FIND" {
		return modelFind(s.ts[0], piecesOf(s.ts[1]), from)
	}
	begin := bounded(from, len(cut))
	end := bounded(from.Add(from, last), len(cut))
	if name == "MID" {
		return glued(cut[begin:end]...)
	}
	return glued(slices.Concat(cut[:begin], s.ts[1:], cut[end:])...)
}

// modelFind looks at each place from one on, counted from 0 here, by what stands there.
func modelFind(what string, in []string, from *big.Int) api.Value {
	begin := bounded(from, len(in)+1)
	rest := strings.Join(in[min(begin, len(in)):], "")
	for at := begin; at <= len(in); at++ {
		if strings.HasPrefix(rest, what) {
			return num(int64(at + 1))
		}
		if at < len(in) {
			rest = rest[len(in[at]):]
		}
	}
	return bad(api.EValue)
}

// cased gives a text with the bytes of a span moved.
func cased(t string, first, last byte, by int) string {
	out := []byte(t)
	for i, c := range out {
		if c >= first && c <= last {
			out[i] = byte(int(c) + by)
		}
	}
	return string(out)
}

// manyValues gives values of each kind, about the ends of what each one is.
func manyValues() []api.Value {
	all := values(blank(), yes(), no())
	for e := int64(api.EName); e <= api.ENA; e++ {
		all = append(all, bad(e))
	}
	for _, n := range []int64{least, least + 1, -1 << 62, -7, -2, -1, 0, 1, 2, 3, 20, 21, 63, 233, 3037000500, 1 << 62, most - 1, most} {
		all = append(all, num(n))
	}
	for _, s := range []string{"", "a", "ab", "aé", "éa\xff", "  a  b ", "7", "-2", "07", "2 ", "TRUE", "true", "9223372036854775807", "9223372036854775808", "-9223372036854775808"} {
		all = append(all, txt(s))
	}
	return all
}

// fewValues gives less of them, for functions of many arguments.
func fewValues() []api.Value {
	return values(blank(), yes(), bad(api.EName), bad(api.ENA), num(least), num(-1), num(0), num(1), num(2), num(5), num(most), txt(""), txt("a"), txt("aé"), txt("x\xffab"), txt("aaa"), txt("3"), txt("03"))
}

// tuples calls with all rows of so many values.
func tuples(pool []api.Value, count int, with func(args []api.Value)) {
	args := make([]api.Value, count)
	var fill func(at int)
	fill = func(at int) {
		if at == count {
			with(args)
			return
		}
		for _, v := range pool {
			args[at] = v
			fill(at + 1)
		}
	}
	fill(0)
}

// TestAgainstTheModel asks each function with each kind of value in each place.
func TestAgainstTheModel(t *testing.T) {
	for _, r := range documentRows(t) {
		for count := r.fewest; count <= len(r.asks); count++ {
			pool := manyValues()
			if count > 3 {
				pool = fewValues()
			}
			tuples(pool, count, func(args []api.Value) {
				want, e := modelCall(r, args)
				if got, gotE := Call(r.number, args...); got != want || gotE != e {
					t.Errorf("P14.2: %s of %s: %s, %d; want %s, %d", r.name, briefly(args), brief(got), gotE, brief(want), e)
				}
			})
		}
	}
}

// chance makes values at random, the same ones in each run.
type chance struct{ *rand.Rand }

func (c chance) value() api.Value {
	switch c.Intn(12) {
	case 0:
		return blank()
	case 1:
		return num(int64(c.Uint64()))
	case 2:
		return num(int64(c.Uint64()) >> c.Intn(64))
	case 3, 4:
		return num(int64(c.Intn(12)) - 3)
	case 5:
		return modelBool(c.Intn(2) == 0)
	case 6:
		if c.Intn(3) > 0 {
			return txt(strconv.FormatInt(int64(c.Uint64())>>c.Intn(64), 10))
		}
		return bad(int64(c.Intn(8)))
	case 7:
		return wrongOrLong(c)
	}
	return txt(c.text(c.Intn(9)))
}

// wrongOrLong gives now and then a value that may not be, or a long text.
func wrongOrLong(c chance) api.Value {
	switch c.Intn(8) {
	case 0:
		return txt(strings.Repeat(c.text(3), 2000+c.Intn(4000)))
	case 1:
		wrong := wrongValues()
		return wrong[c.Intn(len(wrong))]
	}
	return txt(c.text(2))
}

func (c chance) text(size int) string {
	letters := []string{"a", "b", "A", " ", "é", "\xa9", "\xff", "€", "\xe2\x82", "1", "Z"}
	b := strings.Builder{}
	for range size {
		b.WriteString(letters[c.Intn(len(letters))])
	}
	return b.String()
}

// TestAgainstTheModelAtRandom asks all functions, with numbers of arguments that are wrong, too.
func TestAgainstTheModelAtRandom(t *testing.T) {
	c := chance{rand.New(rand.NewSource(14))}
	rows := documentRows(t)
	for range 60000 {
		r := rows[c.Intn(len(rows))]
		count := r.fewest + c.Intn(len(r.asks)-r.fewest+1)
		if c.Intn(20) == 0 {
			count = c.Intn(6)
		}
		args := make([]api.Value, count)
		for i := range args {
			args[i] = c.value()
		}
		want, e := modelCall(r, args)
		checkCall(t, "P14.1, P14.2", r.number, args, want, e)
	}
}

// modelOrder tells the order of two values that are no errors.
func modelOrder(x, y api.Value) int {
	if x.Kind == api.VBlank {
		x.Kind = y.Kind
	}
	if y.Kind == api.VBlank {
		y.Kind = x.Kind
	}
	ranks := []int{api.VBlank, api.VInt, api.VText, api.VBool}
	if c := cmp.Compare(slices.Index(ranks, x.Kind), slices.Index(ranks, y.Kind)); c != 0 {
		return c
	}
	return cmp.Or(cmp.Compare(x.Int, y.Int), bytes.Compare([]byte(x.Text), []byte(y.Text)))
}

// modelUn is what the document says of an operation on one.
func modelUn(op int, v api.Value) api.Value {
	if op < 1 || op > 3 || !modelMay(v) {
		return bad(api.EValue)
	}
	if v.Kind == api.VErr {
		return v
	}
	n := modelNumber(v)
	if n == nil {
		return bad(api.EValue)
	}
	switch op {
	case api.UMinus:
		n.Neg(n)
	case api.UPercent:
		n.Quo(n, big.NewInt(100))
	}
	return fit(n)
}

// modelBin is what the document says of an operation on two.
func modelBin(op int, x, y api.Value) api.Value {
	if op < 1 || op > 12 {
		return bad(api.EValue)
	}
	for _, v := range values(x, y) {
		if !modelMay(v) {
			return bad(api.EValue)
		}
		if v.Kind == api.VErr {
			return v
		}
	}
	order := modelOrder(x, y)
	switch op {
	case api.BJoin:
		return glued(modelText(x), modelText(y))
	case api.BEq:
		return modelBool(order == 0)
	case api.BNe:
		return modelBool(order != 0)
	case api.BLess:
		return modelBool(order == -1)
	case api.BLessEq:
		return modelBool(order != 1)
	case api.BMore:
		return modelBool(order == 1)
	case api.BMoreEq:
		return modelBool(order != -1)
	}
	return modelSum(op, modelNumber(x), modelNumber(y))
}

func modelSum(op int, a, b *big.Int) api.Value {
	out := new(big.Int)
	switch {
	case a == nil || b == nil:
		return bad(api.EValue)
	case op == api.BDiv && b.Sign() == 0:
		return bad(api.EDiv)
	case op == api.BPow:
		return modelPower(a, b)
	case op == api.BMul:
		out.Mul(a, b)
	case op == api.BDiv:
		out.Quo(a, b)
	case op == api.BAdd:
		out.Add(a, b)
	case op == api.BSub:
		out.Sub(a, b)
	}
	return fit(out)
}

// TestOperationsAgainstTheModel takes all operations on each kind of value on each side.
func TestOperationsAgainstTheModel(t *testing.T) {
	pool := slices.Concat(manyValues(), fewValues(), wrongValues())
	for _, x := range pool {
		for op := -1; op <= 5; op++ {
			checkUn(t, op, x, modelUn(op, x))
		}
		for _, y := range pool {
			for op := -1; op <= 14; op++ {
				checkBin(t, op, x, y, modelBin(op, x, y))
			}
		}
	}
	c := chance{rand.New(rand.NewSource(15))}
	for range 60000 {
		x, y := c.value(), c.value()
		un, bin := c.Intn(5), c.Intn(14)
		checkUn(t, un, x, modelUn(un, x))
		checkBin(t, bin, x, y, modelBin(bin, x, y))
	}
}
