package fold

import (
	"bytes"
	"cmp"
	"fmt"
	"iter"
	"math/big"
	"math/rand"
	"regexp"
	"slices"
	"strconv"
	"strings"
	"testing"

	"quadrille/api"
)

// The model does a whole function in one go, in the document's words: it asks for a place's value when it wants it, and reckons with numbers of any size.

// asks gives the value of a place.
type asks func(at api.Spot) api.Value

// met is a value that is gone through.
type met struct {
	v    api.Value
	cell bool
}

// walked goes over the places of an area in row order, and asks for each.
func walked(a api.Area, ask asks) iter.Seq2[api.Spot, api.Value] {
	return func(yield func(api.Spot, api.Value) bool) {
		for row := a.Top; row <= a.Bottom; row++ {
			for col := a.Left; col <= a.Right; col++ {
				at := api.Spot{Row: row, Col: col}
				if !yield(at, ask(at)) {
					return
				}
			}
		}
	}
}

// wentThrough goes through arguments.
func wentThrough(all []api.Arg, ask asks) iter.Seq[met] {
	return func(yield func(met) bool) {
		for _, a := range all {
			if !a.IsArea {
				if !yield(met{a.Value, false}) {
					return
				}
				continue
			}
			for _, v := range walked(a.Area, ask) {
				if !yield(met{v, true}) {
					return
				}
			}
		}
	}
}

var oneForm = regexp.MustCompile(`^(0|-?[1-9][0-9]*)$`)

// modelNumber gives a value as a number, or nil and the error.
func modelNumber(v api.Value) (*big.Int, api.Value) {
	switch v.Kind {
	case api.VErr:
		return nil, v
	case api.VText:
		n, _ := new(big.Int).SetString(v.Text, 10)
		if !oneForm.MatchString(v.Text) || !n.IsInt64() {
			return nil, bad(api.EValue)
		}
		return n, blank()
	}
	return big.NewInt(v.Int), blank()
}

// modelText gives a value that is no error as a text.
func modelText(v api.Value) string {
	switch {
	case v == yes():
		return "TRUE"
	case v == no():
		return "FALSE"
	case v.Kind == api.VInt:
		return strconv.FormatInt(v.Int, 10)
	}
	return v.Text
}

// modelTruth gives a value that is no error as a truth: 0, 1, or -1 for none.
func modelTruth(v api.Value) int {
	switch {
	case v.Kind != api.VText && v.Int == 0, v == txt("FALSE"):
		return 0
	case v.Kind != api.VText, v == txt("TRUE"):
		return 1
	}
	return -1
}

func modelBool(b bool) api.Value {
	if b {
		return yes()
	}
	return no()
}

// modelEqual tells whether a cell's value is no error and equal to x, which is none either.
func modelEqual(v, x api.Value) bool {
	switch {
	case v.Kind == api.VErr:
		return false
	case v.Kind == api.VBlank:
		return x.Int == 0 && x.Text == ""
	case x.Kind == api.VBlank:
		return v.Int == 0 && v.Text == ""
	}
	return v.Kind == x.Kind && cmp.Compare(v.Int, x.Int) == 0 && bytes.Equal([]byte(v.Text), []byte(x.Text))
}

// gathered goes over the numbers that are gathered; the last thing may be an error, beside nil.
func gathered(all []api.Arg, ask asks) iter.Seq2[*big.Int, api.Value] {
	return func(yield func(*big.Int, api.Value) bool) {
		for m := range wentThrough(all, ask) {
			if m.cell && m.v.Kind != api.VInt && m.v.Kind != api.VErr {
				continue
			}
			n, e := modelNumber(m.v)
			if !yield(n, e) || n == nil {
				return
			}
		}
	}
}

// modelReckoned is SUM, PRODUCT and AVERAGE.
func modelReckoned(f int, all []api.Arg, ask asks) api.Value {
	total, many := big.NewInt(0), int64(0)
	if f == api.FProduct {
		total = big.NewInt(1)
	}
	for n, e := range gathered(all, ask) {
		if n == nil {
			return e
		}
		many++
		if f == api.FProduct {
			total.Mul(total, n)
		} else {
			total.Add(total, n)
		}
		if !total.IsInt64() {
			return bad(api.ENum)
		}
	}
	if f != api.FAverage {
		return num(total.Int64())
	}
	if many == 0 {
		return bad(api.EDiv)
	}
	return num(total.Quo(total, big.NewInt(many)).Int64())
}

// modelSorted is MIN, MAX, MEDIAN, LARGE and SMALL, the last two with a k.
func modelSorted(f int, all []api.Arg, k *big.Int, ask asks) api.Value {
	var sorted []*big.Int
	for n, e := range gathered(all, ask) {
		if n == nil {
			return e
		}
		sorted = append(sorted, n)
	}
	slices.SortFunc(sorted, func(a, b *big.Int) int { return a.Cmp(b) })
	many := len(sorted)
	switch {
	case many == 0 && (f == api.FMin || f == api.FMax):
		return num(0)
	case many == 0:
		return bad(api.ENum)
	case f == api.FMin:
		return num(sorted[0].Int64())
	case f == api.FMax:
		return num(sorted[many-1].Int64())
	case f == api.FMedian && many%2 == 1:
		return num(sorted[many/2].Int64())
	case f == api.FMedian:
		both := new(big.Int).Add(sorted[many/2], sorted[many/2-1])
		return num(both.Quo(both, big.NewInt(2)).Int64())
	case k.Sign() < 1 || k.Cmp(big.NewInt(int64(many))) > 0:
		return bad(api.ENum)
	case f == api.FLarge:
		slices.Reverse(sorted)
	}
	return num(sorted[k.Int64()-1].Int64())
}

// modelRanked is LARGE and SMALL.
func modelRanked(f int, all []api.Arg, ask asks) api.Value {
	if all[1].IsArea {
		return bad(api.EValue)
	}
	k, e := modelNumber(all[1].Value)
	if k == nil {
		return e
	}
	return modelSorted(f, all[:1], k, ask)
}

// modelCounted is COUNT, COUNTA and COUNTBLANK.
func modelCounted(f int, all []api.Arg, ask asks) api.Value {
	many := int64(0)
	for m := range wentThrough(all, ask) {
		n, _ := modelNumber(m.v)
		counts := m.v == blank()
		switch {
		case f == api.FCounta:
			counts = !counts
		case f == api.FCount && m.cell:
			counts = m.v.Kind == api.VInt
		case f == api.FCount:
			counts = n != nil
		}
		if counts {
			many++
		}
	}
	return num(many)
}

// modelJudged is AND, OR and XOR.
func modelJudged(f int, all []api.Arg, ask asks) api.Value {
	many, right := 0, 0
	for m := range wentThrough(all, ask) {
		if m.v.Kind == api.VErr {
			return m.v
		}
		if m.cell && m.v.Kind != api.VInt && m.v.Kind != api.VBool {
			continue
		}
		b := modelTruth(m.v)
		switch {
		case b < 0:
			return bad(api.EValue)
		case f == api.FAnd && b == 0:
			return no()
		case f == api.FOr && b == 1:
			return yes()
		}
		many++
		right += b
	}
	switch {
	case many == 0:
		return bad(api.EValue)
	case f == api.FXor:
		return modelBool(right%2 == 1)
	}
	return modelBool(f == api.FAnd)
}

// modelWritten is CONCAT and JOIN.
func modelWritten(f int, all []api.Arg, ask asks) api.Value {
	between := ""
	if f == api.FJoin {
		if all[0].IsArea {
			return bad(api.EValue)
		}
		if all[0].Value.Kind == api.VErr {
			return all[0].Value
		}
		between, all = modelText(all[0].Value), all[1:]
	}
	var pieces []string
	whole := ""
	for m := range wentThrough(all, ask) {
		if m.v.Kind == api.VErr {
			return m.v
		}
		if f == api.FJoin && m.cell && m.v == blank() {
			continue
		}
		pieces = append(pieces, modelText(m.v))
		whole = strings.Join(pieces, between)
		if len(whole) > 32767 {
			return bad(api.EValue)
		}
	}
	return txt(whole)
}

// modelMatched is MATCH.
func modelMatched(all []api.Arg, ask asks) api.Value {
	x, a := all[0], all[1]
	switch {
	case x.IsArea:
		return bad(api.EValue)
	case x.Value.Kind == api.VErr:
		return x.Value
	case !a.IsArea:
		return bad(api.EValue)
	}
	number := int64(0)
	for _, v := range walked(a.Area, ask) {
		number++
		if modelEqual(v, x.Value) {
			return num(number)
		}
	}
	return bad(api.ENA)
}

// modelLooked is VLOOKUP and HLOOKUP.
func modelLooked(f int, all []api.Arg, ask asks) api.Value {
	x, a, k := all[0], all[1], all[2]
	switch {
	case x.IsArea:
		return bad(api.EValue)
	case x.Value.Kind == api.VErr:
		return x.Value
	case !a.IsArea, k.IsArea:
		return bad(api.EValue)
	}
	n, e := modelNumber(k.Value)
	if n == nil {
		return e
	}
	line, most := a.Area, a.Area.Right-a.Area.Left+1
	if f == api.FHlookup {
		most = a.Area.Bottom - a.Area.Top + 1
		line.Bottom = line.Top
	} else {
		line.Right = line.Left
	}
	if n.Sign() <= 0 || n.Cmp(big.NewInt(int64(most))) > 0 {
		return bad(api.ERef)
	}
	for at, v := range walked(line, ask) {
		if modelEqual(v, x.Value) {
			if f == api.FHlookup {
				return ask(api.Spot{Row: a.Area.Top + int(n.Int64()) - 1, Col: at.Col})
			}
			return ask(api.Spot{Row: at.Row, Col: a.Area.Left + int(n.Int64()) - 1})
		}
	}
	return bad(api.ENA)
}

// alike tells whether two areas have as many rows and columns.
func alike(a, b api.Area) bool {
	return a.Bottom-a.Top == b.Bottom-b.Top && a.Right-a.Left == b.Right-b.Left
}

// modelPicked is COUNTIF and SUMIF.
func modelPicked(f int, all []api.Arg, ask asks) api.Value {
	a, x := all[0], all[1]
	switch {
	case !a.IsArea, x.IsArea:
		return bad(api.EValue)
	case x.Value.Kind == api.VErr:
		return x.Value
	case len(all) == 3 && (!all[2].IsArea || !alike(a.Area, all[2].Area)):
		return bad(api.EValue)
	}
	many, total := int64(0), new(big.Int)
	for at, v := range walked(a.Area, ask) {
		if !modelEqual(v, x.Value) {
			continue
		}
		many++
		if len(all) == 3 {
			b := all[2].Area
			v = ask(api.Spot{Row: b.Top + (at.Row - a.Area.Top), Col: b.Left + (at.Col - a.Area.Left)})
		}
		if f == api.FCountif {
			continue
		}
		if v.Kind == api.VErr {
			return v
		}
		if v.Kind == api.VInt && !total.Add(total, big.NewInt(v.Int)).IsInt64() {
			return bad(api.ENum)
		}
	}
	if f == api.FCountif {
		return num(many)
	}
	return num(total.Int64())
}

// modelPaired is SUMPRODUCT.
func modelPaired(all []api.Arg, ask asks) api.Value {
	if !all[0].IsArea || !all[1].IsArea || !alike(all[0].Area, all[1].Area) {
		return bad(api.EValue)
	}
	a, b := all[0].Area, all[1].Area
	total := new(big.Int)
	for at, v := range walked(a, ask) {
		if v.Kind == api.VErr {
			return v
		}
		w := ask(api.Spot{Row: b.Top + (at.Row - a.Top), Col: b.Left + (at.Col - a.Left)})
		if w.Kind == api.VErr {
			return w
		}
		if v.Kind != api.VInt || w.Kind != api.VInt {
			continue
		}
		both := new(big.Int).Mul(big.NewInt(v.Int), big.NewInt(w.Int))
		if !both.IsInt64() || !total.Add(total, both).IsInt64() {
			return bad(api.ENum)
		}
	}
	return num(total.Int64())
}

// modelFirst is FIRST.
func modelFirst(all []api.Arg, ask asks) api.Value {
	for m := range wentThrough(all, ask) {
		if m.v != blank() {
			return m.v
		}
	}
	return bad(api.ENA)
}

// model is what the document says of a function.
func model(f int, all []api.Arg, ask asks) api.Value {
	switch f {
	case api.FSum, api.FProduct, api.FAverage:
		return modelReckoned(f, all, ask)
	case api.FMin, api.FMax, api.FMedian:
		return modelSorted(f, all, nil, ask)
	case api.FLarge, api.FSmall:
		return modelRanked(f, all, ask)
	case api.FCount, api.FCounta, api.FCountblank:
		return modelCounted(f, all, ask)
	case api.FAnd, api.FOr, api.FXor:
		return modelJudged(f, all, ask)
	case api.FConcat, api.FJoin:
		return modelWritten(f, all, ask)
	case api.FMatch:
		return modelMatched(all, ask)
	case api.FVlookup, api.FHlookup:
		return modelLooked(f, all, ask)
	case api.FSumif, api.FCountif:
		return modelPicked(f, all, ask)
	case api.FSumproduct:
		return modelPaired(all, ask)
	}
	return modelFirst(all, ask)
}

// handed is a place that was wanted, and the value that was handed in for it.
type handed struct {
	at api.Spot
	v  api.Value
}

// modelled gives what a function wants, is handed from next, and ends with.
func modelled(f int, all []api.Arg, next func() api.Value) ([]handed, api.Value) {
	var asked []handed
	end := model(f, all, func(at api.Spot) api.Value {
		v := next()
		asked = append(asked, handed{at, v})
		return v
	})
	return asked, end
}

// likeTheModel holds a function against the model: each place that it wants, and its end.
func likeTheModel(t *testing.T, f int, all []api.Arg, next func() api.Value) {
	t.Helper()
	asked, end := modelled(f, all, next)
	w, e := Begin(f, all...)
	if e != api.OK || w == nil {
		t.Fatalf("P15.1: %s is refused: %d", called(f, all), e)
	}
	for i, h := range asked {
		at, some := w.Next()
		v, over := w.End()
		if at != h.at || !some || v != (api.Value{}) || over {
			t.Fatalf("P15.2, P15.4: %s behind %d values: wants %v, %t, ends %s, %t; it should want %v", called(f, all), i, at, some, brief(v), over, h.at)
		}
		if e := w.Give(h.v); e != api.OK {
			t.Fatalf("P15.3: %s behind %d values, given %s: %d", called(f, all), i, brief(h.v), e)
		}
	}
	at, some := w.Next()
	if v, over := w.End(); at != (api.Spot{}) || some || v != end || !over {
		t.Fatalf("P15.2, P15.4: %s behind %v: wants %v, %t, ends %s, %t; it should end with %s", called(f, all), fmt.Sprintf("%.300v", asked), at, some, brief(v), over, brief(end))
	}
}

// manyValues gives values of each kind.
func manyValues() []api.Value {
	return []api.Value{
		blank(), num(0), num(1), num(-1), num(2), num(3), num(low), num(high), num(1 << 62), txt(""), txt("1"), txt("-2"), txt("x"), txt("01"), txt("9223372036854775808"), txt("TRUE"), txt("FALSE"), txt("a\xffé"),
		yes(), no(), bad(api.EName), bad(api.ENum), bad(api.ERef), bad(api.EValue), bad(api.EDiv), bad(api.ENA), txt(xs(16383)), txt(xs(16384)), txt(xs(32767)),
	}
}

// fewValues gives a smaller choice, of each kind.
func fewValues() []api.Value {
	return []api.Value{blank(), num(0), num(1), num(2), num(low), num(high), txt(""), txt("1"), txt("x"), yes(), no(), bad(api.ENum), bad(api.ENA)}
}

// someAreas gives small areas of all forms, some of the same one.
func someAreas() []api.Arg {
	return args("A1", "C3", "B2:B3", "D5:D6", "B2:C2", "A1:B1", "B2:C3", "ZY65535:ZZ65536", "A1:A3")
}

// inTurn hands out values of a list, one after the other, and blanks behind its end.
func inTurn(all []api.Value) func() api.Value {
	i := -1
	return func() api.Value {
		if i++; i < len(all) {
			return all[i]
		}
		return blank()
	}
}

// chance chooses, among values that are made once.
type chance struct {
	*rand.Rand
	pool []api.Value
}

func newChance(seed int64) chance {
	return chance{rand.New(rand.NewSource(seed)), manyValues()}
}

// value gives some value; errors are rare, so that walks go far.
func (c chance) value() api.Value {
	pool := c.pool
	if c.Intn(8) > 0 {
		pool = pool[:20]
	}
	switch c.Intn(6) {
	case 0:
		return num(int64(c.Intn(7)) - 3)
	case 1:
		return num(int64(c.Uint64()))
	case 2:
		return num(int64(c.Uint64()) >> c.Intn(64))
	case 3:
		return txt(xs(c.Intn(9)))
	}
	return pool[c.Intn(len(pool))]
}

// arg gives an argument: an area of at most some places, or a value.
func (c chance) arg() api.Arg {
	if c.Intn(2) == 0 {
		return val(c.value())
	}
	top, left := c.Intn(4), c.Intn(4)
	return api.Arg{IsArea: true, Area: api.Area{Top: top, Left: left, Bottom: top + c.Intn(4), Right: left + c.Intn(4)}}
}

// TestOneAndTwoArgumentsAgainstTheModel takes each function with each argument of a choice, and with each two of them.
func TestOneAndTwoArgumentsAgainstTheModel(t *testing.T) {
	c := newChance(1)
	pool := someAreas()
	for _, v := range manyValues() {
		pool = append(pool, val(v))
	}
	for _, r := range walking() {
		for _, a := range pool {
			if r.fewest == 1 {
				likeTheModel(t, r.f, []api.Arg{a}, c.value)
			}
			if r.fewest > 2 {
				continue
			}
			for _, b := range pool {
				for range 4 {
					likeTheModel(t, r.f, []api.Arg{a, b}, c.value)
				}
			}
		}
	}
}

// TestThreeArgumentsAgainstTheModel takes each function that has so many with each three arguments of a smaller choice.
func TestThreeArgumentsAgainstTheModel(t *testing.T) {
	c := newChance(2)
	pool := someAreas()
	for _, v := range fewValues() {
		pool = append(pool, val(v))
	}
	for _, r := range walking() {
		if r.most > 0 && r.most < 3 {
			continue
		}
		for _, x := range pool {
			for _, y := range pool {
				for _, z := range pool {
					likeTheModel(t, r.f, []api.Arg{x, y, z}, c.value)
				}
			}
		}
	}
}

// TestEachValueOfACellAgainstTheModel hands in each value, and each three of a smaller choice, with each kind of the argument beside the area.
func TestEachValueOfACellAgainstTheModel(t *testing.T) {
	lists := func(f int, x api.Value) []api.Arg {
		switch f {
		case api.FMatch:
			return args(x, "B2:D2")
		case api.FVlookup:
			return args(x, "B2:C4", 2)
		case api.FHlookup:
			return args(x, "B2:D3", 1)
		case api.FSumif:
			return args("B2:B4", x, "C3:C5")
		case api.FSumproduct:
			return args("B2:C2", "C5:D5")
		case api.FJoin:
			return args(x, "B2:B4", x)
		}
		return args("B2:B4", x)
	}
	for _, r := range walking() {
		for _, x := range manyValues() {
			for _, v := range manyValues() {
				likeTheModel(t, r.f, lists(r.f, x), inTurn([]api.Value{v}))
				likeTheModel(t, r.f, lists(r.f, x), inTurn([]api.Value{num(1), v}))
			}
		}
		for _, x := range []api.Value{blank(), num(1), txt("x"), yes()} {
			for _, u := range fewValues() {
				for _, v := range fewValues() {
					for _, w := range fewValues() {
						likeTheModel(t, r.f, lists(r.f, x), inTurn([]api.Value{u, v, w, num(2)}))
					}
				}
			}
		}
	}
}

// TestSumIfWithoutAnotherArea hands in each three values of a choice.
func TestSumIfWithoutAnotherArea(t *testing.T) {
	for _, x := range fewValues() {
		for _, u := range fewValues() {
			for _, v := range fewValues() {
				for _, w := range fewValues() {
					likeTheModel(t, api.FSumif, args("B2:B4", x), inTurn([]api.Value{u, v, w}))
				}
			}
		}
	}
}

// TestChanceAgainstTheModel takes calls of up to seven arguments by chance.
func TestChanceAgainstTheModel(t *testing.T) {
	c := newChance(3)
	small := func() api.Value {
		if c.Intn(40) == 0 {
			return c.value()
		}
		return []api.Value{num(int64(c.Intn(3))), num(int64(c.Intn(3))), blank(), txt("x"), yes()}[c.Intn(5)]
	}
	for range 6000 {
		for _, r := range walking() {
			many := r.fewest + c.Intn(6)
			if r.most > 0 {
				many = r.fewest + c.Intn(r.most-r.fewest+1)
			}
			all := make([]api.Arg, many)
			for i := range all {
				if all[i] = c.arg(); c.Intn(3) > 0 && !all[i].IsArea {
					all[i] = val(small())
				}
			}
			likeTheModel(t, r.f, all, []func() api.Value{c.value, small}[c.Intn(2)])
		}
	}
}
