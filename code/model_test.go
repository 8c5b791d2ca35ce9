package code

import (
	"fmt"
	"math/big"
	"math/rand"
	"regexp"
	"slices"
	"strconv"
	"strings"
	"testing"

	"quadrille/api"
	"quadrille/list"
)

// modelForm tells whether an instruction's numbers are as told, rule by rule, without a table.
func modelForm(p api.Code, at int) bool {
	in := p.Ins[at]
	ahead := func(to int) bool { return to > at && to <= len(p.Ins) }
	within := func(n, least, most int) bool { return n >= least && n <= most }
	none := func(all ...int) bool { return !slices.ContainsFunc(all, func(n int) bool { return n != 0 }) }
	if in.Op != api.IChoose && len(in.T) > 0 {
		return false
	}
	takes := func(classes ...int) bool {
		told, e := list.Info(in.A)
		return e == api.OK && slices.Contains(classes, told.Class) && in.B >= told.Min && (told.Max < 0 || in.B <= told.Max)
	}
	switch in.Op {
	case api.IConst:
		return within(in.A, 0, len(p.Consts)-1) && none(in.B, in.C, in.D)
	case api.IFetch:
		return within(in.A, 0, 65535) && within(in.B, 0, 701) && none(in.C, in.D)
	case api.IArea:
		if !within(in.A, 0, 65535) || !within(in.B, 0, 701) || !within(in.C, in.A, 65535) || !within(in.D, in.B, 701) {
			return false
		}
		return (in.C-in.A+1)*(in.D-in.B+1) <= 4096
	case api.IUn:
		return within(in.A, 1, 3) && none(in.B, in.C, in.D)
	case api.IBin:
		return within(in.A, 1, 12) && none(in.B, in.C, in.D)
	case api.ICall:
		return takes(api.ClassScalar, api.ClassAsking) && none(in.C, in.D)
	case api.IErr:
		return ahead(in.A) && in.B >= 0 && none(in.C, in.D)
	case api.IIf:
		return ahead(in.A) && ahead(in.B) && none(in.C, in.D)
	case api.IOk:
		return ahead(in.A) && (in.B == 0 || in.B == 6) && none(in.C, in.D)
	case api.IChoose:
		return ahead(in.A) && none(in.B, in.C, in.D) && len(in.T) > 0 && !slices.ContainsFunc(in.T, func(to int) bool { return !ahead(to) })
	case api.IMatch, api.IJump:
		return ahead(in.A) && none(in.B, in.C, in.D)
	case api.IDrop, api.IOne, api.IIndirect:
		return none(in.A, in.B, in.C, in.D)
	case api.IHere:
		return within(in.A, api.FRow, api.FColumn) && none(in.B, in.C, in.D)
	case api.IPlace:
		return within(in.A, api.FRow, api.FColumns) && none(in.B, in.C, in.D)
	case api.IOffset:
		return within(in.A, 2, 4) && none(in.B, in.C, in.D)
	case api.IIndex:
		return within(in.A, 1, 2) && none(in.B, in.C, in.D)
	case api.IWalk:
		return takes(api.ClassWalking) && none(in.C, in.D)
	}
	return false
}

// flow is a place and the items that come there.
type flow struct {
	to    int
	items []rune
}

// popped takes one item that fits from a stack.
func popped(stack []rune, asked rune) ([]rune, bool) {
	if len(stack) == 0 {
		return nil, false
	}
	top := stack[len(stack)-1]
	return stack[:len(stack)-1], asked == 'x' || top == 'E' || top == asked
}

// poppedAll takes so many.
func poppedAll(stack []rune, asked rune, many int) ([]rune, bool) {
	fits := true
	for ; many > 0 && fits; many-- {
		stack, fits = popped(stack, asked)
	}
	return stack, fits
}

func with(stack []rune, item rune) []rune { return append(slices.Clone(stack), item) }

// modelFlows tells where an instruction leads to with a stack, item by item.
func modelFlows(p api.Code, at int, stack []rune) ([]flow, bool) {
	in := p.Ins[at]
	next := at + 1
	switch in.Op {
	case api.IConst:
		if p.Consts[in.A].Kind == api.VErr {
			return []flow{{next, with(stack, 'E')}}, true
		}
		return []flow{{next, with(stack, 'V')}}, true
	case api.IFetch, api.IHere:
		return []flow{{next, with(stack, 'V')}}, true
	case api.IArea:
		return []flow{{next, with(stack, 'A')}}, true
	case api.IUn:
		rest, fits := popped(stack, 'V')
		return []flow{{next, with(rest, 'V')}}, fits
	case api.IBin:
		rest, fits := poppedAll(stack, 'V', 2)
		return []flow{{next, with(rest, 'V')}}, fits
	case api.ICall:
		rest, fits := poppedAll(stack, 'V', in.B)
		return []flow{{next, with(rest, 'V')}}, fits
	case api.IErr:
		rest, fits := popped(stack, 'x')
		if fits {
			rest, fits = poppedAll(rest, 'x', in.B)
		}
		return []flow{{next, stack}, {in.A, with(rest, 'E')}}, fits
	case api.IIf:
		rest, fits := popped(stack, 'V')
		return []flow{{next, rest}, {in.A, rest}, {in.B, with(rest, 'E')}}, fits
	case api.IOk:
		rest, fits := popped(stack, 'V')
		return []flow{{next, rest}, {in.A, with(rest, 'V')}}, fits
	case api.IChoose:
		rest, fits := popped(stack, 'V')
		out := []flow{{in.A, with(rest, 'E')}}
		for _, to := range in.T {
			out = append(out, flow{to, rest})
		}
		return out, fits
	case api.IMatch:
		rest, fits := poppedAll(stack, 'V', 2)
		if !fits {
			return nil, false
		}
		return []flow{{next, rest}, {in.A, stack[:len(stack)-1]}}, true
	case api.IDrop:
		rest, fits := popped(stack, 'V')
		return []flow{{next, rest}}, fits
	case api.IJump:
		return []flow{{in.A, stack}}, true
	case api.IPlace, api.IOne:
		rest, fits := popped(stack, 'A')
		return []flow{{next, with(rest, 'V')}}, fits
	case api.IIndirect:
		rest, fits := popped(stack, 'V')
		return []flow{{next, with(rest, 'A')}}, fits
	case api.IOffset, api.IIndex:
		rest, fits := poppedAll(stack, 'V', in.A)
		if fits {
			rest, fits = popped(rest, 'A')
		}
		return []flow{{next, with(rest, 'A')}}, fits
	}
	rest, fits := poppedAll(stack, 'x', in.B)
	return []flow{{next, with(rest, 'V')}}, fits
}

// modelMeet gives what is known of items that come by two ways.
func modelMeet(a, b []rune) ([]rune, bool) {
	if len(a) != len(b) {
		return nil, false
	}
	out := slices.Clone(a)
	for i := range a {
		if a[i] == 'E' {
			out[i] = b[i]
		} else if b[i] != 'E' && a[i] != b[i] {
			return nil, false
		}
	}
	return out, true
}

// modelMay goes over the code again and again, in whatever order, until nothing more comes to be known; then it looks at all places.
func modelMay(p api.Code) api.Errno {
	lists := 0
	for _, in := range p.Ins {
		lists += len(in.T)
	}
	if len(p.Ins) == 0 || len(p.Ins) > 8192 || len(p.Consts) > 1024 || lists > 8192 {
		return api.ErrLong
	}
	for at := range p.Ins {
		if !modelForm(p, at) {
			return api.ErrCode
		}
	}
	known := map[int][]rune{0: {}}
	for again := true; again; {
		again = false
		for at := len(p.Ins) - 1; at >= 0; at-- {
			stack, some := known[at]
			if !some {
				continue
			}
			flows, fits := modelFlows(p, at, stack)
			if !fits {
				return api.ErrCode
			}
			for _, f := range flows {
				was, some := known[f.to]
				now, fits := f.items, len(f.items) <= 1024
				if some && fits {
					now, fits = modelMeet(was, f.items)
				}
				if !fits {
					return api.ErrCode
				}
				again = again || !some || !slices.Equal(was, now)
				known[f.to] = slices.Clone(now)
			}
		}
	}
	if len(known) != len(p.Ins)+1 {
		return api.ErrCode
	}
	if end := string(known[len(p.Ins)]); end != "V" && end != "E" {
		return api.ErrCode
	}
	return api.OK
}

// tally counts how often there was what.
type tally map[api.Errno]int

// hold holds May against the model.
func (n tally) hold(t *testing.T, p api.Code) {
	t.Helper()
	want := modelMay(p)
	n[want]++
	if got := May(p); got != want {
		t.Errorf("P16.1: %d, the model says %d: %s", got, want, briefCode(p))
	}
}

// enough checks that what was held is of both kinds.
func (n tally) enough(t *testing.T, least int) {
	t.Helper()
	if n[api.OK] < least || n[api.ErrCode] < least {
		t.Errorf("too few of a kind: %v", n)
	}
}

// letters gives instructions of every sort for code of so many, with all jumps that it has, and some that it has not.
func letters(many int) []api.Ins {
	out := []api.Ins{val, box, first, do(api.IConst, 1), minus, plus, drop, one, sum(1), sum(2), do(api.IIndirect), do(api.IIndex, 1), do(api.ICall, api.FNa, 0)}
	for a := 1; a <= many; a++ {
		out = append(out, jump(a), onErr(a, 0), onErr(a, 1), do(api.IOk, a, 0), do(api.IMatch, a))
		for b := 1; b <= many; b++ {
			out = append(out, do(api.IIf, a, b), pick(a, b))
		}
	}
	return out
}

// TestAllShortCode holds all code of up to three instructions against the model, and of four those that do much.
func TestAllShortCode(t *testing.T) {
	n := tally{}
	var lay func(p api.Code, many int, choice []api.Ins)
	lay = func(p api.Code, many int, choice []api.Ins) {
		if len(p.Ins) == many {
			n.hold(t, p)
			return
		}
		for _, in := range choice {
			lay(api.Code{Ins: append(p.Ins[:len(p.Ins):len(p.Ins)], in), Consts: p.Consts}, many, choice)
		}
	}
	for many := range 4 {
		lay(of(wrongs()), many, letters(many))
	}
	n.enough(t, 50)
	n = tally{}
	lay(of(wrongs()), 4, []api.Ins{val, box, first, one, sum(1), sum(2), drop, minus, onErr(2, 0), onErr(3, 0), onErr(4, 1), jump(2), jump(4), do(api.IOk, 4, 0), do(api.IIf, 3, 4), do(api.IMatch, 4), pick(4, 2, 3)})
	n.enough(t, 50)
}

// layer lays code that may be, by chance, as formulas are laid and otherwise.
type layer struct {
	*rand.Rand
	p api.Code
}

// lay lays an instruction, and gives what sets its first jump to the place behind all that was laid.
func (l *layer) lay(in api.Ins) func() {
	at := len(l.p.Ins)
	l.p.Ins = append(l.p.Ins, in)
	return func() { l.p.Ins[at].A = len(l.p.Ins) }
}

func (l *layer) here() int { return len(l.p.Ins) }

// constant lays a constant, of an error or another one.
func (l *layer) constant(v api.Value) {
	l.lay(do(api.IConst, len(l.p.Consts)))
	l.p.Consts = append(l.p.Consts, v)
}

// value lays what leaves a value, or an error.
func (l *layer) value(depth int) {
	if depth == 0 {
		switch l.Intn(5) {
		case 0:
			l.constant(num(l.Int63n(9) - 4))
		case 1:
			l.constant(bad(1 + l.Int63n(6)))
		case 2:
			l.constant(txt([]string{"", "a b", "\"\\\n\xff", "é"}[l.Intn(4)]))
		case 3:
			l.lay(do(api.IHere, api.FRow+l.Intn(2)))
		default:
			l.lay(do(api.IFetch, l.Intn(65536), l.Intn(702)))
		}
		return
	}
	switch depth--; l.Intn(10) {
	case 0:
		l.value(depth)
		l.lay(do(api.IUn, 1+l.Intn(3)))
	case 1:
		l.value(depth)
		end := l.lay(onErr(0, 0))
		l.value(depth)
		l.lay(do(api.IBin, 1+l.Intn(12)))
		end()
	case 2:
		end := l.args(3, func() { l.value(depth) })
		l.lay(do(api.ICall, api.FMid, 3))
		end()
	case 3:
		l.value(depth)
		at := l.here()
		l.lay(do(api.IIf))
		l.value(depth)
		end := l.lay(jump(0))
		l.p.Ins[at].A = l.here()
		l.value(depth)
		l.p.Ins[at].B = l.here()
		end()
	case 4:
		l.value(depth)
		end := l.lay(do(api.IOk, 0, 6*l.Intn(2)))
		l.value(depth)
		end()
	case 5:
		l.choice(func() { l.value(depth) })
	case 6:
		l.value(depth)
		l.value(depth)
		at := l.here()
		l.lay(do(api.IMatch))
		l.value(depth)
		end := l.lay(jump(0))
		l.p.Ins[at].A = l.here()
		l.lay(drop)
		l.value(depth)
		end()
	case 7:
		l.area(depth)
		l.lay(do(api.IPlace, api.FRow+l.Intn(4)))
	case 8:
		l.area(depth)
		l.lay(one)
	default:
		many := 1 + l.Intn(3)
		end := l.args(many, func() {
			if l.Intn(2) == 0 {
				l.area(depth)
			} else {
				l.value(depth)
			}
		})
		l.lay(sum(many))
		end()
	}
}

// args lays arguments, with jumps of errors behind some of them, and gives what sets these to the place behind all that was laid.
func (l *layer) args(many int, lay func()) func() {
	var open []func()
	for i := range many {
		lay()
		if i < many-1 && l.Intn(3) > 0 {
			open = append(open, l.lay(onErr(0, i)))
		}
	}
	return func() {
		for _, set := range open {
			set()
		}
	}
}

// choice lays a choice of several.
func (l *layer) choice(lay func()) {
	l.value(0)
	at := l.here()
	l.lay(pick(0))
	var starts, jumps []int
	many := 1 + l.Intn(3)
	for i := range many {
		starts = append(starts, l.here())
		lay()
		if i < many-1 {
			jumps = append(jumps, l.here())
			l.lay(jump(0))
		}
	}
	for range l.Intn(2) {
		starts = append(starts, starts[l.Intn(many)])
	}
	l.p.Ins[at].A, l.p.Ins[at].T = l.here(), starts
	for _, j := range jumps {
		l.p.Ins[j].A = l.here()
	}
}

// area lays what leaves an area, or an error.
func (l *layer) area(depth int) {
	if depth == 0 {
		if l.Intn(4) == 0 {
			l.constant(bad(api.ERef))
			return
		}
		top, left := l.Intn(60000), l.Intn(600)
		l.lay(do(api.IArea, top, left, top+l.Intn(64), left+l.Intn(64)))
		return
	}
	switch depth--; l.Intn(4) {
	case 0:
		l.value(depth)
		l.lay(do(api.IIndirect))
	case 1:
		l.area(depth)
		many := 2 + l.Intn(3)
		for range many {
			l.value(depth)
		}
		l.lay(do(api.IOffset, many))
	case 2:
		l.area(depth)
		end := l.lay(onErr(0, 0))
		l.value(depth)
		l.lay(do(api.IIndex, 1))
		end()
	default:
		l.choice(func() { l.area(depth) })
	}
}

// byChance gives code that may be.
func byChance(c *rand.Rand) api.Code {
	l := &layer{Rand: c}
	l.value(c.Intn(4))
	return l.p
}

// spoilt gives code with one thing changed by chance.
func spoilt(c *rand.Rand, p api.Code) api.Code {
	p.Ins = slices.Clone(p.Ins)
	at := c.Intn(len(p.Ins))
	in := &p.Ins[at]
	in.T = slices.Clone(in.T)
	switch c.Intn(9) {
	case 0:
		in.Op = c.Intn(23) - 1
	case 1, 2:
		number := []*int{&in.A, &in.B, &in.C, &in.D}[c.Intn(2)]
		*number += []int{-1, 1, 2, -2}[c.Intn(4)]
	case 3:
		*[]*int{&in.A, &in.B, &in.C, &in.D}[c.Intn(4)] = c.Intn(80) - 2
	case 4:
		p.Ins = slices.Delete(p.Ins, at, at+1)
	case 5:
		p.Ins = slices.Insert(p.Ins, at, p.Ins[c.Intn(len(p.Ins))])
	case 6:
		in.T = append(in.T, at+1+c.Intn(3))
	case 7:
		other := c.Intn(len(p.Ins))
		p.Ins[at], p.Ins[other] = p.Ins[other], p.Ins[at]
	default:
		if len(in.T) > 0 {
			in.T[c.Intn(len(in.T))] += c.Intn(5) - 2
		} else {
			in.A = len(p.Ins)
		}
	}
	return p
}

// TestCodeByChance holds code as formulas have it, and code with some things changed in it, against the model.
func TestCodeByChance(t *testing.T) {
	c := rand.New(rand.NewSource(16))
	n := tally{}
	for range 4000 {
		p := byChance(c)
		if e := modelMay(p); e != api.OK {
			t.Fatalf("the model refuses %s", written(p))
		}
		good(t, "code by chance", p)
		for range 8 {
			q := spoilt(c, p)
			if c.Intn(3) == 0 && len(q.Ins) > 0 {
				q = spoilt(c, q)
			}
			n.hold(t, q)
		}
	}
	n.enough(t, 1000)
}

// lineForms gives what tells whether a line is one, by patterns.
func lineForms() *regexp.Regexp {
	number := `(?:0|-?[1-9][0-9]*)`
	forms := []string{
		`const [ibe] ` + number,
		`const t "(?:[ !#-\[\]-~]|\\["\\]|\\x(?:[01][0-9a-f]|7f|[89a-f][0-9a-f]))*"`,
		`do\.choose ` + number + `(?: ` + number + `)*`,
	}
	for op, many := range uses() {
		if op != 0 && op != api.IChoose {
			forms = append(forms, fmt.Sprintf(`do\.%s(?: %s){%d}`, names()[op], number, many))
		}
	}
	return regexp.MustCompile(`^(?:` + strings.Join(forms, "|") + `)$`)
}

// fits64 tells whether a number has at most 64 bits.
func fits64(s string) bool {
	n, ok := new(big.Int).SetString(s, 10)
	return ok && n.IsInt64()
}

// modelRead reads a text by patterns, and by the library's way of reading a quoted text.
func modelRead(forms *regexp.Regexp, s string) (api.Code, int, api.Errno) {
	if len(s) > 1<<20 {
		return api.Code{}, 0, api.ErrLong
	}
	var p api.Code
	at := 0
	for _, line := range strings.SplitAfter(s, "\n") {
		if line == "" {
			break
		}
		body := strings.TrimSuffix(line, "\n")
		words := strings.Split(body, " ")
		quoted := strings.HasPrefix(body, "const t ")
		is := body != line && forms.MatchString(body) && (words[0] != "const" || len(p.Ins) == 0)
		for _, word := range words[1:] {
			is = is && (quoted || len(word) == 1 || fits64(word))
		}
		if !is {
			return api.Code{}, at, api.ErrText
		}
		at += len(line)
		modelLine(&p, words, body, quoted)
	}
	if e := modelConsts(p); e != api.OK {
		return api.Code{}, len(s), e
	}
	return p, 0, api.OK
}

// modelLine adds a line that is one.
func modelLine(p *api.Code, words []string, body string, quoted bool) {
	if quoted {
		text, _ := strconv.Unquote(strings.TrimPrefix(body, "const t "))
		p.Consts = append(p.Consts, txt(text))
		return
	}
	if words[0] == "const" {
		n, _ := strconv.ParseInt(words[2], 10, 64)
		p.Consts = append(p.Consts, api.Value{Kind: map[string]int{"i": api.VInt, "b": api.VBool, "e": api.VErr}[words[1]], Int: n})
		return
	}
	var all []int
	for _, word := range words[1:] {
		n, _ := strconv.Atoi(word)
		all = append(all, n)
	}
	op := slices.Index(names(), words[0][3:])
	in := do(op, all[:uses()[op]]...)
	in.T = all[uses()[op]:]
	p.Ins = append(p.Ins, in)
}

// modelConsts is the model's May with what it says of constants that were read.
func modelConsts(p api.Code) api.Errno {
	e := modelMay(p)
	for _, v := range p.Consts {
		wrong := v.Kind == api.VBool && v.Int != 0 && v.Int != 1 || v.Kind == api.VErr && (v.Int < 1 || v.Int > 6) || len(v.Text) > 32767
		if e == api.OK && wrong {
			return api.ErrCode
		}
	}
	return e
}

// blurred gives a text with some bytes changed by chance.
func blurred(c *rand.Rand, s string) string {
	b := []byte(s)
	pool := []byte(" \n\n\"\\x0123456789abcf-.dotcnsihe\x00\xff\r~\x7f")
	for range 1 + c.Intn(2) {
		at := c.Intn(len(b) + 1)
		one := pool[c.Intn(len(pool))]
		switch {
		case c.Intn(3) == 0:
			b = slices.Insert(b, at, one)
		case at < len(b) && c.Intn(2) == 0:
			b = slices.Delete(b, at, at+1)
		case at < len(b):
			b[at] = one
		}
	}
	if c.Intn(4) == 0 {
		lines := strings.SplitAfter(string(b), "\n")
		i, j := c.Intn(len(lines)), c.Intn(len(lines))
		lines[i], lines[j] = lines[j], lines[i]
		return strings.Join(lines, "")
	}
	return string(b)
}

// TestTextsByChance holds texts of code, and such with some bytes changed, against the model; what is read is written so again.
func TestTextsByChance(t *testing.T) {
	c := rand.New(rand.NewSource(61))
	forms := lineForms()
	n := tally{}
	for range 3000 {
		s := written(byChance(c))
		for range 12 {
			text := blurred(c, s)
			want, wantAt, wantE := modelRead(forms, text)
			n[wantE]++
			p, at, e := Read(text)
			if !same(p, want) || at != wantAt || e != wantE {
				t.Errorf("P16.3: Read(%s): %s, %d, %d; the model says %s, %d, %d", brief(text), briefCode(p), at, e, briefCode(want), wantAt, wantE)
			}
			if e != api.OK {
				continue
			}
			if again, e := Text(p); again != text || e != api.OK {
				t.Errorf("P16.3: %s is read, and written as %s, %d", brief(text), brief(again), e)
			}
		}
	}
	if n.enough(t, 1000); n[api.ErrText] < 1000 {
		t.Errorf("too few of a kind: %v", n)
	}
}

// FuzzRead holds what is read of any bytes against what is written of it.
func FuzzRead(f *testing.F) {
	for _, c := range specimens() {
		f.Add(written(c.p))
	}
	forms := lineForms()
	f.Fuzz(func(t *testing.T, s string) {
		p, at, e := Read(s)
		want, wantAt, wantE := modelRead(forms, s)
		if !same(p, want) || at != wantAt || e != wantE {
			t.Errorf("P16.3: Read(%s): %s, %d, %d; the model says %s, %d, %d", brief(s), briefCode(p), at, e, briefCode(want), wantAt, wantE)
		}
		if again, ae := Text(p); e == api.OK && (again != s || ae != api.OK) {
			t.Errorf("P16.3: %s is written as %s", brief(s), brief(again))
		}
	})
}
