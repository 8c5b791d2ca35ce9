package value

import (
	"fmt"
	"math"
	"math/big"
	"regexp"
	"strings"
	"sync"
	"testing"
	"time"

	"quadrille/api"
)

const (
	least = math.MinInt64
	most  = math.MaxInt64
)

// within fails the test if the work goes on for far longer than it can.
func within(t *testing.T, what string, work func()) {
	t.Helper()
	done := make(chan struct{})
	go func() {
		defer close(done)
		work()
	}()
	select {
	case <-done:
	case <-time.After(20 * time.Second):
		t.Fatalf("P0.1: %s is not done", what)
	}
}

func num(n int64) api.Value { return api.Value{Kind: api.VInt, Int: n} }

func text(s string) api.Value { return api.Value{Kind: api.VText, Text: s} }

func bad(e int64) api.Value { return api.Value{Kind: api.VErr, Int: e} }

func blank() api.Value { return api.Value{} }

func yes() api.Value { return api.Value{Kind: api.VBool, Int: 1} }

func no() api.Value { return api.Value{Kind: api.VBool} }

// brief writes a value without the most of a long text.
func brief(v api.Value) string {
	return fmt.Sprintf("{kind %d, %d, %.60q of %d bytes}", v.Kind, v.Int, v.Text, len(v.Text))
}

func xs(count int) string { return strings.Repeat("x", count) }

// inOrder gives values that are no blanks, each behind the one ahead of it by the order.
func inOrder() []api.Value {
	return []api.Value{
		num(least), num(least + 1), num(-10), num(-9), num(-2), num(-1), num(0), num(1), num(2), num(9), num(10), num(1<<32 + 1), num(1<<53 + 1), num(most - 1), num(most),
		text(""), text("\x00"), text("\x00\x00"), text(" "), text(" 1"), text("#CYCLE!"), text("#N/A"), text("'"), text("+1"), text("-"), text("-0"), text("-1"), text("0"), text("007"), text("1"), text("10"), text("2"), text("="), text("=1"),
		text("FALSE"), text("TRUE"), text("Z"), text("a"), text("ab"), text("b"), text("true"), text(xs(32766)), text(xs(32767)), text("\x7f"), text("\x80"), text("é"), text("\xc3\xa9\x00"), text("\xff"),
		no(), yes(),
		bad(api.EName), bad(api.ENum), bad(api.ERef), bad(api.EValue), bad(api.EDiv), bad(api.ENA),
	}
}

// goodValues gives values that may be, each another one.
func goodValues() []api.Value { return append(inOrder(), blank()) }

// wrongValues gives what is no value: kinds that there are none of, and for each kind what its values have not.
func wrongValues() []api.Value {
	return []api.Value{
		{Kind: -1}, {Kind: 5}, {Kind: 6}, {Kind: least}, {Kind: most}, {Kind: 1 << 32}, {Kind: 1<<32 + 3, Text: "5"}, {Kind: -4, Int: api.ENA}, {Kind: 9, Int: 3, Text: "x"}, {Kind: 5, Text: "TRUE"},
		{Int: 1}, {Int: -1}, {Int: least}, {Int: most}, {Text: "x"}, {Text: "\x00"}, {Text: "0"}, {Text: "TRUE"}, {Int: 1, Text: "1"}, {Int: 1 << 32},
		{Kind: api.VInt, Text: "x"}, {Kind: api.VInt, Int: 5, Text: "5"}, {Kind: api.VInt, Text: " "}, {Kind: api.VInt, Int: least, Text: "\x00"},
		{Kind: api.VBool, Int: 2}, {Kind: api.VBool, Int: -1}, {Kind: api.VBool, Int: least}, {Kind: api.VBool, Int: most}, {Kind: api.VBool, Int: 1 << 32}, {Kind: api.VBool, Int: 1<<32 + 1},
		{Kind: api.VBool, Text: "FALSE"}, {Kind: api.VBool, Int: 1, Text: "TRUE"}, {Kind: api.VBool, Int: 2, Text: "x"},
		{Kind: api.VText, Int: 1}, {Kind: api.VText, Int: -1, Text: "x"}, {Kind: api.VText, Int: 5, Text: "5"}, {Kind: api.VText, Int: 1, Text: "TRUE"}, {Kind: api.VText, Int: 1 << 32, Text: "x"},
		text(xs(32768)), text(xs(32769)), text(strings.Repeat("7", 32768)), text(strings.Repeat("\x00", 65536)), text(xs(1 << 20)), {Kind: api.VText, Int: 1, Text: xs(32768)},
		bad(0), bad(api.ECycle), bad(8), bad(-1), bad(-api.ENA), bad(least), bad(most), bad(1<<32 + 1), bad(1<<32 + 6),
		{Kind: api.VErr, Int: api.EName, Text: "x"}, {Kind: api.VErr, Int: api.ENA, Text: "#N/A"}, {Kind: api.VErr, Int: api.ECycle, Text: "#CYCLE!"}, {Kind: api.VErr, Int: api.EValue, Text: " "}, {Kind: api.VErr, Text: "#REF!"},
	}
}

func TestMay(t *testing.T) {
	for _, v := range goodValues() {
		if !May(v) {
			t.Errorf("P4.1: May(%s): false", brief(v))
		}
	}
	for _, v := range wrongValues() {
		if May(v) {
			t.Errorf("P4.1: May(%s): true", brief(v))
		}
	}
}

func TestMayOfEachErrorAndTruth(t *testing.T) {
	for n := int64(-300); n <= 300; n++ {
		if got := May(bad(n)); got != (1 <= n && n <= 6) {
			t.Errorf("P4.1: May of the error %d: %v", n, got)
		}
		if got := May(api.Value{Kind: api.VBool, Int: n}); got != (n == 0 || n == 1) {
			t.Errorf("P4.1: May of the truth %d: %v", n, got)
		}
		if got := May(api.Value{Kind: int(n)}); got != (0 <= n && n <= 3) {
			t.Errorf("P4.1: May of kind %d with nothing: %v", n, got)
		}
	}
}

func TestSame(t *testing.T) {
	all := append(goodValues(), wrongValues()...)
	for i, a := range all {
		for k, b := range all {
			// The text is a copy, so that its address tells nothing.
			b.Text = strings.Clone(b.Text)
			if got := Same(a, b); got != (i == k) {
				t.Errorf("P4.2: Same(%s, %s): %v", brief(a), brief(b), got)
			}
		}
	}
}

// as is what a value is as a number, a text, a truth, and shown.
type as struct {
	v     api.Value
	n     int64
	nErr  int
	s     string
	sErr  int
	b     bool
	bErr  int
	shown string
}

func checkAs(t *testing.T, want as) {
	t.Helper()
	if n, e := Number(want.v); n != want.n || e != want.nErr {
		t.Errorf("P4.3: Number(%s): %d, %d; want %d, %d", brief(want.v), n, e, want.n, want.nErr)
	}
	if s, e := AsText(want.v); s != want.s || e != want.sErr {
		t.Errorf("P4.4: AsText(%s): %.60q, %d; want %.60q, %d", brief(want.v), s, e, want.s, want.sErr)
	}
	if b, e := Truth(want.v); b != want.b || e != want.bErr {
		t.Errorf("P4.5: Truth(%s): %v, %d; want %v, %d", brief(want.v), b, e, want.b, want.bErr)
	}
	if s := Show(want.v); s != want.shown {
		t.Errorf("P4.7: Show(%s): %.60q; want %.60q", brief(want.v), s, want.shown)
	}
}

func TestBlanksNumbersAndTruthsAs(t *testing.T) {
	for _, want := range []as{
		{v: blank()},
		{v: num(0), s: "0", shown: "0"},
		{v: num(1), n: 1, s: "1", b: true, shown: "1"},
		{v: num(-1), n: -1, s: "-1", b: true, shown: "-1"},
		{v: num(-2), n: -2, s: "-2", b: true, shown: "-2"},
		{v: num(12345), n: 12345, s: "12345", b: true, shown: "12345"},
		{v: num(1 << 32), n: 1 << 32, s: "4294967296", b: true, shown: "4294967296"},
		{v: num(most), n: most, s: "9223372036854775807", b: true, shown: "9223372036854775807"},
		{v: num(least), n: least, s: "-9223372036854775808", b: true, shown: "-9223372036854775808"},
		{v: no(), s: "FALSE", shown: "FALSE"},
		{v: yes(), n: 1, s: "TRUE", b: true, shown: "TRUE"},
	} {
		checkAs(t, want)
	}
}

func TestTextsAs(t *testing.T) {
	numbers := map[string]int64{"0": 0, "5": 5, "-7": -7, "10": 10, "9223372036854775807": most, "-9223372036854775808": least, "-9223372036854775807": -most, "4294967296": 1 << 32}
	for s, n := range numbers {
		checkAs(t, as{v: text(s), n: n, s: s, bErr: api.EValue, shown: s})
	}
	checkAs(t, as{v: text("TRUE"), nErr: api.EValue, s: "TRUE", b: true, shown: "TRUE"})
	checkAs(t, as{v: text("FALSE"), nErr: api.EValue, s: "FALSE", shown: "FALSE"})
	for _, s := range []string{
		"", "-0", "+0", "007", "00", "-01", "+", "-", "--1", "+1", " 7", "7 ", "\t7", "7\n", "7\x00", "1 000", "1,000", "1.0", "1e3", "0x10", "1_000", "٣", "９", "9223372036854775808", "-9223372036854775809", "18446744073709551616", "99999999999999999999",
		"true", "false", "True", "TRUE ", " TRUE", "TRUEX", "TRU", "FALSE\x00", "T", "=1", "'1", "'", "=", "#N/A", "#CYCLE!", "x", "\xff", "é", xs(32767), strings.Repeat("7", 32767), "-" + strings.Repeat("7", 32766), strings.Repeat("0", 32767),
	} {
		checkAs(t, as{v: text(s), nErr: api.EValue, s: s, bErr: api.EValue, shown: s})
	}
}

func TestErrorsAs(t *testing.T) {
	for e, shown := range map[int]string{api.EName: "#NAME?", api.ENum: "#NUM!", api.ERef: "#REF!", api.EValue: "#VALUE!", api.EDiv: "#DIV/0!", api.ENA: "#N/A"} {
		checkAs(t, as{v: bad(int64(e)), nErr: e, sErr: e, bErr: e, shown: shown})
	}
}

func TestWrongValuesAs(t *testing.T) {
	for _, v := range wrongValues() {
		want := as{v: v, nErr: api.EValue, sErr: api.EValue, bErr: api.EValue, shown: "#VALUE!"}
		if v == bad(api.ECycle) {
			want.shown = "#CYCLE!"
		}
		checkAs(t, want)
	}
}

// modelNumber tells by the form's regular expression and by unbounded numbers whether a text is a number of 64 bits.
func modelNumber(form *regexp.Regexp, s string) (int64, bool) {
	if !form.MatchString(s) {
		return 0, false
	}
	n, _ := new(big.Int).SetString(s, 10)
	return n.Int64(), n.IsInt64()
}

func oneForm() *regexp.Regexp { return regexp.MustCompile(`\A(0|-?[1-9][0-9]*)\z`) }

// shortTexts gives all texts of at most some bytes out of an alphabet.
func shortTexts(alphabet string, size int) []string {
	all := []string{""}
	for from := 0; size > 0; size-- {
		to := len(all)
		for _, s := range all[from:to] {
			for i := range len(alphabet) {
				all = append(all, s+alphabet[i:i+1])
			}
		}
		from = to
	}
	return all
}

func TestNumberOfAllShortTexts(t *testing.T) {
	form := oneForm()
	for _, s := range shortTexts("-+019 .e\x00", 5) {
		n, is := modelNumber(form, s)
		want := 0
		if !is {
			n, want = 0, api.EValue
		}
		if got, e := Number(text(s)); got != n || e != want {
			t.Errorf("P4.3: Number of the text %q: %d, %d; want %d, %d", s, got, e, n, want)
		}
	}
}

func TestNumberAtTheEndsOf64Bits(t *testing.T) {
	form := oneForm()
	for _, end := range []int64{least, most} {
		for off := int64(-300); off <= 300; off++ {
			s := new(big.Int).Add(big.NewInt(end), big.NewInt(off)).String()
			n, is := modelNumber(form, s)
			want, worth := 0, num(n)
			if !is {
				n, want, worth = 0, api.EValue, text(s)
			}
			if got, e := Number(text(s)); got != n || e != want {
				t.Errorf("P4.3: Number of the text %q: %d, %d; want %d, %d", s, got, e, n, want)
			}
			checkLiteral(t, s, worth)
		}
	}
}

func sign(n int) int {
	if n < 0 {
		return -1
	}
	if n > 0 {
		return 1
	}
	return 0
}

func checkCompare(t *testing.T, a, b api.Value, want int) {
	t.Helper()
	if got := Compare(a, b); got != want {
		t.Errorf("P4.6: Compare(%s, %s): %d; want %d", brief(a), brief(b), got, want)
	}
	if got := Compare(b, a); got != -want {
		t.Errorf("P4.6: Compare(%s, %s): %d; want %d", brief(b), brief(a), got, -want)
	}
}

func TestCompareWithoutBlanks(t *testing.T) {
	all := inOrder()
	for i, a := range all {
		for k, b := range all {
			b.Text = strings.Clone(b.Text)
			checkCompare(t, a, b, sign(i-k))
		}
	}
}

func TestCompareWithBlanks(t *testing.T) {
	checkCompare(t, blank(), blank(), 0)
	for _, v := range inOrder() {
		want := -1
		switch {
		case v == num(0) || v == text("") || v == no():
			want = 0
		case v.Kind == api.VInt && v.Int < 0:
			want = 1
		}
		checkCompare(t, blank(), v, want)
	}
}

func TestCompareOfWrongValues(t *testing.T) {
	wrong := wrongValues()
	for _, w := range wrong {
		for _, v := range goodValues() {
			checkCompare(t, w, v, Compare(bad(api.EValue), v))
		}
		for _, v := range wrong {
			checkCompare(t, w, v, 0)
		}
		checkCompare(t, w, bad(api.EValue), 0)
		checkCompare(t, w, bad(api.ERef), 1)
		checkCompare(t, w, bad(api.EDiv), -1)
		checkCompare(t, w, blank(), 1)
		checkCompare(t, w, yes(), 1)
	}
}

func TestCompareOfTextsIsBytewise(t *testing.T) {
	long := xs(32766)
	checkCompare(t, text(long+"a"), text(long+"b"), -1)
	checkCompare(t, text(long), text(long+"\x00"), -1)
	all := shortTexts("\x00aA\xff0", 3)
	for _, a := range all {
		for _, b := range all {
			checkCompare(t, text(a), text(b), strings.Compare(a, b))
		}
	}
}

func checkLiteral(t *testing.T, s string, want api.Value) {
	t.Helper()
	if v, ok := Literal(s); v != want || !ok {
		t.Errorf("P4.8: Literal(%.60q) of %d bytes: %s, %v; want %s, true", s, len(s), brief(v), ok, brief(want))
	}
}

func TestLiteral(t *testing.T) {
	for s, want := range map[string]api.Value{
		"": blank(), "0": num(0), "5": num(5), "-5": num(-5), "9223372036854775807": num(most), "-9223372036854775808": num(least), "TRUE": yes(), "FALSE": no(),
		"#NAME?": bad(api.EName), "#NUM!": bad(api.ENum), "#REF!": bad(api.ERef), "#VALUE!": bad(api.EValue), "#DIV/0!": bad(api.EDiv), "#N/A": bad(api.ENA),
		"'": text(""), "''": text("'"), "'=": text("="), "'=1": text("=1"), "'5": text("5"), "'TRUE": text("TRUE"), "'#N/A": text("#N/A"), "'x": text("x"), "' ": text(" "), "'\x00": text("\x00"), "'\xff": text("\xff"),
	} {
		checkLiteral(t, s, want)
	}
}

func TestLiteralOfOtherTexts(t *testing.T) {
	for _, s := range []string{
		"-0", "+0", "007", "00", "-01", "-", "+", "+1", " 7", "7 ", "\t7", "7\n", "7\x00", "1e3", "1.0", "1,000", "9223372036854775808", "-9223372036854775809", "18446744073709551616",
		"true", "false", "True", "TRUE ", " TRUE", "TRUEFALSE", "TRU", "FALS", "#CYCLE!", "#n/a", "#N/A ", " #N/A", "#N/A!", "#NAME", "#NAME?!", "#", "#name?", "#NULL!",
		" =1", " '", "x", "x=", "x'", "\"x\"", "\x00", "\x00=", "\xff", "é", "A1", "SUM(A1)", "\u2019x",
	} {
		checkLiteral(t, s, text(s))
	}
}

func TestLiteralOfFormulas(t *testing.T) {
	for _, s := range []string{"=", "==", "=1", "='", "=x", "=\x00", "= 1", "=TRUE", "=#N/A", "=" + xs(32767), "=" + xs(65536), "=" + xs(1<<20)} {
		if v, ok := Literal(s); v != blank() || ok {
			t.Errorf("P4.8: Literal(%.60q) of %d bytes: %s, %v; want a blank, false", s, len(s), brief(v), ok)
		}
	}
}

func TestLiteralOfAllShortTexts(t *testing.T) {
	form := oneForm()
	for _, s := range shortTexts("=' -019T", 4) {
		n, is := modelNumber(form, s)
		switch {
		case s == "":
			checkLiteral(t, s, blank())
		case s[0] == '=':
			if v, ok := Literal(s); v != blank() || ok {
				t.Errorf("P4.8: Literal(%q): %v, %v; want a blank, false", s, v, ok)
			}
		case s[0] == '\'':
			checkLiteral(t, s, text(s[1:]))
		case is:
			checkLiteral(t, s, num(n))
		default:
			checkLiteral(t, s, text(s))
		}
	}
}

func TestLiteralOfLongTexts(t *testing.T) {
	for _, fill := range []string{"x", "7", "0", " ", "'", "\x00", "\xff", "#"} {
		for _, size := range []int{32766, 32767, 32768, 32769, 65535, 65536, 65537, 1 << 20} {
			body := strings.Repeat(fill, size)
			want := text(body)
			if size > 32767 {
				want = bad(api.EValue)
			}
			checkLiteral(t, "'"+body, want)
			if fill != "'" {
				checkLiteral(t, body, want)
			}
		}
	}
	checkLiteral(t, "-"+strings.Repeat("7", 32766), text("-"+strings.Repeat("7", 32766)))
	checkLiteral(t, "-"+strings.Repeat("7", 32767), bad(api.EValue))
	checkLiteral(t, "TRUE"+xs(32764), bad(api.EValue))
	checkLiteral(t, "#N/A"+xs(32763), text("#N/A"+xs(32763)))
}

func TestLiteralOfTextsFarLongerThanACell(t *testing.T) {
	within(t, "Literal of texts of 64 MiB", func() {
		for _, fill := range []string{"x", "7", "0", "'", "é"} {
			body := strings.Repeat(fill, 1<<26/len(fill))
			checkLiteral(t, body, bad(api.EValue))
			checkLiteral(t, "'"+body, bad(api.EValue))
			checkLiteral(t, "-"+body, bad(api.EValue))
			if v, ok := Literal("=" + body); v != blank() || ok {
				t.Errorf("P4.8: Literal of a = and 64 MiB of %q: %s, %v", fill, brief(v), ok)
			}
		}
	})
}

func TestLongTextsAreTakenForWrong(t *testing.T) {
	within(t, "values of texts of 64 MiB", func() {
		body := strings.Repeat("7", 1<<26)
		checkAs(t, as{v: text(body), nErr: api.EValue, sErr: api.EValue, bErr: api.EValue, shown: "#VALUE!"})
		checkCompare(t, text(body), text(body[1:]), 0)
		if Same(text(body), text(body[1:])) || !Same(text(body), text(strings.Clone(body))) {
			t.Errorf("P4.2: Same of texts of 64 MiB")
		}
	})
}

func TestLiteralOfWhatIsShown(t *testing.T) {
	for _, v := range goodValues() {
		if v.Kind != api.VText {
			checkLiteral(t, Show(v), v)
		}
	}
	for n := int64(-2000); n <= 2000; n++ {
		checkLiteral(t, Show(num(n)), num(n))
		checkLiteral(t, Show(num(least+2000+n)), num(least+2000+n))
		checkLiteral(t, Show(num(most-2000+n)), num(most-2000+n))
	}
	checkLiteral(t, Show(bad(api.ECycle)), text("#CYCLE!"))
}

// told is all that the calls answer of two values and of a text.
type told struct {
	may, same, truth, ok             bool
	number                           int64
	order, noNumber, noText, noTruth int
	asText, shown                    string
	worth                            api.Value
}

func tell(a, b api.Value) told {
	var all told
	all.may, all.same = May(a), Same(a, b)
	all.number, all.noNumber = Number(a)
	all.asText, all.noText = AsText(a)
	all.truth, all.noTruth = Truth(a)
	all.order, all.shown = Compare(a, b), Show(a)
	all.worth, all.ok = Literal(b.Text)
	return all
}

func TestAnswersHangOnArgumentsAlone(t *testing.T) {
	var values []api.Value
	for _, v := range append(goodValues(), wrongValues()...) {
		if len(v.Text) < 100 {
			values = append(values, v)
		}
	}
	first := make(map[[2]api.Value]told)
	for _, a := range values {
		for _, b := range values {
			first[[2]api.Value{a, b}] = tell(a, b)
		}
	}
	var all sync.WaitGroup
	for range 4 {
		all.Go(func() {
			for i := range values {
				for k := range values {
					// Backwards, so that another call came ahead of each.
					a, b := values[len(values)-1-i], values[len(values)-1-k]
					if got := tell(a, b); got != first[[2]api.Value{a, b}] {
						t.Errorf("P4.9: of %+v and %+v: %+v, then %+v", a, b, first[[2]api.Value{a, b}], got)
					}
				}
			}
		})
	}
	all.Wait()
}
