package calc

import (
	"fmt"
	"math"
	"slices"
	"strings"
	"testing"
	"time"

	"quadrille/api"
)

const (
	least = math.MinInt64
	most  = math.MaxInt64
)

// within fails the test if the work goes on for far longer than it can.
func within(t *testing.T, what string, work func()) {
	t.Helper()
	done := make(chan struct{})
	go func() {
		defer close(done)
		work()
	}()
	select {
	case <-done:
	case <-time.After(60 * time.Second):
		t.Fatalf("P0.1: %s is not done", what)
	}
}

// num, txt, bad, yes, no and blank are values, made apart from the program's own.
func num(n int64) api.Value { return api.Value{Kind: api.VInt, Int: n} }

func txt(s string) api.Value { return api.Value{Kind: api.VText, Text: s} }

func bad(e int64) api.Value { return api.Value{Kind: api.VErr, Int: e} }

func yes() api.Value { return api.Value{Kind: api.VBool, Int: 1} }

func no() api.Value { return api.Value{Kind: api.VBool} }

func blank() api.Value { return api.Value{} }

func values(all ...api.Value) []api.Value { return all }

func xs(count int) string { return strings.Repeat("x", count) }

// brief writes a value without the most of a long text.
func brief(v api.Value) string {
	return fmt.Sprintf("{kind %d, %d, %.40q of %d bytes}", v.Kind, v.Int, v.Text, len(v.Text))
}

// briefly writes values.
func briefly(all []api.Value) string {
	parts := make([]string, len(all))
	for i, v := range all {
		parts[i] = brief(v)
	}
	return "(" + strings.Join(parts, ", ") + ")"
}

func checkCall(t *testing.T, promise string, f int, args []api.Value, want api.Value, wantE api.Errno) {
	t.Helper()
	if v, e := Call(f, args...); v != want || e != wantE {
		t.Errorf("%s: function %d of %s: %s, %d; want %s, %d", promise, f, briefly(args), brief(v), e, brief(want), wantE)
	}
}

// worthOf checks one call of a function that is not refused.
func worthOf(t *testing.T, f int, want api.Value, args ...api.Value) {
	t.Helper()
	checkCall(t, "P14.2", f, args, want, api.OK)
}

// refusedBy checks one call that is refused.
func refusedBy(t *testing.T, f int, want api.Errno, args ...api.Value) {
	t.Helper()
	checkCall(t, "P14.1", f, args, api.Value{}, want)
}

func checkUn(t *testing.T, op int, v, want api.Value) {
	t.Helper()
	if got := Un(op, v); got != want {
		t.Errorf("P14.4: Un(%d, %s): %s; want %s", op, brief(v), brief(got), brief(want))
	}
}

func checkBin(t *testing.T, op int, x, y, want api.Value) {
	t.Helper()
	if got := Bin(op, x, y); got != want {
		t.Errorf("P14.4: Bin(%d, %s, %s): %s; want %s", op, brief(x), brief(y), brief(got), brief(want))
	}
}

func TestNumbersOfTheDocumentsExamples(t *testing.T) {
	worthOf(t, api.FAbs, bad(api.ENum), num(least))
	worthOf(t, api.FAbs, num(7), txt("-7"))
	worthOf(t, api.FAbs, bad(api.EValue), txt("x"))
	worthOf(t, api.FAbs, num(0), blank())
	worthOf(t, api.FMod, num(1), num(-7), num(2))
	worthOf(t, api.FMod, num(-1), num(7), num(-2))
	worthOf(t, api.FMod, num(0), num(least), num(-1))
	worthOf(t, api.FMod, bad(api.EDiv), num(1), num(0))
	worthOf(t, api.FQuotient, num(-3), num(-7), num(2))
	worthOf(t, api.FQuotient, bad(api.ENum), num(least), num(-1))
	worthOf(t, api.FGcd, bad(api.ENum), num(least), num(0))
	worthOf(t, api.FGcd, num(6), num(12), num(-18))
	worthOf(t, api.FLcm, num(12), num(4), num(6))
	worthOf(t, api.FLcm, bad(api.ENum), num(1<<62), num(3))
	worthOf(t, api.FFact, num(2432902008176640000), num(20))
	worthOf(t, api.FFact, bad(api.ENum), num(21))
	worthOf(t, api.FBitand, num(2), num(6), num(3))
	worthOf(t, api.FBitor, bad(api.ENum), num(-1), num(0))
	worthOf(t, api.FMod, bad(api.ENA), bad(api.ENA), bad(api.ERef))
	worthOf(t, api.FMod, bad(api.ERef), txt("x"), bad(api.ERef))
	worthOf(t, api.FMod, bad(api.EValue), txt("x"), txt("y"))
	worthOf(t, api.FClamp, num(3), num(5), num(1), num(3))
	worthOf(t, api.FClamp, bad(api.ENum), num(5), num(3), num(1))
	worthOf(t, api.FN, num(0), txt("5"))
	worthOf(t, api.FN, num(1), yes())
	worthOf(t, api.FValue, num(1), yes())
}

func TestTextsOfTheDocumentsExamples(t *testing.T) {
	worthOf(t, api.FLeft, txt("a"), txt("aé"))
	worthOf(t, api.FLeft, bad(api.EValue), txt("ab"), num(-1))
	worthOf(t, api.FMid, txt("bc"), txt("abc"), num(2), num(9))
	worthOf(t, api.FRight, txt("23"), num(123), num(2))
	worthOf(t, api.FFind, num(4), txt("b"), txt("abab"), num(3))
	worthOf(t, api.FFind, bad(api.EValue), txt("x"), txt("a"))
	worthOf(t, api.FFind, num(3), txt(""), txt("ab"), num(3))
	worthOf(t, api.FSubstitute, txt("a--b--"), txt("aXbX"), txt("X"), txt("--"))
	worthOf(t, api.FReplace, txt("aXd"), txt("abcd"), num(2), num(2), txt("X"))
	worthOf(t, api.FReplace, txt("abc"), txt("ab"), num(9), num(1), txt("c"))
	worthOf(t, api.FRept, txt("ababab"), txt("ab"), num(3))
	worthOf(t, api.FRept, bad(api.EValue), txt("ab"), num(20000))
	worthOf(t, api.FExact, no(), txt("a"), txt("A"))
	worthOf(t, api.FExact, yes(), num(1), txt("1"))
	worthOf(t, api.FT, txt(""), num(5))
	worthOf(t, api.FText, txt("-5"), num(-5))
}

func TestAskingOfTheDocumentsExamples(t *testing.T) {
	worthOf(t, api.FIsnumber, no(), txt("5"))
	worthOf(t, api.FIsblank, no(), txt(""))
	worthOf(t, api.FIserror, yes(), bad(api.ENA))
	worthOf(t, api.FIsna, no(), bad(api.ERef))
}

func TestOperationsOfTheDocumentsExamples(t *testing.T) {
	checkUn(t, api.UMinus, num(least), bad(api.ENum))
	checkUn(t, api.UPlus, txt("a"), bad(api.EValue))
	checkUn(t, api.UPercent, num(250), num(2))
	checkUn(t, api.UPercent, num(-250), num(-2))
	checkBin(t, api.BPow, num(0), num(0), num(1))
	checkBin(t, api.BPow, num(2), num(-1), bad(api.ENum))
	checkBin(t, api.BPow, num(-2), num(63), num(least))
	checkBin(t, api.BPow, num(2), num(63), bad(api.ENum))
	checkBin(t, api.BDiv, num(-7), num(2), num(-3))
	checkBin(t, api.BDiv, num(1), blank(), bad(api.EDiv))
	checkBin(t, api.BAdd, bad(api.ENA), bad(api.ERef), bad(api.ENA))
	checkBin(t, api.BJoin, num(1), yes(), txt("1TRUE"))
	checkBin(t, api.BEq, txt("a"), txt("A"), no())
	checkBin(t, api.BLess, num(9), txt("1"), yes())
	checkBin(t, api.BEq, blank(), txt(""), yes())
	checkBin(t, 0, bad(api.ENA), num(1), bad(api.EValue))
}

func TestRefusedOfTheDocumentsExamples(t *testing.T) {
	refusedBy(t, api.FAbs, api.ErrArg)
	refusedBy(t, api.FAbs, api.ErrArg, num(1), num(2))
	refusedBy(t, api.FSum, api.ErrArg, num(1))
	refusedBy(t, api.FAbs, api.ErrValue, api.Value{Kind: 9})
}

// wrongValues gives what is no value: kinds that there are none of, and for each kind what its values have not.
func wrongValues() []api.Value {
	return []api.Value{
		{Kind: -1}, {Kind: 5}, {Kind: 9}, {Kind: least}, {Kind: most}, {Kind: 1<<32 + 1, Int: 5},
		{Int: 1}, {Text: "x"}, {Kind: api.VInt, Int: 5, Text: "5"},
		{Kind: api.VBool, Int: 2}, {Kind: api.VBool, Int: -1}, {Kind: api.VBool, Text: "FALSE"},
		{Kind: api.VText, Int: 1}, {Kind: api.VText, Int: 5, Text: "5"}, txt(xs(32768)), txt(xs(1 << 20)),
		bad(0), bad(api.ECycle), bad(8), bad(-1), bad(least), bad(most), bad(1<<32 + 6), {Kind: api.VErr, Int: api.ENA, Text: "#N/A"},
	}
}

// TestArgumentsThatMayNotBe lays each of them in each place, beside numbers, errors and others like it.
func TestArgumentsThatMayNotBe(t *testing.T) {
	for _, r := range documentRows(t) {
		for count := r.fewest; count <= len(r.asks); count++ {
			for at := range count {
				for _, wrong := range wrongValues() {
					for _, other := range values(num(1), txt("x"), bad(api.EName), bad(api.ENA), blank(), wrong) {
						args := slices.Repeat(values(other), count)
						args[at] = wrong
						refusedBy(t, r.number, api.ErrValue, args...)
					}
				}
			}
		}
	}
}

// TestHowManyArguments asks each function with all numbers of arguments about its own; that is told ahead of arguments that may not be.
func TestHowManyArguments(t *testing.T) {
	for _, r := range documentRows(t) {
		for count := range 9 {
			for _, v := range values(num(1), txt("1"), bad(api.ENA), blank(), api.Value{Kind: 9}, bad(api.ECycle)) {
				want := api.OK
				switch {
				case count < r.fewest || count > len(r.asks):
					want = api.ErrArg
				case count > 0 && !modelMay(v):
					want = api.ErrValue
				}
				if _, e := Call(r.number, slices.Repeat(values(v), count)...); e != want {
					t.Errorf("P14.1: %s of %d times %s: %d; want %d", r.name, count, brief(v), e, want)
				}
			}
		}
		refusedBy(t, r.number, api.ErrArg, make([]api.Value, 1<<20)...)
		refusedBy(t, r.number, api.ErrArg, slices.Repeat(values(api.Value{Kind: 9}), 5)...)
	}
}

// TestFunctionsOfOtherClasses asks for those of the classes that are done elsewhere, and for numbers that are no function's.
func TestFunctionsOfOtherClasses(t *testing.T) {
	others := []int{0, -1, -2, -api.FAbs, -api.FIsna, 77, 78, 1000, 1 << 32, 1<<32 + 1, least, least + 1, most, most - 1}
	for f := api.FIsna + 1; f <= api.Functions; f++ {
		others = append(others, f)
	}
	for _, f := range others {
		for count := range 8 {
			for _, v := range values(num(1), txt("x"), bad(api.ENA), blank(), api.Value{Kind: 9}) {
				refusedBy(t, f, api.ErrArg, slices.Repeat(values(v), count)...)
			}
		}
	}
}

// TestNoArguments: a nil list, none at all and an empty one are the same.
func TestNoArguments(t *testing.T) {
	worthOf(t, api.FNa, bad(api.ENA))
	worthOf(t, api.FNa, bad(api.ENA), []api.Value{}...)
	worthOf(t, api.FNa, bad(api.ENA), []api.Value(nil)...)
	refusedBy(t, api.FNa, api.ErrArg, num(1))
	refusedBy(t, api.FNa, api.ErrArg, api.Value{Kind: 9})
	refusedBy(t, api.FLeft, api.ErrArg, []api.Value(nil)...)
}
