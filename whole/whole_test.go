package whole

import (
	"math"
	"math/big"
	"strings"
	"testing"
	"time"

	"quadrille/api"
)

const (
	least = math.MinInt64
	most  = math.MaxInt64
)

// small and great are types of a program's own: Int takes them too.
type small int32
type great int64

// around gives numbers near the places where something may break: 0, powers of 2 and 10, the roots and the ends of 64 bits.
func around() []int64 {
	seen := map[int64]int{}
	var ns []int64
	add := func(n int64) {
		if seen[n] == 0 {
			seen[n] = 1
			ns = append(ns, n)
		}
	}
	centres := []int64{0, 6, 12, 100, 1 << 15, 1 << 16, 46341, 1 << 31, 1 << 32, 3037000500, 1000000000000, 1 << 62, 4611686018427387847, 6148914691236517205}
	for _, c := range centres {
		for d := int64(-3); d <= 3; d++ {
			add(c + d)
			add(-(c + d))
		}
	}
	for d := range int64(4) {
		add(least + d)
		add(most - d)
	}
	return ns
}

// fits64 gives what an unbounded number should come to as one of 64 bits.
func fits64(n *big.Int) (int64, api.Errno) {
	if !n.IsInt64() {
		return 0, api.ErrOver
	}
	return n.Int64(), api.OK
}

// within fails the test if the work goes on for far longer than some hundred operations can.
func within(t *testing.T, what string, work func()) {
	t.Helper()
	done := make(chan struct{})
	go func() {
		defer close(done)
		work()
	}()
	select {
	case <-done:
	case <-time.After(20 * time.Second):
		t.Fatalf("P1.6: %s is not done", what)
	}
}

func sameSum[T Int](t *testing.T, name string, a, b T, got T, ok bool, exact *big.Int) {
	t.Helper()
	want := T(exact.Int64())
	wantOk := exact.IsInt64() && big.NewInt(int64(want)).Cmp(exact) == 0
	if !wantOk {
		want = 0
	}
	if got != want || ok != wantOk {
		t.Errorf("P1.1: %s[%T](%d, %d): %d, %v; want %d, %v", name, a, a, b, got, ok, want, wantOk)
	}
}

// checkSums holds sums of one type against unbounded ones, for each pair of those numbers that the type has.
func checkSums[T Int](t *testing.T, ns []int64) {
	t.Helper()
	for _, m := range ns {
		for _, n := range ns {
			a, b := T(m), T(n)
			if int64(a) != m || int64(b) != n {
				continue
			}
			x, y := big.NewInt(m), big.NewInt(n)
			sum, ok := Add(a, b)
			sameSum(t, "Add", a, b, sum, ok, new(big.Int).Add(x, y))
			diff, ok := Sub(a, b)
			sameSum(t, "Sub", a, b, diff, ok, new(big.Int).Sub(x, y))
			product, ok := Mul(a, b)
			sameSum(t, "Mul", a, b, product, ok, new(big.Int).Mul(x, y))
		}
	}
}

func TestSumsOfAllTypes(t *testing.T) {
	ns := append(around(), math.MinInt32, math.MinInt32+1, math.MaxInt32, math.MaxInt32-1)
	checkSums[int32](t, ns)
	checkSums[int64](t, ns)
	checkSums[small](t, ns)
	checkSums[great](t, ns)
}

func TestSumsAtTheEnds(t *testing.T) {
	for _, c := range []struct {
		name string
		f    func(a, b int64) (int64, bool)
		a, b int64
		want int64
		ok   bool
	}{
		{"Add", Add[int64], 2, 3, 5, true},
		{"Add", Add[int64], most - 1, 1, most, true},
		{"Add", Add[int64], most, 1, 0, false},
		{"Add", Add[int64], least + 1, -1, least, true},
		{"Add", Add[int64], least, -1, 0, false},
		{"Add", Add[int64], least, least, 0, false},
		{"Add", Add[int64], least, most, -1, true},
		{"Sub", Sub[int64], 2, 3, -1, true},
		{"Sub", Sub[int64], 0, least, 0, false},
		{"Sub", Sub[int64], -1, least, most, true},
		{"Sub", Sub[int64], least, least, 0, true},
		{"Sub", Sub[int64], least, 1, 0, false},
		{"Mul", Mul[int64], -6, 7, -42, true},
		{"Mul", Mul[int64], -1, least, 0, false},
		{"Mul", Mul[int64], least, -1, 0, false},
		{"Mul", Mul[int64], least, 1, least, true},
		{"Mul", Mul[int64], 0, least, 0, true},
		{"Mul", Mul[int64], 1 << 32, 1 << 31, 0, false},
		{"Mul", Mul[int64], 1 << 32, -1 << 31, least, true},
		{"Mul", Mul[int64], 1 << 32, 1 << 32, 0, false},
	} {
		if n, ok := c.f(c.a, c.b); n != c.want || ok != c.ok {
			t.Errorf("P1.1: %s(%d, %d): %d, %v; want %d, %v", c.name, c.a, c.b, n, ok, c.want, c.ok)
		}
	}
}

func TestNarrowSumsAtTheEnds(t *testing.T) {
	if n, ok := Add[int32](math.MaxInt32, 1); ok || n != 0 {
		t.Errorf("P1.1: %d, %v", n, ok)
	}
	if n, ok := Add[int64](math.MaxInt32, 1); !ok || n != 1<<31 {
		t.Errorf("P1.1: %d, %v", n, ok)
	}
	if n, ok := Sub[small](math.MinInt32, 1); ok || n != 0 {
		t.Errorf("P1.1: %d, %v", n, ok)
	}
	if n, ok := Mul[int32](math.MinInt32, -1); ok || n != 0 {
		t.Errorf("P1.1: %d, %v", n, ok)
	}
	if n, ok := Mul[int32](-1, math.MinInt32); ok || n != 0 {
		t.Errorf("P1.1: %d, %v", n, ok)
	}
	if n, ok := Mul[int32](1<<16, -1<<15); !ok || n != math.MinInt32 {
		t.Errorf("P1.1: %d, %v", n, ok)
	}
}

// pair is a call of two numbers and what it should answer.
type pair struct {
	a, b int64
	want int64
	e    api.Errno
}

func checkPairs(t *testing.T, name string, f func(a, b int64) (int64, api.Errno), pairs []pair) {
	t.Helper()
	for _, c := range pairs {
		if n, e := f(c.a, c.b); n != c.want || e != c.e {
			t.Errorf("%s(%d, %d): %d, %d; want %d, %d", name, c.a, c.b, n, e, c.want, c.e)
		}
	}
}

func TestQuo(t *testing.T) {
	checkPairs(t, "P1.2: Quo", Quo, []pair{
		{7, 2, 3, 0}, {-7, 2, -3, 0}, {7, -2, -3, 0}, {-7, -2, 3, 0}, {1, 2, 0, 0}, {-1, 2, 0, 0}, {0, 5, 0, 0},
		{7, 0, 0, api.ErrZero}, {0, 0, 0, api.ErrZero}, {least, 0, 0, api.ErrZero},
		{least, -1, 0, api.ErrOver}, {least, 1, least, 0}, {least + 1, -1, most, 0}, {most, -1, -most, 0}, {least, least, 1, 0}, {most, least, 0, 0},
	})
}

func TestMod(t *testing.T) {
	checkPairs(t, "P1.2: Mod", Mod, []pair{
		{7, 3, 1, 0}, {-7, 3, 2, 0}, {7, -3, -2, 0}, {-7, -3, -1, 0}, {6, 3, 0, 0}, {-6, 3, 0, 0}, {6, -3, 0, 0}, {0, -3, 0, 0},
		{1, 0, 0, api.ErrZero}, {0, 0, 0, api.ErrZero}, {least, 0, 0, api.ErrZero},
		{least, -1, 0, 0}, {least, most, most - 1, 0}, {most, least, -1, 0}, {-1, most, most - 1, 0}, {1, least, least + 1, 0},
	})
}

func TestQuoAndModAgainstUnbounded(t *testing.T) {
	for _, a := range around() {
		for _, b := range around() {
			if b == 0 {
				continue
			}
			x, y := big.NewInt(a), big.NewInt(b)
			quo, rest := new(big.Int).QuoRem(x, y, new(big.Int))
			want, e := fits64(quo)
			checkPairs(t, "P1.2: Quo", Quo, []pair{{a, b, want, e}})
			if rest.Sign() != 0 && rest.Sign() != y.Sign() {
				rest.Add(rest, y)
			}
			checkPairs(t, "P1.2: Mod", Mod, []pair{{a, b, rest.Int64(), 0}})
		}
	}
}

func TestPow(t *testing.T) {
	checkPairs(t, "P1.3: Pow", Pow, []pair{
		{2, 10, 1024, 0}, {-3, 3, -27, 0}, {-3, 4, 81, 0}, {10, 18, 1000000000000000000, 0}, {10, 19, 0, api.ErrOver},
		{0, 0, 1, 0}, {0, 1, 0, 0}, {0, most, 0, 0}, {0, -1, 0, api.ErrOver}, {0, least, 0, api.ErrOver},
		{1, 0, 1, 0}, {1, most, 1, 0}, {1, -1, 0, api.ErrOver}, {-1, -2, 0, api.ErrOver}, {2, -1, 0, api.ErrOver},
		{-1, 0, 1, 0}, {-1, 1, -1, 0}, {-1, 2, 1, 0}, {-1, 1 << 62, 1, 0}, {-1, most, -1, 0},
		{2, 62, 1 << 62, 0}, {2, 63, 0, api.ErrOver}, {2, 64, 0, api.ErrOver}, {2, 65, 0, api.ErrOver}, {2, most, 0, api.ErrOver},
		{-2, 62, 1 << 62, 0}, {-2, 63, least, 0}, {-2, 64, 0, api.ErrOver}, {-2, most, 0, api.ErrOver},
		{-8, 21, least, 0}, {8, 21, 0, api.ErrOver}, {3, 39, 4052555153018976267, 0}, {3, 40, 0, api.ErrOver},
		{3037000499, 2, 9223372030926249001, 0}, {3037000500, 2, 0, api.ErrOver},
		{most, 0, 1, 0}, {least, 0, 1, 0}, {most, 1, most, 0}, {least, 1, least, 0}, {least, 2, 0, api.ErrOver}, {most, most, 0, api.ErrOver},
		{1 << 32, 2, 0, api.ErrOver}, {1 << 16, 4, 0, api.ErrOver}, {least, -1, 0, api.ErrOver},
	})
}

func TestPowAgainstUnbounded(t *testing.T) {
	for _, a := range around() {
		for b := range int64(70) {
			want, e := fits64(new(big.Int).Exp(big.NewInt(a), big.NewInt(b), nil))
			checkPairs(t, "P1.3: Pow", Pow, []pair{{a, b, want, e}})
		}
	}
}

func TestGcd(t *testing.T) {
	checkPairs(t, "P1.4: Gcd", Gcd, []pair{
		{12, 18, 6, 0}, {-12, 18, 6, 0}, {12, -18, 6, 0}, {-12, -18, 6, 0}, {7, 5, 1, 0}, {0, 0, 0, 0}, {0, -5, 5, 0}, {-5, 0, 5, 0},
		{0, least, 0, api.ErrOver}, {least, 0, 0, api.ErrOver}, {least, least, 0, api.ErrOver},
		{least, most, 1, 0}, {least, 6, 2, 0}, {least, -1 << 62, 1 << 62, 0}, {most, most, most, 0}, {0, most, most, 0}, {least + 1, 0, most, 0},
	})
}

func TestLcm(t *testing.T) {
	checkPairs(t, "P1.4: Lcm", Lcm, []pair{
		{4, 6, 12, 0}, {-4, 6, 12, 0}, {4, -6, 12, 0}, {-4, -6, 12, 0}, {7, 7, 7, 0}, {1, -9, 9, 0},
		{0, 0, 0, 0}, {0, 5, 0, 0}, {5, 0, 0, 0}, {0, least, 0, 0}, {least, 0, 0, 0},
		{least, 1, 0, api.ErrOver}, {least, least, 0, api.ErrOver}, {least, -1, 0, api.ErrOver}, {least, 3, 0, api.ErrOver},
		{most, -1, most, 0}, {most, most, most, 0}, {most, 2, 0, api.ErrOver}, {most, most - 1, 0, api.ErrOver}, {most, least, 0, api.ErrOver},
		{1 << 62, 1 << 61, 1 << 62, 0}, {1 << 62, 3, 0, api.ErrOver}, {1 << 32, 1<<32 - 1, 0, api.ErrOver}, {1 << 31, 1<<32 - 1, 9223372034707292160, 0},
	})
}

func TestGcdAndLcmAgainstUnbounded(t *testing.T) {
	for _, a := range around() {
		for _, b := range around() {
			x, y := new(big.Int).Abs(big.NewInt(a)), new(big.Int).Abs(big.NewInt(b))
			gcd := new(big.Int).GCD(nil, nil, x, y)
			want, e := fits64(gcd)
			checkPairs(t, "P1.4: Gcd", Gcd, []pair{{a, b, want, e}})
			lcm := new(big.Int)
			if a != 0 && b != 0 {
				lcm.Mul(x, y).Quo(lcm, gcd)
			}
			want, e = fits64(lcm)
			checkPairs(t, "P1.4: Lcm", Lcm, []pair{{a, b, want, e}})
		}
	}
}

func TestText(t *testing.T) {
	for _, c := range []struct {
		n    int64
		want string
	}{
		{0, "0"}, {7, "7"}, {-7, "-7"}, {10, "10"}, {-12, "-12"}, {99, "99"}, {100, "100"}, {1000000007, "1000000007"},
		{most, "9223372036854775807"}, {least, "-9223372036854775808"}, {least + 1, "-9223372036854775807"},
	} {
		if s := Text(c.n); s != c.want {
			t.Errorf("P1.5: Text(%d): %q; want %q", c.n, s, c.want)
		}
	}
}

func TestReadOfText(t *testing.T) {
	for _, n := range around() {
		if s := big.NewInt(n).String(); Text(n) != s {
			t.Errorf("P1.5: Text(%d): %q", n, Text(n))
		}
		if m, e := Read(Text(n)); m != n || e != api.OK {
			t.Errorf("P1.5: Read(Text(%d)): %d, %d", n, m, e)
		}
	}
}

func checkRead(t *testing.T, s string, want int64, wantE api.Errno) {
	t.Helper()
	if n, e := Read(s); n != want || e != wantE {
		t.Errorf("P1.5: Read(%.60q): %d, %d; want %d, %d", s, n, e, want, wantE)
	}
}

func TestReadOfNoForm(t *testing.T) {
	texts := []string{
		"", "-", "--1", "-0", "+0", "+1", "00", "01", "007", "-01", "-00", " 1", "1 ", "1\n", "- 1", " ", "1-", "1-1", "1e3", "1.0", "1_000", "1,000",
		"0x10", "0b1", "0o7", "abc", "1a", "a1", "-a", "\x00", "1\x00", "\xff", "1\xff", "\u0661", "\uff11", "1\u0661", "\u22121", "/", ":", "1/", "1:", "Inf", "NaN",
		// The form comes ahead of the size: these would be too great, were they numbers.
		"09223372036854775808", "9223372036854775808x", "-99999999999999999999-", "+9223372036854775808", "99999999999999999999999999999999.0",
	}
	for _, s := range texts {
		checkRead(t, s, 0, api.ErrNumber)
	}
}

func TestReadAtTheEnds(t *testing.T) {
	checkRead(t, "0", 0, api.OK)
	checkRead(t, "9", 9, api.OK)
	checkRead(t, "-1", -1, api.OK)
	checkRead(t, "100", 100, api.OK)
	checkRead(t, "9223372036854775807", most, api.OK)
	checkRead(t, "-9223372036854775808", least, api.OK)
	for _, s := range []string{
		"9223372036854775808", "9223372036854775809", "-9223372036854775809", "9223372036854775810", "-9223372036854775810", "9300000000000000000",
		"18446744073709551615", "18446744073709551616", "18446744073709551617", "-18446744073709551616", "10000000000000000000", "99999999999999999999",
	} {
		checkRead(t, s, 0, api.ErrOver)
	}
}

func TestReadOfLongTexts(t *testing.T) {
	const long = 1 << 22
	nines, zeros := strings.Repeat("9", long), strings.Repeat("0", long)
	within(t, "Read of long texts", func() {
		checkRead(t, nines, 0, api.ErrOver)
		checkRead(t, "-"+nines, 0, api.ErrOver)
		checkRead(t, "1"+zeros, 0, api.ErrOver)
		checkRead(t, zeros, 0, api.ErrNumber)
		checkRead(t, "-"+zeros, 0, api.ErrNumber)
		checkRead(t, nines+"x", 0, api.ErrNumber)
	})
}

func TestCallsAreShort(t *testing.T) {
	const times = 100000
	// Neighbours of Fibonacci's row make Euclid's way the longest.
	const fibonacci, next = 4660046610375530309, 7540113804746346429
	within(t, "Pow", func() {
		for range times {
			Pow(0, most)
			Pow(1, most)
			Pow(-1, most)
			Pow(2, most)
			Pow(-2, 63)
			Pow(most, least)
		}
	})
	within(t, "Gcd and Lcm", func() {
		for range times {
			Gcd(fibonacci, next)
			Gcd(1, most)
			Gcd(least, 3)
			Lcm(next, fibonacci)
			Lcm(1, most)
		}
	})
	within(t, "Mod and Quo", func() {
		for range times {
			Mod(most, 1)
			Mod(least, -1)
			Quo(most, 1)
			Quo(least, 1)
		}
	})
}

func TestAnswersHangOnArgumentsAlone(t *testing.T) {
	calls := []func(a, b int64) (int64, api.Errno){Quo, Mod, Pow, Gcd, Lcm}
	for _, a := range around() {
		for _, b := range around() {
			for i, f := range calls {
				first, e := f(a, b)
				if e != api.OK && first != 0 {
					t.Errorf("P1.6: call %d of %d, %d: %d beside error %d", i, a, b, first, e)
				}
				if n, e2 := f(a, b); n != first || e2 != e {
					t.Errorf("P1.6: call %d of %d, %d: %d, %d, then %d, %d", i, a, b, first, e, n, e2)
				}
			}
		}
	}
}
