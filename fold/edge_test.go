package fold

import (
	"fmt"
	"math/big"
	"slices"
	"testing"

	"quadrille/api"
)

// cells gives what is handed in for the places of column A from row 1 on.
func cells(all ...api.Value) []told {
	out := make([]told, len(all))
	for i, v := range all {
		out[i] = told{fmt.Sprint("A", i+1), v}
	}
	return out
}

// column is the area of so many places of column A from row 1 on.
func column(many int) string { return fmt.Sprint("A1:A", many) }

// bothWays checks a function of numbers of which all are given, and all are cells; in the latter case so many of them are handed in.
func bothWays(t *testing.T, f int, numbers []int64, handed int, want api.Value) {
	t.Helper()
	var given []any
	var handing []api.Value
	for i, n := range numbers {
		given = append(given, num(n))
		if i < handed {
			handing = append(handing, num(n))
		}
	}
	run(t, f, args(given...), nil, want)
	run(t, f, args(column(len(numbers))), cells(handing...), want)
}

func numbers(all ...int64) []int64 { return all }

func TestSumsAtTheEndsOf64Bits(t *testing.T) {
	bothWays(t, api.FSum, numbers(high, 0), 2, num(high))
	bothWays(t, api.FSum, numbers(high-1, 1), 2, num(high))
	bothWays(t, api.FSum, numbers(high, 1), 2, bad(api.ENum))
	bothWays(t, api.FSum, numbers(low+1, -1), 2, num(low))
	bothWays(t, api.FSum, numbers(low, -1), 2, bad(api.ENum))
	bothWays(t, api.FSum, numbers(low, high), 2, num(-1))
	bothWays(t, api.FSum, numbers(high, -1, 1), 3, num(high))
	// It ends when the sum leaves 64 bits in the midst, though it would come back.
	bothWays(t, api.FSum, numbers(high, 1, -1), 2, bad(api.ENum))
	bothWays(t, api.FSum, numbers(low, -1, 1, 5), 2, bad(api.ENum))
	bothWays(t, api.FSum, numbers(1, 2, 3), 3, num(6))
	run(t, api.FSum, args(num(high), "A1:A3"), cells(num(0), num(1)), bad(api.ENum))
	run(t, api.FSum, args("A1:A2", num(high), bad(api.ERef)), cells(num(1), num(1)), bad(api.ENum))
}

func TestProductsAtTheEndsOf64Bits(t *testing.T) {
	bothWays(t, api.FProduct, numbers(1<<62, 2), 2, bad(api.ENum))
	bothWays(t, api.FProduct, numbers(-1<<62, 2), 2, num(low))
	bothWays(t, api.FProduct, numbers(low, 1), 2, num(low))
	bothWays(t, api.FProduct, numbers(low, -1), 2, bad(api.ENum))
	bothWays(t, api.FProduct, numbers(-1, low), 2, bad(api.ENum))
	bothWays(t, api.FProduct, numbers(high, -1), 2, num(-high))
	bothWays(t, api.FProduct, numbers(1<<32, 1<<32, 0), 2, bad(api.ENum))
	bothWays(t, api.FProduct, numbers(0, 1<<32, 1<<32, low, high), 5, num(0))
	bothWays(t, api.FProduct, numbers(2, 3, 7), 3, num(42))
	run(t, api.FProduct, args("A1:A2"), cells(blank(), txt("5")), num(1))
	run(t, api.FProduct, args(0, "A1:A2"), cells(num(high), bad(api.EDiv)), bad(api.EDiv))
}

func TestAverages(t *testing.T) {
	bothWays(t, api.FAverage, numbers(7, 0), 2, num(3))
	bothWays(t, api.FAverage, numbers(-7, 0), 2, num(-3))
	bothWays(t, api.FAverage, numbers(-1, 0, 0), 3, num(0))
	bothWays(t, api.FAverage, numbers(low), 1, num(low))
	bothWays(t, api.FAverage, numbers(high), 1, num(high))
	bothWays(t, api.FAverage, numbers(low, 0), 2, num(-1<<62))
	bothWays(t, api.FAverage, numbers(high, 1, -1), 2, bad(api.ENum))
	bothWays(t, api.FAverage, numbers(low, -1, 1), 2, bad(api.ENum))
	bothWays(t, api.FAverage, numbers(high, low), 2, num(0))
	run(t, api.FAverage, args("A1:A4"), cells(txt("9"), yes(), num(5), blank()), num(5))
	run(t, api.FAverage, args("A1", blank()), cells(num(5)), num(2))
	run(t, api.FAverage, args("A1:A2", txt("x")), cells(txt("9"), no()), bad(api.EValue))
	run(t, api.FAverage, args("A1:A2"), cells(txt("9"), no()), bad(api.EDiv))
}

func TestExtremes(t *testing.T) {
	bothWays(t, api.FMin, numbers(low), 1, num(low))
	bothWays(t, api.FMin, numbers(3, 2, high), 3, num(2))
	bothWays(t, api.FMin, numbers(3, 3, 4), 3, num(3))
	bothWays(t, api.FMin, numbers(high, high), 2, num(high))
	bothWays(t, api.FMax, numbers(low), 1, num(low))
	bothWays(t, api.FMax, numbers(-3, -2, low), 3, num(-2))
	bothWays(t, api.FMax, numbers(-3, -4, -3), 3, num(-3))
	bothWays(t, api.FMax, numbers(low, high, 0), 3, num(high))
	for _, f := range []int{api.FMin, api.FMax} {
		run(t, f, args("A1:A3"), cells(blank(), txt("5"), yes()), num(0))
		run(t, f, args("A1:A3"), cells(num(7), bad(api.EName)), bad(api.EName))
		run(t, f, args("A1:A3"), cells(blank(), num(-7), txt("")), num(-7))
		run(t, f, args("A1:A3"), cells(blank(), num(7), txt("")), num(7))
	}
	// A given blank is a number, a cell's is none.
	run(t, api.FMin, args("A1", blank()), cells(num(7)), num(0))
	run(t, api.FMax, args("A1", txt("-8"), "A1"), []told{{"A1", num(-9)}, {"A1", num(-10)}}, num(-8))
}

// TestMedians holds the middle of each two numbers of a choice against numbers of any size.
func TestMedians(t *testing.T) {
	pool := numbers(low, low+1, low+2, -1<<62-1, -1<<62, -1<<62+1, -3, -2, -1, 0, 1, 2, 3, 1<<62-1, 1<<62, 1<<62+1, high-2, high-1, high)
	for _, a := range pool {
		bothWays(t, api.FMedian, numbers(a), 1, num(a))
		for _, b := range pool {
			half := new(big.Int).Add(big.NewInt(a), big.NewInt(b))
			half.Quo(half, big.NewInt(2))
			bothWays(t, api.FMedian, numbers(a, b), 2, num(half.Int64()))
			bothWays(t, api.FMedian, numbers(low, b, high, a), 4, num(half.Int64()))
			for _, c := range pool {
				three := numbers(a, b, c)
				slices.Sort(three)
				bothWays(t, api.FMedian, numbers(a, b, c), 3, num(three[1]))
			}
		}
	}
	run(t, api.FMedian, args("A1:A2"), cells(txt("5"), blank()), bad(api.ENum))
	run(t, api.FMedian, args("A1:A3"), cells(num(5), blank(), yes()), num(5))
	run(t, api.FMedian, args("A1:A3", txt("y")), cells(num(5), blank(), yes()), bad(api.EValue))
}

func TestRanks(t *testing.T) {
	three := cells(num(5), num(-1), num(5))
	for _, c := range []struct {
		k            int64
		large, small api.Value
	}{
		{low, bad(api.ENum), bad(api.ENum)}, {-1, bad(api.ENum), bad(api.ENum)}, {0, bad(api.ENum), bad(api.ENum)},
		{1, num(5), num(-1)}, {2, num(5), num(5)}, {3, num(-1), num(5)},
		{4, bad(api.ENum), bad(api.ENum)}, {1<<32 + 1, bad(api.ENum), bad(api.ENum)}, {high, bad(api.ENum), bad(api.ENum)},
	} {
		run(t, api.FLarge, args("A1:A3", num(c.k)), three, c.large)
		run(t, api.FSmall, args("A1:A3", num(c.k)), three, c.small)
	}
	for _, f := range []int{api.FLarge, api.FSmall} {
		// As many as there are numbers, not as there are places.
		run(t, f, args("A1:A3", 2), cells(num(5), txt("7"), blank()), bad(api.ENum))
		run(t, f, args("A1:A3", 1), cells(txt("7"), num(5), yes()), num(5))
		run(t, f, args("A1:A3", 1), cells(txt("7"), blank(), yes()), bad(api.ENum))
		// An error among them comes ahead of a k that is none of theirs.
		run(t, f, args("A1:A3", 0), cells(num(1), bad(api.EDiv)), bad(api.EDiv))
		run(t, f, args("A1:A3", "B1"), nil, bad(api.EValue))
		run(t, f, args(bad(api.ENA), "B1"), nil, bad(api.EValue))
		run(t, f, args("A1:A3", txt("k")), nil, bad(api.EValue))
		run(t, f, args(bad(api.ENA), bad(api.ERef)), nil, bad(api.ERef))
		run(t, f, args(bad(api.ENA), 1), nil, bad(api.ENA))
		run(t, f, args(txt("8"), yes()), nil, num(8))
		run(t, f, args(txt("x"), 1), nil, bad(api.EValue))
		run(t, f, args(8, 2), nil, bad(api.ENum))
		run(t, f, args(8, blank()), nil, bad(api.ENum))
		run(t, f, args("A1", txt("1")), cells(num(low)), num(low))
	}
}

func TestCounts(t *testing.T) {
	all := cells(blank(), num(0), txt(""), txt("5"), txt("x"), yes(), no(), bad(api.EName), bad(api.ENA))
	run(t, api.FCount, args(column(9)), all, num(1))
	run(t, api.FCounta, args(column(9)), all, num(8))
	run(t, api.FCountblank, args(column(9)), all, num(1))
	given := args(blank(), 0, txt(""), txt("5"), txt("x"), yes(), no(), bad(api.EName), bad(api.ENA))
	run(t, api.FCount, given, nil, num(5))
	run(t, api.FCounta, given, nil, num(8))
	run(t, api.FCountblank, given, nil, num(1))
	// Errors end none of them, be they given or cells.
	for _, f := range []int{api.FCount, api.FCounta, api.FCountblank} {
		w := begin(t, f, bad(api.ERef), "A1:A2", bad(api.ERef))
		giving(t, "a count", w, bad(api.ENum))
		wanting(t, "a count", w, place("A2"))
	}
}

func TestTruths(t *testing.T) {
	for _, c := range []struct {
		v            api.Value
		and, or, xor api.Value // of that value as the last cell behind TRUE, FALSE, FALSE
	}{
		{blank(), yes(), no(), no()}, {txt("TRUE"), yes(), no(), no()}, {txt("FALSE"), yes(), no(), no()}, {txt("x"), yes(), no(), no()},
		{num(0), no(), no(), no()}, {num(-1), yes(), yes(), yes()}, {num(low), yes(), yes(), yes()}, {yes(), yes(), yes(), yes()}, {no(), no(), no(), no()},
		{bad(api.ENA), bad(api.ENA), bad(api.ENA), bad(api.ENA)},
	} {
		run(t, api.FAnd, args("A1:A2"), cells(yes(), c.v), c.and)
		run(t, api.FOr, args("A1:A2"), cells(no(), c.v), c.or)
		run(t, api.FXor, args("A1:A2"), cells(no(), c.v), c.xor)
	}
	run(t, api.FAnd, args(yes(), txt("TRUE"), 5), nil, yes())
	run(t, api.FAnd, args(blank(), "A1"), nil, no())
	run(t, api.FAnd, args(txt("FALSE"), bad(api.ENA)), nil, no())
	run(t, api.FAnd, args(bad(api.ENA), no()), nil, bad(api.ENA))
	run(t, api.FOr, args(blank(), txt("FALSE")), nil, no())
	run(t, api.FOr, args(txt("TRUE"), "A1"), nil, yes())
	run(t, api.FOr, args("A1:A3"), cells(no(), num(2)), yes())
	run(t, api.FXor, args("A1:A3", yes()), cells(yes(), num(2), txt("TRUE")), yes())
	run(t, api.FXor, args("A1:A2", txt("TRUE")), cells(yes(), bad(api.EDiv)), bad(api.EDiv))
	for _, f := range []int{api.FAnd, api.FOr, api.FXor} {
		run(t, f, args("A1:A3"), cells(blank(), txt("TRUE"), txt("x")), bad(api.EValue))
		run(t, f, args(txt("true")), nil, bad(api.EValue))
		run(t, f, args(txt("x"), yes()), nil, bad(api.EValue))
		run(t, f, args(txt("1")), nil, bad(api.EValue))
		run(t, f, args("A1", blank()), cells(txt("x")), no())
	}
}

func TestTextsUpToTheLongest(t *testing.T) {
	most := xs(32767)
	run(t, api.FConcat, args(txt(most)), nil, txt(most))
	run(t, api.FConcat, args(txt(xs(32766)), 7), nil, txt(xs(32766)+"7"))
	run(t, api.FConcat, args(txt(most), txt(""), blank(), "A1:A2"), cells(blank(), txt("")), txt(most))
	run(t, api.FConcat, args(txt(most), 7, "A1"), nil, bad(api.EValue))
	run(t, api.FConcat, args(txt(xs(32766)), "A1:A3"), cells(num(7), num(8)), bad(api.EValue))
	run(t, api.FConcat, args("A1:A2", txt("y"), bad(api.ENA)), cells(txt(xs(16384)), txt(xs(16383))), bad(api.EValue))
	// An error is met ahead of what would have become too long.
	run(t, api.FConcat, args(txt(most), bad(api.ENA)), nil, bad(api.ENA))
	run(t, api.FConcat, args(txt(most), "A1"), cells(bad(api.ENA)), bad(api.ENA))
	run(t, api.FConcat, args(txt("a\xff"), -5, yes(), no(), blank(), txt("é")), nil, txt("a\xff-5TRUEFALSEé"))
	run(t, api.FConcat, args("A1:A2"), cells(blank(), blank()), txt(""))
}

func TestTextsWithATextBetween(t *testing.T) {
	most := xs(32767)
	run(t, api.FJoin, args(txt(","), txt(xs(16383)), txt(xs(16383))), nil, txt(xs(16383)+","+xs(16383)))
	run(t, api.FJoin, args(txt(","), txt(xs(16383)), txt(xs(16384)), "A1"), nil, bad(api.EValue))
	run(t, api.FJoin, args(txt(","), txt(xs(32766)), txt("")), nil, txt(xs(32766)+","))
	run(t, api.FJoin, args(txt(","), txt(most)), nil, txt(most))
	run(t, api.FJoin, args(txt(","), txt(most), blank(), "A1"), nil, bad(api.EValue))
	run(t, api.FJoin, args(txt(","), txt(most), bad(api.ENA)), nil, bad(api.ENA))
	// What is between stands there only where there are two.
	run(t, api.FJoin, args(txt(most), txt("a")), nil, txt("a"))
	run(t, api.FJoin, args(txt(most), blank(), blank()), nil, txt(most))
	run(t, api.FJoin, args(txt(most), txt(""), txt("a")), nil, bad(api.EValue))
	run(t, api.FJoin, args(txt(most), "A1:A3"), cells(blank(), txt(most), blank()), txt(most))
	run(t, api.FJoin, args(txt(","), txt(xs(32765)), "A1:A4"), cells(blank(), txt("y"), txt("")), bad(api.EValue))
	run(t, api.FJoin, args(txt(","), "A1:A4"), cells(blank(), txt(""), blank(), txt("")), txt(","))
	run(t, api.FJoin, args(txt(","), "A1:A2"), cells(blank(), blank()), txt(""))
	run(t, api.FJoin, args(txt(","), blank()), nil, txt(""))
	run(t, api.FJoin, args(blank(), 1, "A1", 2), cells(no()), txt("1FALSE2"))
	run(t, api.FJoin, args(yes(), 1, 2, 3), nil, txt("1TRUE2TRUE3"))
	run(t, api.FJoin, args(-7, "A1", 2), cells(bad(api.ENum)), bad(api.ENum))
	run(t, api.FJoin, args("A1", "A1"), nil, bad(api.EValue))
	run(t, api.FJoin, args("A1", bad(api.ENA)), nil, bad(api.EValue))
	run(t, api.FJoin, args(bad(api.EDiv), bad(api.ENA)), nil, bad(api.EDiv))
}

// TestManyEmptyTexts has a text between that grows the whole though nothing else does.
func TestManyEmptyTexts(t *testing.T) {
	many := slices.Repeat(args(blank()), 32768)
	within(t, "JOIN of many blanks", func() {
		run(t, api.FJoin, append(args(txt(",")), many...), nil, txt(string(slices.Repeat([]byte(","), 32767))))
		run(t, api.FJoin, append(args(txt(",")), append(many, args(blank(), "A1")...)...), nil, bad(api.EValue))
		run(t, api.FConcat, append(many, args("A1")...), cells(txt("z")), txt("z"))
	})
}

func TestMatches(t *testing.T) {
	run(t, api.FMatch, args(txt("x"), "A1:A3"), cells(num(1), txt("X"), txt("x")), num(3))
	run(t, api.FMatch, args(txt("x"), "A1:A2"), cells(num(1), txt("X")), bad(api.ENA))
	run(t, api.FMatch, args(1, "A1:A3"), cells(txt("1"), yes(), num(1)), num(3))
	run(t, api.FMatch, args(yes(), "A1:A3"), cells(num(1), txt("TRUE"), yes()), num(3))
	for _, nothing := range []api.Value{blank(), num(0), txt(""), no()} {
		run(t, api.FMatch, args(blank(), "A1:A3"), cells(num(1), nothing), num(2))
		run(t, api.FMatch, args(nothing, "A1:A3"), cells(num(1), blank()), num(2))
	}
	run(t, api.FMatch, args(blank(), "A1:A2"), cells(bad(api.EName), bad(api.ENA)), bad(api.ENA))
	run(t, api.FMatch, args("A1", "A1"), nil, bad(api.EValue))
	run(t, api.FMatch, args("A1", 1), nil, bad(api.EValue))
	run(t, api.FMatch, args(bad(api.EDiv), "A1"), nil, bad(api.EDiv))
	run(t, api.FMatch, args(bad(api.EDiv), 1), nil, bad(api.EDiv))
	run(t, api.FMatch, args(1, 1), nil, bad(api.EValue))
	run(t, api.FMatch, args(1, bad(api.EDiv)), nil, bad(api.EValue))
}

func TestLookups(t *testing.T) {
	run(t, api.FVlookup, args(txt("b"), "B2:D4", 2), []told{{"B2", bad(api.ENA)}, {"B3", txt("b")}, {"C3", blank()}}, blank())
	run(t, api.FHlookup, args(txt("b"), "B2:D4", 2), []told{{"B2", bad(api.ENA)}, {"C2", txt("b")}, {"C3", blank()}}, blank())
	run(t, api.FVlookup, args(1, "B2:D4", 3), []told{{"B2", num(0)}, {"B3", num(2)}, {"B4", num(3)}}, bad(api.ENA))
	run(t, api.FHlookup, args(1, "B2:D4", 3), []told{{"B2", num(0)}, {"C2", num(2)}, {"D2", num(3)}}, bad(api.ENA))
	// Of the first column, or row, the same place is wanted again; what it is given then counts.
	run(t, api.FVlookup, args(1, "B2:D4", 1), []told{{"B2", num(0)}, {"B3", num(1)}, {"B3", txt("new")}}, txt("new"))
	run(t, api.FHlookup, args(1, "B2:D4", 1), []told{{"B2", num(0)}, {"C2", num(1)}, {"C2", bad(api.ENum)}}, bad(api.ENum))
	// Tables that are longer in one direction.
	run(t, api.FVlookup, args(1, "A1:B4", txt("2")), []told{{"A1", num(0)}, {"A2", num(0)}, {"A3", num(0)}, {"A4", num(1)}, {"B4", yes()}}, yes())
	run(t, api.FHlookup, args(1, "A1:D2", yes()), []told{{"A1", num(0)}, {"B1", num(0)}, {"C1", num(0)}, {"D1", num(1)}, {"D1", yes()}}, yes())
	run(t, api.FVlookup, args(1, "A1:B4", 3), nil, bad(api.ERef))
	run(t, api.FHlookup, args(1, "A1:D2", 3), nil, bad(api.ERef))
	run(t, api.FVlookup, args(1, "A1:D2", 4), []told{{"A1", blank()}, {"A2", num(1)}, {"D2", num(6)}}, num(6))
	run(t, api.FHlookup, args(1, "A1:B4", 4), []told{{"A1", blank()}, {"B1", num(1)}, {"B4", num(6)}}, num(6))
	run(t, api.FVlookup, args(1, "ZY65535:ZZ65536", 2), []told{{"ZY65535", blank()}, {"ZY65536", num(1)}, {"ZZ65536", num(6)}}, num(6))
	for _, f := range []int{api.FVlookup, api.FHlookup} {
		for _, k := range []int{low, -1, 0, 3, 1<<32 + 1, high} {
			run(t, f, args(1, "A1:B2", k), nil, bad(api.ERef))
		}
		run(t, f, args("A1", bad(api.ENA), bad(api.ERef)), nil, bad(api.EValue))
		run(t, f, args(bad(api.ENA), 1, "A1"), nil, bad(api.ENA))
		run(t, f, args(1, bad(api.ENA), bad(api.ERef)), nil, bad(api.EValue))
		run(t, f, args(1, "A1", "A1"), nil, bad(api.EValue))
		run(t, f, args(1, "A1", txt("k")), nil, bad(api.EValue))
		run(t, f, args(1, "A1", bad(api.EDiv)), nil, bad(api.EDiv))
		run(t, f, args(1, 1, bad(api.EDiv)), nil, bad(api.EValue))
		run(t, f, args(1, "A1", blank()), nil, bad(api.ERef))
	}
}

func TestCountsAndSumsOfWhatIsEqual(t *testing.T) {
	run(t, api.FCountif, args("A1:A5", 1), cells(num(1), bad(api.ENA), txt("1"), yes(), num(1)), num(2))
	run(t, api.FCountif, args("A1:A5", blank()), cells(num(0), bad(api.ENA), txt(""), no(), blank()), num(4))
	run(t, api.FCountif, args("A1:A2", txt("x")), cells(bad(api.ENA), txt("y")), num(0))
	run(t, api.FSumif, args("A1:A5", blank()), cells(num(0), bad(api.ENA), txt(""), no(), blank()), num(0))
	run(t, api.FSumif, args("A1:A4", 7), cells(num(7), bad(api.ENA), num(7), num(8)), num(14))
	run(t, api.FSumif, args("A1:A2", txt("7")), cells(txt("7"), num(7)), num(0))
	run(t, api.FSumif, args("A1:A3", num(high)), cells(num(high), num(high)), bad(api.ENum))
	for _, f := range []int{api.FCountif, api.FSumif} {
		run(t, f, args(1, "A1"), nil, bad(api.EValue))
		run(t, f, args(bad(api.ENA), bad(api.ERef)), nil, bad(api.EValue))
		run(t, f, args("A1", "A1"), nil, bad(api.EValue))
		run(t, f, args("A1", bad(api.ERef)), nil, bad(api.ERef))
	}
}

func TestSumsOfAnotherArea(t *testing.T) {
	run(t, api.FSumif, args("A1:B2", txt("x"), "C3:D4"), []told{{"A1", txt("x")}, {"C3", num(1)}, {"B1", txt("x")}, {"D3", txt("9")}, {"A2", bad(api.ENA)}, {"B2", txt("x")}, {"D4", num(4)}}, num(5))
	run(t, api.FSumif, args("A1:A3", 1, "C3:C5"), []told{{"A1", num(1)}, {"C3", bad(api.EName)}}, bad(api.EName))
	run(t, api.FSumif, args("A1:A3", 1, "C3:C5"), []told{{"A1", num(1)}, {"C3", num(low)}, {"A2", num(1)}, {"C4", num(-1)}}, bad(api.ENum))
	// The other area may be the same one, lie over it, or ahead of it.
	run(t, api.FSumif, args("A1:A2", 1, "A1:A2"), []told{{"A1", num(1)}, {"A1", num(5)}, {"A2", num(2)}}, num(5))
	run(t, api.FSumif, args("B2:B3", 1, "B1:B2"), []told{{"B2", num(1)}, {"B1", num(5)}, {"B3", num(1)}, {"B2", num(6)}}, num(11))
	run(t, api.FSumif, args("ZZ65536", 1, "A1"), []told{{"ZZ65536", num(1)}, {"A1", num(5)}}, num(5))
	for _, b := range []any{"C1:C2", "C1:D1", "C1:E1", "C1:C4", "C1:D3", 1, blank(), bad(api.ENA)} {
		run(t, api.FSumif, args("A1:A3", 1, b), nil, bad(api.EValue))
		run(t, api.FSumif, args("A1:A3", bad(api.ERef), b), nil, bad(api.ERef))
	}
}

func TestSumsOfProducts(t *testing.T) {
	run(t, api.FSumproduct, args("A1:B1", "A2:B2"), []told{{"A1", num(2)}, {"A2", num(3)}, {"B1", num(-4)}, {"B2", num(5)}}, num(-14))
	run(t, api.FSumproduct, args("A1:A2", "B1:B2"), []told{{"A1", bad(api.ENA)}}, bad(api.ENA))
	run(t, api.FSumproduct, args("A1:A2", "B1:B2"), []told{{"A1", txt("x")}, {"B1", bad(api.ENum)}}, bad(api.ENum))
	run(t, api.FSumproduct, args("A1:A2", "B1:B2"), []told{{"A1", yes()}, {"B1", num(9)}, {"A2", num(9)}, {"B2", txt("2")}}, num(0))
	run(t, api.FSumproduct, args("A1:A2", "B1:B2"), []told{{"A1", num(1 << 62)}, {"B1", num(2)}}, bad(api.ENum))
	run(t, api.FSumproduct, args("A1:A3", "B1:B3"), []told{{"A1", num(-1 << 62)}, {"B1", num(2)}, {"A2", num(1)}, {"B2", num(-1)}}, bad(api.ENum))
	run(t, api.FSumproduct, args("A1:A2", "B1:B2"), []told{{"A1", num(-1 << 62)}, {"B1", num(2)}, {"A2", num(1)}, {"B2", num(high)}}, num(-1))
	run(t, api.FSumproduct, args("A1", "A1"), []told{{"A1", num(3)}, {"A1", num(4)}}, num(12))
	for _, pair := range [][]api.Arg{args(1, "A1"), args("A1", 1), args(1, 1), args(bad(api.ENA), "A1"), args("A1", bad(api.ENA)), args("A1:A2", "A1:B1"), args("A1:A2", "A1"), args("A1:B2", "A1:C2"), args("A1:B2", "A1:B3")} {
		run(t, api.FSumproduct, pair, nil, bad(api.EValue))
	}
}

func TestFirsts(t *testing.T) {
	run(t, api.FFirst, args("A1:A2", blank(), "B1"), []told{{"A1", blank()}, {"A2", blank()}, {"B1", blank()}}, bad(api.ENA))
	run(t, api.FFirst, args(blank(), bad(api.EDiv), "A1"), nil, bad(api.EDiv))
	for _, v := range []api.Value{num(0), txt(""), no(), bad(api.EName), txt("x")} {
		run(t, api.FFirst, args("A1:A2", 7), cells(blank(), v), v)
		run(t, api.FFirst, args("A1", val(v), "B1"), cells(blank()), v)
	}
}

// TestAreasOf4096Places walks the greatest areas to their ends, in row order.
func TestAreasOf4096Places(t *testing.T) {
	for _, corners := range []string{"A1:A4096", "A1:BL64", "B2:IW17", "XO65535:ZZ65536", "ZZ61441:ZZ65536", "A5:ZZ9"} {
		a := over(corners)
		rows, cols := a.Area.Bottom-a.Area.Top+1, a.Area.Right-a.Area.Left+1
		if rows*cols > 4096 {
			t.Fatal(corners)
		}
		for _, f := range []int{api.FSum, api.FCount, api.FMedian, api.FConcat, api.FMatch, api.FSumproduct} {
			walkToTheEnd(t, f, a, rows*cols)
		}
	}
}

// walkToTheEnd walks one great area, with a value that ends nothing.
func walkToTheEnd(t *testing.T, f int, a api.Arg, many int) {
	t.Helper()
	list, second := []any{a}, false
	switch f {
	case api.FMatch:
		list = []any{1, a}
	case api.FSumproduct:
		list, second = []any{a, a}, true
	}
	w := begin(t, f, list...)
	at := api.Spot{Row: a.Area.Top, Col: a.Area.Left}
	for range many {
		wanting(t, "a great area", w, at)
		giving(t, "a great area", w, num(3))
		if second {
			wanting(t, "a great area, again", w, at)
			giving(t, "a great area", w, num(3))
		}
		if at.Col++; at.Col > a.Area.Right {
			at = api.Spot{Row: at.Row + 1, Col: a.Area.Left}
		}
	}
	n := int64(many)
	want := map[int]api.Value{api.FSum: num(3 * n), api.FCount: num(n), api.FMedian: num(3), api.FConcat: txt(string(slices.Repeat([]byte("3"), many))), api.FMatch: bad(api.ENA), api.FSumproduct: num(9 * n)}
	ending(t, "a great area", w, want[f])
}

// TestManyArguments goes through far more given values than a formula has.
func TestManyArguments(t *testing.T) {
	many := slices.Repeat(args(1), 300_000)
	within(t, "very many arguments", func() {
		run(t, api.FSum, many, nil, num(300_000))
		run(t, api.FMedian, append(many[:200_000:200_000], over("B2")), []told{{"B2", num(high)}}, num(1))
	})
}

// TestManyAreas walks areas one behind the other, the same one among them.
func TestManyAreas(t *testing.T) {
	run(t, api.FSum, args("B1:B2", 100, "A1", "A1", 1000, "C3:D3"), []told{{"B1", num(1)}, {"B2", num(2)}, {"A1", num(4)}, {"A1", num(8)}, {"C3", num(16)}, {"D3", num(32)}}, num(1163))
	run(t, api.FJoin, args(txt("/"), "B1:B2", 9, "A1"), []told{{"B1", num(1)}, {"B2", num(2)}, {"A1", num(4)}}, txt("1/2/9/4"))
}
