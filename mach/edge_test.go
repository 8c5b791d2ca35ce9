package mach

import (
	"fmt"
	"math"
	"slices"
	"strings"
	"testing"

	"quadrille/api"
)

// edges are numbers at which something may turn, on a grid and of 64 bits.
func edges() []int64 {
	return []int64{math.MinInt64, math.MinInt64 + 1, -1 << 32, -65536, -65535, -702, -701, -9, -8, -4, -3, -1, 0, 1, 2, 3, 4, 63, 64, 65, 585, 586, 693, 694, 698, 701, 702, 703, 4095, 4096, 4097, 65527, 65528, 65532, 65535, 65536, 65537, 1<<32 - 1, 1 << 32, 1<<32 + 1, math.MaxInt64 - 65535, math.MaxInt64 - 1, math.MaxInt64}
}

// TestEdgesOfOffset moves areas to all edges of the grid and beyond, held against numbers of any size.
func TestEdgesOfOffset(t *testing.T) {
	found := 0
	for _, corners := range []string{"0 0 0 0", "0 0 2 3", "8 8 9 9", "0 0 4095 0", "0 0 4 701", "65535 701 65535 701", "65527 693 65535 701", "61440 701 65535 701", "32768 350 32831 413"} {
		for _, f := range []int{api.FRow, api.FColumn, api.FRows, api.FColumns} {
			moved := of(t, fmt.Sprintf("do.area %s; do.fetch 0 0; do.fetch 0 1; do.offset 2; do.place %d", corners, f))
			for _, dr := range edges() {
				for _, dc := range edges() {
					if _, v := likeTheModel(t, moved, api.Spot{}, inTurn(num(dr), num(dc))); !isWrong(v) {
						found++
					}
				}
			}
			sized := of(t, fmt.Sprintf("const i 1; const i -1; do.area %s; do.const 0; do.const 1; do.fetch 0 0; do.fetch 0 1; do.offset 4; do.place %d", corners, f))
			high := of(t, fmt.Sprintf("const i -2; const i 0; do.area %s; do.const 0; do.const 1; do.fetch 0 0; do.offset 3; do.place %d", corners, f))
			for _, h := range edges() {
				likeTheModel(t, high, api.Spot{}, inTurn(num(h)))
				for _, w := range edges() {
					if _, v := likeTheModel(t, sized, api.Spot{}, inTurn(num(h), num(w))); !isWrong(v) {
						found++
					}
				}
			}
		}
	}
	if found < 3000 {
		t.Errorf("only %d of them lead to an area", found)
	}
}

func TestOffsetsToTheEnds(t *testing.T) {
	move := of(t, "do.area 9 4 10 6; do.fetch 0 0; do.fetch 0 1; do.fetch 0 2; do.fetch 0 3; do.offset 4; do.one")
	gives := func(dr, dc, h, w int64, rest ...told) []told {
		return append([]told{{"A1", num(dr)}, {"B1", num(dc)}, {"C1", num(h)}, {"D1", num(w)}}, rest...)
	}
	tell(t, "to A1", move, gives(-9, -4, 1, 1, told{"A1", num(5)}), num(5))
	tell(t, "to ZZ65536", move, gives(65526, 697, 1, 1, told{"ZZ65536", num(5)}), num(5))
	for _, n := range [][]int64{{-10, -4, 1, 1}, {-9, -5, 1, 1}, {65527, 697, 1, 1}, {65526, 698, 1, 1}, {0, 0, 0, 1}, {0, 0, 1, 0}, {0, 0, -1, 1}, {0, 0, -1, -1}, {65526, 697, 2, 1}, {65526, 697, 1, 2}, {0, 0, math.MaxInt64, math.MaxInt64}, {math.MinInt64, math.MaxInt64, 1, 1}, {0, 0, 1 << 32, 1 << 32}, {0, 0, 4097, 1}, {0, 0, 65, 64}} {
		tell(t, "beyond the grid", move, gives(n[0], n[1], n[2], n[3]), bad(api.ERef))
	}
	// What is no place of its own is no error yet, as long as it is not asked for as one.
	tell(t, "two places", move, gives(0, 0, 2, 1), bad(api.EValue))
	tell(t, "4096 places", move, gives(0, 0, 64, 64), bad(api.EValue))
}

// TestEdgesOfIndex asks for places of areas and beside them, held against numbers of any size.
func TestEdgesOfIndex(t *testing.T) {
	for _, corners := range []string{"0 0 0 0", "0 0 2 3", "0 0 4095 0", "0 0 4 701", "65535 701 65535 701", "65527 693 65535 701", "61440 701 65535 701"} {
		for _, f := range []int{api.FRow, api.FColumn, api.FRows, api.FColumns} {
			one := of(t, fmt.Sprintf("do.area %s; do.fetch 0 0; do.index 1; do.place %d", corners, f))
			two := of(t, fmt.Sprintf("do.area %s; do.fetch 0 0; do.fetch 0 1; do.index 2; do.place %d", corners, f))
			for _, i := range edges() {
				likeTheModel(t, one, api.Spot{}, inTurn(num(i)))
				for _, j := range edges() {
					likeTheModel(t, two, api.Spot{}, inTurn(num(i), num(j)))
				}
			}
		}
	}
	pick := of(t, "do.area 9 4 11 5; do.fetch 0 0; do.fetch 0 1; do.index 2; do.one")
	for row := int64(1); row <= 3; row++ {
		for col := int64(1); col <= 2; col++ {
			at := fmt.Sprintf("%c%d", 'D'+rune(col), 9+row)
			tell(t, at, pick, []told{{"A1", num(row)}, {"B1", num(col)}, {at, num(7)}}, num(7))
		}
	}
	for _, n := range [][]int64{{0, 1}, {1, 0}, {4, 1}, {1, 3}, {-1, -1}, {math.MinInt64, 1}, {1, math.MinInt64}, {math.MaxInt64, 1}, {1, math.MaxInt64}, {1<<32 + 1, 1}, {1, 1<<32 + 1}} {
		tell(t, "beside the area", pick, []told{{"A1", num(n[0])}, {"B1", num(n[1])}}, bad(api.ERef))
	}
}

func TestWhatIsSpelt(t *testing.T) {
	rows := of(t, "do.fetch 0 0; do.indirect; do.place 49")
	for s, want := range map[string]api.Value{
		"A1": num(1), "zz65536": num(1), "$A$1:A4096": num(4096), "B9:A2": num(8), "A1:BL64": num(64), "a5:ZZ1": num(5),
		"A1:A4097": bad(api.ERef), "A1:BL65": bad(api.ERef), "A1:ZZ65536": bad(api.ERef), "AAA1": bad(api.ERef), "A65537": bad(api.ERef), "A0": bad(api.ERef), "": bad(api.ERef), "A1:": bad(api.ERef), " A1": bad(api.ERef), "A1:B2:C3": bad(api.ERef), "=A1": bad(api.ERef), "#REF!": bad(api.ERef), xs(32767): bad(api.ERef), "A\xff1": bad(api.ERef), "A" + strings.Repeat("9", 32766): bad(api.ERef),
	} {
		tell(t, "INDIRECT", rows, []told{{"A1", txt(s)}}, want)
	}
	for _, v := range []api.Value{blank(), num(1), num(-1), yes(), no()} {
		tell(t, "INDIRECT", rows, []told{{"A1", v}}, bad(api.ERef))
	}
}

// great lays so many areas of 4,096 places, which a walk takes.
func great(many int) string { return strings.Repeat("do.area 0 0 4095 0; ", many) }

// TestAPlaceTooMany wants one place more than there may be, by each instruction that wants places.
func TestAPlaceTooMany(t *testing.T) {
	within(t, "a walk of 65,536 places", func() {
		for _, c := range []struct {
			what, lines string
			over        api.MachLook // where it is over
		}{
			{"no place more", great(16) + "do.walk 54 16", api.MachLook{At: 17, Height: 1}},
			{"no place more, with areas", great(16) + "do.walk 54 16; do.area 0 0 9 0; do.place 49; do.bin 4", api.MachLook{At: 20, Height: 1}},
			{"a fetch", great(16) + "do.walk 54 16; do.fetch 0 0; do.bin 4", api.MachLook{At: 17, Height: 1}},
			{"a fetch of an IFERROR", great(16) + "do.walk 54 16; do.here 47; do.fetch 0 0; do.bin 4; do.bin 4; do.ok 23 0; do.here 47", api.MachLook{At: 18, Height: 2}},
			{"one place", great(16) + "do.walk 54 16; do.here 48; do.area 0 0 0 0; do.one; do.bin 4; do.bin 4", api.MachLook{At: 19, Height: 2}},
			{"a walk", great(16) + "do.walk 54 16; do.here 48; do.area 0 0 0 0; do.here 48; do.walk 54 2; do.bin 4; do.bin 4", api.MachLook{At: 20, Height: 2}},
			{"within a walk", great(17) + "do.walk 54 17", api.MachLook{At: 17}},
			{"within a walk of counts", "do.here 47; " + great(17) + "do.walk 57 17; do.call 40 1; do.bin 4", api.MachLook{At: 18, Height: 1}},
			{"within a walk of pairs", "do.here 47; " + great(15) + "do.walk 54 15; do.area 0 0 4095 0; do.area 0 1 4095 1; do.walk 75 2; do.bin 4; do.bin 4", api.MachLook{At: 19, Height: 2}},
		} {
			m := begin(t, of(t, c.lines), api.Spot{})
			given := 0
			for at, wants := m.Wants(); wants; at, wants = m.Wants() {
				if at.Col > 1 || m.Look().Fetches != given {
					t.Fatalf("P18.5: %s wants %v, is at %+v", c.what, at, m.Look())
				}
				m.Give(num(1))
				given++
			}
			c.over.Fetches, c.over.Over = 65536, true
			end := bad(api.ERef)
			if strings.HasPrefix(c.what, "no place") {
				end, _ = m.Value()
				if end.Kind != api.VInt || end.Int < 65536 {
					t.Errorf("P18.4: %s: %s", c.what, brief(end))
				}
			}
			if given != 65536 {
				t.Errorf("P18.1: %s stops at %d places", c.what, given)
			}
			ending(t, c.what, m, end, c.over)
			likeTheModel(t, of(t, c.lines), api.Spot{}, inTurn(num(1)))
		}
	})
}

// TestSeventeenSums is the document's example, and the same with one of them less.
func TestSeventeenSums(t *testing.T) {
	for many, want := range map[int]api.Value{16: num(65536), 17: bad(api.ERef)} {
		p := formula(t, "=SUM(A1:A4096)"+strings.Repeat("+SUM(A1:A4096)", many-1))
		stops, v := likeTheModel(t, p, place("B7"), inTurn(num(1)))
		if len(stops) != 65536 || v != want {
			t.Errorf("P18.1: %d sums stop at %d places and are worth %s, not %s", many, len(stops), brief(v), brief(want))
		}
	}
}

// TestManyInstructions runs code as long as there may be.
func TestManyInstructions(t *testing.T) {
	first := []api.Ins{{Op: api.IFetch}}
	all := func(in ...api.Ins) api.Code {
		p := slices.Clone(first)
		for len(p)+len(in) <= 8192 {
			p = append(p, in...)
		}
		return api.Code{Ins: p, Consts: []api.Value{num(1), txt("x")}}
	}
	here := api.Ins{Op: api.IHere, A: api.FRow}
	var hops []api.Ins
	for i := range 8191 {
		hops = append(hops, api.Ins{Op: api.IJump, A: i + 1})
	}
	nothing := slices.Repeat([]api.Ins{here, {Op: api.IDrop}}, 4094)
	branch := slices.Concat(first, []api.Ins{{Op: api.IIf, A: 8191, B: 8192}, {Op: api.IJump, A: 3}}, nothing, []api.Ins{here})
	choice := []api.Ins{first[0], {Op: api.IChoose, A: 4, T: slices.Repeat([]int{3, 2}, 4096)}, {Op: api.IJump, A: 3}, here}
	for what, p := range map[string]api.Code{
		"operations":  all(api.Ins{Op: api.IUn, A: api.UMinus}),
		"calls":       all(api.Ins{Op: api.IConst, A: 1}, api.Ins{Op: api.ICall, A: api.FExact, B: 2}),
		"texts":       all(api.Ins{Op: api.IConst, A: 1}, api.Ins{Op: api.IBin, A: api.BJoin}),
		"walks":       all(api.Ins{Op: api.IArea, C: 9, D: 2}, api.Ins{Op: api.IWalk, A: api.FSum, B: 2}),
		"fetches":     all(api.Ins{Op: api.IFetch, A: 5}, api.Ins{Op: api.IBin, A: api.BAdd}),
		"many places": all(api.Ins{Op: api.IArea}, api.Ins{Op: api.IOne}, api.Ins{Op: api.IDrop}),
		"a long way":  {Ins: branch},
		"hops":        {Ins: append(hops, here)},
		"choices":     {Ins: choice},
	} {
		within(t, what, func() {
			for _, v := range []api.Value{num(1), num(8192), num(8193), txt("y"), bad(api.ENA), no()} {
				likeTheModel(t, p, api.Spot{}, inTurn(v, num(2)))
			}
		})
	}
}

// TestHighStacks has as many items as there may be, and takes them at once or one by one.
func TestHighStacks(t *testing.T) {
	fetches := slices.Repeat([]api.Ins{{Op: api.IFetch, A: 3, B: 3}}, 1024)
	areas := slices.Repeat([]api.Ins{{Op: api.IArea}}, 1024)
	sums := slices.Repeat([]api.Ins{{Op: api.IBin, A: api.BAdd}}, 1023)
	for what, p := range map[string]api.Code{
		"one walk":           {Ins: append(slices.Clone(fetches), api.Ins{Op: api.IWalk, A: api.FSum, B: 1024})},
		"one walk of areas":  {Ins: append(slices.Clone(areas), api.Ins{Op: api.IWalk, A: api.FSum, B: 1024})},
		"one by one":         {Ins: slices.Concat(fetches, sums)},
		"all below an error": {Ins: slices.Concat(fetches, []api.Ins{{Op: api.IErr, A: 2048, B: 1023}}, sums)},
		"texts":              {Ins: append(slices.Clone(fetches), api.Ins{Op: api.IWalk, A: api.FConcat, B: 1024})},
	} {
		within(t, what, func() {
			for _, v := range []api.Value{num(1), bad(api.EDiv), txt(xs(32767)), txt(xs(31)), txt(xs(32)), blank()} {
				likeTheModel(t, p, api.Spot{}, inTurn(v))
			}
			likeTheModel(t, p, api.Spot{}, inTurn(append(slices.Repeat([]api.Value{num(1)}, 1023), bad(api.ENA))...))
		})
	}
}
