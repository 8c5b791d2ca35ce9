/- What every law asks ahead: six fixed answers: they are given, whatever the world. Proved of the Go text. -/
import Derived.Test.YtdbdonpcdoeeiaaSum6
namespace Go.Proofs.Ytdbdonpcdoeeiaa
open Go.RowKit Go.Sort
set_option linter.unusedVariables false

abbrev aT : ByteArray := { data := #[97] }
theorem fnv_5 : fnvL (bsOf 1 5 no) % 2 ^ 64 = 5952115884808285843 := by decide +kernel
theorem fnv_a : fnvL (bsOf 3 0 aT) % 2 ^ 64 = 591747295564724201 := by decide +kernel
theorem bs_a : bsOf 3 0 aT = [3, 97] := by decide +kernel
theorem sum_5 : CallIs 11 #[vV 1 5 no, .int .i64 64] (.tuple #[.int .u64 5952115884808285843, .int .i64 0]) := by
  have h := sum_yes 1 5 no 64 (Nat.le_refl _)
  rw [fnv_5] at h
  exact h
theorem sum_a : CallIs 11 #[vV 3 0 aT, .int .i64 64] (.tuple #[.int .u64 591747295564724201, .int .i64 0]) := by
  have h := sum_yes 3 0 aT 64 (Nat.le_refl _)
  rw [fnv_a] at h
  exact h
set_option maxHeartbeats 2000000 in
theorem begun_is : CallIs 7 #[] (.bool true) := by
  intro w
  have H1 := sum_5
  have H2 := sum_a
  have H3 := sum_no 0 0 no 65 (.inr (by decide))
  have H4 := bytes_any 3 0 aT
  rw [bs_a] at H4
  go_enter Try.func7, Try.ntmps7
  go_wp2_with fail
  refine (H1.out _).mono ?_
  rintro e w1 ⟨rfl, hb1⟩
  have B1 := hide (next (Below.refl w.heap.size w) hb1)
  clear hb1
  go_wp2_with fail
  refine (H2.out _).mono ?_
  rintro e w2 ⟨rfl, hb2⟩
  have B2 := hide (next B1.out hb2)
  clear hb2
  go_wp2_with fail
  refine (H3.out _).mono ?_
  rintro e w3 ⟨rfl, hb3⟩
  have B3 := hide (next B2.out hb3)
  clear hb3
  go_wp2_with fail
  refine (H4.out _).mono ?_
  rintro e w4 ⟨v, rfl, hO, hb4⟩
  have B4 := hide (next B3.out hb4)
  clear hb4
  obtain ⟨g, cap, cur, rfl, _, _, hcap, _, _, hcell⟩ := hO.parts (by decide)
  have k0 := hcell 0 (by decide)
  have k1 := hcell 1 (by decide)
  replace hcap := hide hcap
  change w4.cell? _ = some (.int .u8 3) at k0
  change w4.cell? _ = some (.int .u8 97) at k1
  clear hcell hO
  go_wp2_with fail
  go_ret
  exact ⟨rfl, B4.out⟩
end Go.Proofs.Ytdbdonpcdoeeiaa
