/- TreeAll: the law's walk, for every script. -/
import Derived.Test.YtgopolelpckjcaaPlays9
import Derived.Test.YtgopolelpckjcaaOpens9b
namespace Go.Proofs.Ytgopolelpckjcaa
open Go.RowKit Go.Sort
set_option linter.unusedVariables false

set_option maxHeartbeats 1000000 in
set_option maxRecDepth 100000 in
theorem treeAll_walk (a : Option Addr) (len cap : Nat) (w : World) (h : OpsAt w a len) : Calls Try.prog 3 #[.slice a len cap] w fun e w' => e = .returned (.bool true) ∧ Below w.heap.size w w' := by
  have HG := hide (begun9 w)
  have hsm := hide h.1
  replace h := hide h
  go_enter Try.func3, Try.ntmps3
  try simp only [List.append]
  go_wp2_with (first
    | (go_at_call 6; refine HG.out.mono ?_; rintro e w0 ⟨rfl, hb⟩; have b0 := hide hb; clear hb))
  go_loopw [3] (fun i wr => ∃ (k : Nat), k ≤ len ∧ i = .int .i64 k ∧ Hid (Below w0.heap.size w0 wr)) (fun i _ => len - (intOf i).toNat)
  case atStart => exact ⟨0, Nat.zero_le _, rfl, Below.refl _ _⟩
  case round =>
    obtain ⟨k, hkl, rfl, HB⟩ := hrel
    by_cases hlt : k < len
    · have p0 : (k : Int) < (len : Int) := by omega
      obtain ⟨b, o, rfl, kd, n1, ks, a1, l1, c1, n2, ls, a2, l2, c2, hr, h1, h2, hbl⟩ := h.out.get hlt
      have bw := hide (next b0.out HB.out)
      have R1 := hide (range_of_block hr (bw.out.block b hbl))
      have HP := hide (plays_any kd n1 ks a1 l1 c1 n2 ls a2 l2 c2 wr (h1.step bw.out) (h2.step bw.out))
      have wk := IntWalk.wrap64_in ((k : Int) + 1) ⟨by omega, by have := hsm.out; omega⟩
      clear hr h1 h2 hbl
      go_wp2_with (first
        | (refine wpList_load_at rfl 31 _ rfl _ _ rfl _ _ (by with_reducible exact R1.out) Try.underlying31 rfl (opC_info _ _ _ _ _) ?_)
        | (go_at_call 7; refine HP.out.mono ?_; rintro e w4 ⟨rfl, hb4⟩; have b4 := hide (next HB.out hb4); clear hb4))
      refine ⟨⟨k + 1, hlt, by rw [wk]; rfl, b4⟩, ?_⟩
      rw [wk]
      exact meas_lt hlt
    · obtain rfl : k = len := by omega
      go_wp2_with fail
      go_ret
      exact ⟨rfl, next b0.out HB.out⟩
end Go.Proofs.Ytgopolelpckjcaa
