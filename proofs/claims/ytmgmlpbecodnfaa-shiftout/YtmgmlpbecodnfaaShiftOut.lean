/- quadrillelaw12.ShiftOut: what is taken out. -/
import Derived.Test.YtmgmlpbecodnfaaSo12a
import Derived.Test.YtmgmlpbecodnfaaSo12b
import Derived.Test.YtmgmlpbecodnfaaSo12c
import Derived.Test.YtmgmlpbecodnfaaSo12d
namespace Go.Proofs.Ytmgmlpbecodnfaa
open Go.RowKit Go.Sort
set_option linter.unusedVariables false

set_option maxHeartbeats 4000000 in
set_option maxRecDepth 100000 in
theorem so_none (a b t n : Int) (w : World) (h : a < 0 ∨ 65535 < a ∨ b < 0 ∨ 65535 < b ∨ t < 0 ∨ 65535 < t ∨ n < 1 ∨ 65536 < n) :
    Calls Try.prog 7 #[.int .i64 a, .int .i64 b, .int .i64 t, .int .i64 n] w fun e w' => e = .returned (.bool true) ∧ Below w.heap.size w w' := by
  go_enter Try.func7, Try.ntmps7
  go_wp2_with fail
  refine (begun12 _).mono ?_
  rintro e w1 ⟨rfl, hb⟩
  by_cases c0 : a < 0
  · clear h
    go_wp2_with fail
    go_ret
    exact ⟨rfl, hb⟩
  by_cases c1 : 65535 < a
  · clear h
    go_wp2_with fail
    go_ret
    exact ⟨rfl, hb⟩
  by_cases c2 : b < 0
  · clear h
    go_wp2_with fail
    go_ret
    exact ⟨rfl, hb⟩
  by_cases c3 : 65535 < b
  · clear h
    go_wp2_with fail
    go_ret
    exact ⟨rfl, hb⟩
  by_cases c4 : t < 0
  · clear h
    go_wp2_with fail
    go_ret
    exact ⟨rfl, hb⟩
  by_cases c5 : 65535 < t
  · clear h
    go_wp2_with fail
    go_ret
    exact ⟨rfl, hb⟩
  by_cases c6 : n < 1
  · clear h
    go_wp2_with fail
    go_ret
    exact ⟨rfl, hb⟩
  have c7 : 65536 < n := by omega
  clear h
  go_wp2_with fail
  go_ret
  exact ⟨rfl, hb⟩
theorem shiftOut_walk (a : Int) (ha : (Lit.int .i64 a).wf = true) (b : Int) (hb : (Lit.int .i64 b).wf = true) (t : Int) (ht : (Lit.int .i64 t).wf = true) (n : Int) (hn : (Lit.int .i64 n).wf = true) (w : World) :
    Calls Try.prog 7 #[.int .i64 a, .int .i64 b, .int .i64 t, .int .i64 n] w fun e w' => e = .returned (.bool true) ∧ Below w.heap.size w w' := by
  clear ha hb ht hn
  by_cases h : a < 0 ∨ 65535 < a ∨ b < 0 ∨ 65535 < b ∨ t < 0 ∨ 65535 < t ∨ n < 1 ∨ 65536 < n
  · exact so_none a b t n w h
  · by_cases h1 : a < t
    · exact so_a a b t n w (by omega) (by omega) (by omega) (by omega) (by omega) (by omega) (by omega) (by omega) h1
    · by_cases h2 : t + n ≤ a
      · exact so_b a b t n w (by omega) (by omega) (by omega) (by omega) (by omega) (by omega) (by omega) (by omega) h2
      · by_cases h3 : t ≤ b ∧ b < t + n
        · exact so_d a b t n w (by omega) (by omega) (by omega) (by omega) (by omega) (by omega) (by omega) (by omega) (by omega) (by omega) h3.1 h3.2
        · exact so_c a b t n w (by omega) (by omega) (by omega) (by omega) (by omega) (by omega) (by omega) (by omega) (by omega) (by omega) h3
end Go.Proofs.Ytmgmlpbecodnfaa
