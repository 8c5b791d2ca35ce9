/- What runes.Char answers, for every number: proved of the Go text. -/
import Derived.Test.YtgnmkhjilecdhaaGreatDoorK5J
namespace Go.Proofs.YtgnmkhjilecdhaaGreatDoor.T5
open Go.RowKit Go.Sort
set_option linter.unusedVariables false
set_option maxRecDepth 100000

theorem vr_a (r : Int) (h1 : 0 ≤ r) (h2 : r < 55296) : CallIs 117 #[.int .i32 r] (.bool true) := by
  intro w
  go_enter Tryz.func117, Tryz.ntmps117
  go_wp2_with fail
  go_ret
  exact ⟨rfl, Below.refl _ _⟩
theorem vr_b (r : Int) (h1 : 57343 < r) (h2 : r ≤ 1114111) : CallIs 117 #[.int .i32 r] (.bool true) := by
  intro w
  have a1 : 0 ≤ r := by omega
  have a2 : ¬ r < 55296 := by omega
  go_enter Tryz.func117, Tryz.ntmps117
  go_wp2_with fail
  go_ret
  exact ⟨rfl, Below.refl _ _⟩
theorem vr_c (r : Int) (h1 : 55296 ≤ r) (h2 : r ≤ 57343) : CallIs 117 #[.int .i32 r] (.bool false) := by
  intro w
  have a1 : 0 ≤ r := by omega
  have a2 : ¬ r < 55296 := by omega
  have a3 : ¬ 57343 < r := by omega
  go_enter Tryz.func117, Tryz.ntmps117
  go_wp2_with fail
  go_ret
  exact ⟨rfl, Below.refl _ _⟩
theorem char_no (n : Int) (h : ¬ isR n) : CallIs 82 #[.int .i64 n] (.tuple #[.string no, .int .i64 1]) := by
  intro w
  by_cases h1 : n < 0
  · go_enter Tryz.func82, Tryz.ntmps82
    go_wp2_with fail
    go_ret2
    exact ⟨rfl, Below.refl _ _⟩
  · by_cases h2 : n > 1114111
    · go_enter Tryz.func82, Tryz.ntmps82
      go_wp2_with fail
      go_ret2
      exact ⟨rfl, Below.refl _ _⟩
    · have h3 : 55296 ≤ n ∧ n ≤ 57343 := by unfold isR at h; omega
      have HV := vr_c n h3.1 h3.2
      have a1 : -2147483648 ≤ n := by omega
      have a2 : n ≤ 2147483647 := by omega
      go_enter Tryz.func82, Tryz.ntmps82
      go_wp2_with (go_at_call 117; refine (HV.out _).mono ?_; rintro e w1 ⟨rfl, hb⟩)
      go_ret2
      exact ⟨rfl, hb⟩
theorem char_yes (n : Nat) (h : isR n) : CallIs 82 #[.int .i64 n] (.tuple #[.string (Utf8.encode n), .int .i64 0]) := by
  intro w
  obtain ⟨h1, h2, h3⟩ := h
  have HV : CallIs 117 #[.int .i32 n] (.bool true) := by
    by_cases c : (n : Int) < 55296
    · exact vr_a n h1 c
    · exact vr_b n (by omega) h2
  have a0 : ¬ (n : Int) < 0 := by omega
  have a3 : ¬ (n : Int) > 1114111 := by omega
  have a1 : -2147483648 ≤ (n : Int) := by omega
  have a2 : (n : Int) ≤ 2147483647 := by omega
  go_enter Tryz.func82, Tryz.ntmps82
  go_wp2_with (go_at_call 117; refine (HV.out _).mono ?_; rintro e w1 ⟨rfl, hb⟩)
  go_ret2
  exact ⟨rfl, hb⟩
end Go.Proofs.YtgnmkhjilecdhaaGreatDoor.T5
