/- What the reference's Compare answers, for every two places: what package spot answers. Proved of the Go text. -/
import Derived.Test.YtjhfjpofmkofhaaDoorOrder
namespace Go.Proofs.YtjhfjpofmkofhaaDoor
open Go.RowKit Go.Sort
set_option linter.unusedVariables false

theorem ord2_lt {a b c d : Int} (h : a < c ∨ (a = c ∧ b < d)) : ord2 a b c d = -1 := by
  unfold ord2 ord1
  rcases h with h | ⟨rfl, h⟩
  · rw [if_pos h]; rfl
  · rw [if_neg (show ¬ a < a by omega), if_neg (show ¬ a < a by omega), if_pos rfl, if_pos h]
theorem ord2_gt {a b c d : Int} (h : c < a ∨ (a = c ∧ d < b)) : ord2 a b c d = 1 := by
  unfold ord2 ord1
  rcases h with h | ⟨rfl, h⟩
  · rw [if_neg (show ¬ a < c by omega), if_pos h]; rfl
  · rw [if_neg (show ¬ a < a by omega), if_neg (show ¬ a < a by omega), if_pos rfl, if_neg (by omega), if_pos h]
theorem ord2_eq (a b : Int) : ord2 a b a b = 0 := by
  unfold ord2 ord1
  rw [if_neg (show ¬ a < a by omega), if_neg (show ¬ a < a by omega), if_pos rfl, if_neg (by omega), if_neg (by omega)]
set_option maxHeartbeats 400000 in
theorem compareR (a b c d : Int) (w : World) : Calls Tryd.prog 25 #[spotV a b, spotV c d] w fun e w' => e = .returned (.int .i64 (ord2 a b c d)) ∧ Below w.heap.size w w' := by
  by_cases h1 : a < c
  · have HE := hide (ord2_lt (b := b) (d := d) (.inl h1))
    go_enter Tryd.func25, Tryd.ntmps25
    go_wp2_with fail
    go_ret
    rw [HE.out]; exact ⟨rfl, by go_grown⟩
  by_cases h2 : c < a
  · have HE := hide (ord2_gt (b := b) (d := d) (.inl h2))
    have n1 : (a == c) = false := by rw [beq_eq_false_iff_ne]; omega
    go_enter Tryd.func25, Tryd.ntmps25
    go_wp2_with fail
    go_ret
    rw [HE.out]; exact ⟨rfl, by go_grown⟩
  obtain rfl : a = c := by omega
  by_cases h3 : b < d
  · have HE := hide (ord2_lt (a := a) (c := a) (.inr ⟨rfl, h3⟩))
    go_enter Tryd.func25, Tryd.ntmps25
    go_wp2_with fail
    go_ret
    rw [HE.out]; exact ⟨rfl, by go_grown⟩
  by_cases h4 : d < b
  · have HE := hide (ord2_gt (a := a) (c := a) (.inr ⟨rfl, h4⟩))
    have n1 : (b == d) = false := by rw [beq_eq_false_iff_ne]; omega
    go_enter Tryd.func25, Tryd.ntmps25
    go_wp2_with fail
    go_ret
    rw [HE.out]; exact ⟨rfl, by go_grown⟩
  · obtain rfl : b = d := by omega
    have HE := hide (ord2_eq a b)
    go_enter Tryd.func25, Tryd.ntmps25
    go_wp2_with fail
    go_ret
    rw [HE.out]; exact ⟨rfl, by go_grown⟩
end Go.Proofs.YtjhfjpofmkofhaaDoor
