/- What spot.Compare answers, for every two places: the row order. Proved of the Go text. -/
import Derived.Test.YtjhfjpofmkofhaaDoorPlaces
import Derived.StillTailTactics
namespace Go.Proofs.YtjhfjpofmkofhaaDoor
open Go.RowKit Go.Sort
set_option linter.unusedVariables false

def ord1 (x y : Int) : Int := if x < y then -1 else if y < x then 1 else 0
def ord2 (a b c d : Int) : Int := if ord1 a c = 0 then ord1 b d else ord1 a c
theorem ord1_lt {x y : Int} (h : x < y) : ord1 x y = -1 := if_pos h
theorem ord1_gt {x y : Int} (h : y < x) : ord1 x y = 1 := by unfold ord1; rw [if_neg (by omega), if_pos h]
theorem ord1_eq {x y : Int} (h : x = y) : ord1 x y = 0 := by unfold ord1; rw [if_neg (by omega), if_neg (by omega)]

set_option maxHeartbeats 400000 in
theorem cmp_any (x y : Int) (w : World) : Calls Tryd.prog 39 #[.int .i64 x, .int .i64 y] w fun e w' => e = .returned (.int .i64 (ord1 x y)) ∧ w' = w := by
  by_cases h1 : x < y
  · have HE := hide (ord1_lt h1)
    go_enter Tryd.func39, Tryd.ntmps39
    go_wp2
    go_ret
    rw [HE.out]; exact ⟨rfl, rfl⟩
  · by_cases h2 : y < x
    · have HE := hide (ord1_gt h2)
      go_enter Tryd.func39, Tryd.ntmps39
      go_wp2
      go_ret
      rw [HE.out]; exact ⟨rfl, rfl⟩
    · have HE := hide (ord1_eq (show x = y by omega))
      go_enter Tryd.func39, Tryd.ntmps39
      go_wp2
      go_ret
      rw [HE.out]; exact ⟨rfl, rfl⟩
set_option maxHeartbeats 400000 in
theorem or_any (x y : Int) (b : Nat) (w : World) (h0 : w.cell? ⟨b, 0, none⟩ = some (.int .i64 x)) (h1 : w.cell? ⟨b, 1, none⟩ = some (.int .i64 y)) : Calls Tryd.prog 38 #[.slice (some ⟨b, 0, none⟩) 2 2] w fun e w' => e = .returned (.int .i64 (if x = 0 then y else x)) ∧ w' = w := by
  cases h3 : (x != 0)
  · have z : x = 0 := by simpa using h3
    subst z
    cases h2 : (y != 0)
    · have z : y = 0 := by simpa using h2
      subst z
      go_enter Tryd.func38, Tryd.ntmps38
      go_wp2
      go_rounds 3
      go_ret
      exact ⟨rfl, rfl⟩
    · go_enter Tryd.func38, Tryd.ntmps38
      go_wp2
      go_rounds 3
      go_ret
      exact ⟨rfl, rfl⟩
  · have z : ¬ x = 0 := by simpa using h3
    rw [if_neg z]
    go_enter Tryd.func38, Tryd.ntmps38
    go_wp2
    go_rounds 3
    go_ret
    exact ⟨rfl, rfl⟩
theorem or_as (x y v : Int) (b : Nat) (w : World) (h0 : w.cell? ⟨b, 0, none⟩ = some (.int .i64 x)) (h1 : w.cell? ⟨b, 1, none⟩ = some (.int .i64 y)) (hv : v = if x = 0 then y else x) : Calls Tryd.prog 38 #[.slice (some ⟨b, 0, none⟩) 2 2] w fun e w' => e = .returned (.int .i64 v) ∧ w' = w := by
  rw [hv]; exact or_any x y b w h0 h1
theorem still_tail {P : Program} {id : Nat} {Q : Exit → Act → World → Prop} {a : Act} {w : World} {l : List Oper} (n : Nat) (hm : P.follows .mixedOrders = true) (hB : Region.lexTailB .any l.toArray n = true)
    (h : wpStill P l.toArray w.drew (fun a' => wpList P l.toArray Q (l.drop n) a' w.drew) (l.take n) a) : (Code.region id l.toArray true).wp P Q a w := wp_region_still_tail n hm hB h
set_option maxHeartbeats 1000000 in
theorem compare_any (a b c d : Int) (w : World) : Calls Tryd.prog 18 #[spotV a b, spotV c d] w fun e w' => e = .returned (.int .i64 (ord2 a b c d)) ∧ Below w.heap.size w w' := by
  go_enter Tryd.func18, Tryd.ntmps18
  go_wp2_with fail
  refine still_tail 10 (by kernel_rfl) (by kernel_rfl) ?_
  simp only [List.take_succ_cons, List.take_zero, List.drop_succ_cons, List.drop_zero]
  repeat (first | still_step | still_call (cmp_any _ _ _))
  refine wpStill_nil ?_
  go_wp2_with (go_at_call 38; refine (or_as (ord1 a c) (ord1 b d) (ord2 a b c d) _ _ (by go_simp) (by go_simp) rfl).mono ?_; rintro e w' ⟨rfl, rfl⟩)
  go_ret
  exact ⟨rfl, by go_grown⟩
end Go.Proofs.YtjhfjpofmkofhaaDoor
