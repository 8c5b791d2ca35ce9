/- The reference's Sub, Quo, Mod: what each answers, proved of the Go text. -/
import Derived.Test.YtlgmcabnbmbocaaDoorRefIs
import Derived.Test.YtlgmcabnbmbocaaDoorQuoMod
import Derived.Deep.RegionWith
import Derived.Lib.QuietBelow
import Derived.BigQuiet
namespace Go.Proofs.YtlgmcabnbmbocaaDoor
open Go.RowKit Go.Sort
set_option linter.unusedVariables false

theorem isN_neg (n : Int) (h0 : -9223372036854775808 ≤ n) (h1 : n ≤ 9223372036854775807) : IsN (!decide (n < 0)) false (n.natAbs : Int) (-n) := by
  refine ⟨by omega, by omega, fun _ => ?_, (fun h => by cases h)⟩
  unfold sval
  by_cases h : n < 0
  · rw [if_neg (by simpa using h)]; omega
  · rw [if_pos (by simpa using h)]; omega
set_option maxHeartbeats 400000 in
theorem told_yes (s o : Bool) (m z : Int) (w : World) (h : IsN s o m z) (hf : Fit z) :
    Calls Tryd.prog 56 #[num s o m] w fun e w' => e = .returned (.tuple #[.int .i64 z, .int .i64 0]) ∧ Below w.heap.size w w' := by
  have HF := hide (fun w => fits_is_yes s o m z w h hf)
  clear h hf
  go_enter Tryd.func56, Tryd.ntmps56
  go_wp2_with (go_at_call 62; refine (HF.out _).mono ?_; rintro e w' ⟨rfl, hb⟩)
  go_ret2
  exact ⟨rfl, ((Below.refl _ _).alloc (Nat.le_refl _) _).trans (hb.mono (by simp))⟩
set_option maxHeartbeats 400000 in
theorem told_no (s o : Bool) (m z : Int) (w : World) (h : IsN s o m z) (hf : ¬ Fit z) :
    Calls Tryd.prog 56 #[num s o m] w fun e w' => e = .returned (.tuple #[.int .i64 0, .int .i64 13]) ∧ Below w.heap.size w w' := by
  have HF := hide (fun w => fits_is_no s o m z w h hf)
  clear h hf
  go_enter Tryd.func56, Tryd.ntmps56
  go_wp2_with (go_at_call 62; refine (HF.out _).mono ?_; rintro e w' ⟨rfl, hb⟩)
  go_ret2
  exact ⟨rfl, ((Below.refl _ _).alloc (Nat.le_refl _) _).trans (hb.mono (by simp))⟩

abbrev W4 (w : World) (s t : Bool) (m n : Int) : World := (((w.alloc (box s false m)).alloc (box t false n)).alloc (box s false m)).alloc (box t false n)
theorem below4 (w : World) (a b c d : Obj) : Below w.heap.size w ((((w.alloc a).alloc b).alloc c).alloc d) :=
  ((((Below.refl _ _).alloc (Nat.le_refl _) _).alloc (by simp) _).alloc (by simp; omega) _).alloc (by simp; omega) _
theorem cells4 (w : World) (s t : Bool) (m n : Int) :
    (∀ d os, (grow (redrawn (W4 w s t m n) d) os).cell? ⟨w.heap.size + 1 + 1, 0, none⟩ = some (.bool s)) ∧ (∀ d os, (grow (redrawn (W4 w s t m n) d) os).cell? ⟨w.heap.size + 1 + 1, 2, none⟩ = some (.int .u64 m)) ∧
    (∀ d os, (grow (redrawn (W4 w s t m n) d) os).cell? ⟨w.heap.size + 1 + 1 + 1, 0, none⟩ = some (.bool t)) ∧ (∀ d os, (grow (redrawn (W4 w s t m n) d) os).cell? ⟨w.heap.size + 1 + 1 + 1, 2, none⟩ = some (.int .u64 n)) := by
  refine ⟨cell_regrown ?_, cell_regrown ?_, cell_regrown ?_, cell_regrown ?_⟩ <;> go_simp
end Go.Proofs.YtlgmcabnbmbocaaDoor
