/- The reference's Sub, Quo, Mod: what each answers, proved of the Go text. -/
import Derived.Test.YtfhgljepnieigaaGreatDoorRefIs
import Derived.Test.YtfhgljepnieigaaGreatDoorQuoMod
import Derived.Deep.RegionWith
import Derived.Lib.QuietBelow
import Derived.BigQuiet
namespace Go.Proofs.YtfhgljepnieigaaGreatDoor
open Go.RowKit Go.Sort
set_option linter.unusedVariables false

theorem isN_neg (n : Int) (h0 : -9223372036854775808 ≤ n) (h1 : n ≤ 9223372036854775807) : IsN (!decide (n < 0)) false (n.natAbs : Int) (-n) := by
  refine ⟨by omega, by omega, fun _ => ?_, (fun h => by cases h)⟩
  unfold sval
  by_cases h : n < 0
  · rw [if_neg (by simpa using h)]; omega
  · rw [if_pos (by simpa using h)]; omega
set_option maxHeartbeats 400000 in
theorem told_yes (s o : Bool) (m z : Int) (w : World) (h : IsN s o m z) (hf : Fit z) :
    Calls Tryz.prog 155 #[num s o m] w fun e w' => e = .returned (.tuple #[.int .i64 z, .int .i64 0]) ∧ Below w.heap.size w w' := by
  have HF := hide (fun w => fits_is_yes s o m z w h hf)
  clear h hf
  go_enter Tryz.func155, Tryz.ntmps155
  go_wp2_with (go_at_call 151; refine (HF.out _).mono ?_; rintro e w' ⟨rfl, hb⟩)
  go_ret2
  exact ⟨rfl, ((Below.refl _ _).alloc (Nat.le_refl _) _).trans (hb.mono (by simp))⟩
set_option maxHeartbeats 400000 in
theorem told_no (s o : Bool) (m z : Int) (w : World) (h : IsN s o m z) (hf : ¬ Fit z) :
    Calls Tryz.prog 155 #[num s o m] w fun e w' => e = .returned (.tuple #[.int .i64 0, .int .i64 13]) ∧ Below w.heap.size w w' := by
  have HF := hide (fun w => fits_is_no s o m z w h hf)
  clear h hf
  go_enter Tryz.func155, Tryz.ntmps155
  go_wp2_with (go_at_call 151; refine (HF.out _).mono ?_; rintro e w' ⟨rfl, hb⟩)
  go_ret2
  exact ⟨rfl, ((Below.refl _ _).alloc (Nat.le_refl _) _).trans (hb.mono (by simp))⟩

set_option maxHeartbeats 1000000 in
theorem refSub (a b : Int) (w : World) (ha : -9223372036854775808 ≤ a) (ha' : a ≤ 9223372036854775807) (hb : -9223372036854775808 ≤ b) (hb' : b ≤ 9223372036854775807) :
    Calls Tryz.prog 60 #[.int .i64 a, .int .i64 b] w fun e w' => e = .returned (.tuple #[.int .i64 (sumV64 (a - b)), .bool (sumB64 (a - b))]) ∧ Below w.heap.size w w' := by
  have HA := hide (isN_of a ha ha')
  have HB := hide (isN_neg b hb hb')
  rw [Int.sub_eq_add_neg]
  go_enter Tryz.func60, Tryz.ntmps60
  go_wp2_with (go_at_call 153; refine (of_as _ _ _ _ (by omega) (by omega) rfl rfl).mono ?_; rintro e w' ⟨rfl, rfl⟩)
  go_region_with (first
    | (go_at_call 153; refine (of_as _ _ _ _ (by omega) (by omega) rfl rfl).mono ?_; rintro e w' ⟨rfl, rfl⟩)
    | (go_at_call 152; refine (sum_is _ _ _ _ _ _ _ HA.out HB.out).mono ?_; rintro e w1 ⟨r, o, c, rfl, hn, hb1⟩)
    | (go_at_call 151; refine (fits_is _ _ _ _ _ hn).mono ?_; rintro e w2 ⟨rfl, hb2⟩))
  all_goals
    go_wp2
    go_ret2
    have z1 := hb1.size
    simp at z1
    refine ⟨rfl, Below.trans (Below.trans ?_ (hb1.mono ?_)) (hb2.mono ?_)⟩
    · go_grown
    · simp; omega
    · omega

abbrev W4 (w : World) (s t : Bool) (m n : Int) : World := (((w.alloc (box s false m)).alloc (box t false n)).alloc (box s false m)).alloc (box t false n)
theorem below4 (w : World) (a b c d : Obj) : Below w.heap.size w ((((w.alloc a).alloc b).alloc c).alloc d) :=
  ((((Below.refl _ _).alloc (Nat.le_refl _) _).alloc (by simp) _).alloc (by simp; omega) _).alloc (by simp; omega) _
theorem cells4 (w : World) (s t : Bool) (m n : Int) :
    (∀ d os, (grow (redrawn (W4 w s t m n) d) os).cell? ⟨w.heap.size + 1 + 1, 0, none⟩ = some (.bool s)) ∧ (∀ d os, (grow (redrawn (W4 w s t m n) d) os).cell? ⟨w.heap.size + 1 + 1, 2, none⟩ = some (.int .u64 m)) ∧
    (∀ d os, (grow (redrawn (W4 w s t m n) d) os).cell? ⟨w.heap.size + 1 + 1 + 1, 0, none⟩ = some (.bool t)) ∧ (∀ d os, (grow (redrawn (W4 w s t m n) d) os).cell? ⟨w.heap.size + 1 + 1 + 1, 2, none⟩ = some (.int .u64 n)) := by
  refine ⟨cell_regrown ?_, cell_regrown ?_, cell_regrown ?_, cell_regrown ?_⟩ <;> go_simp
set_option maxHeartbeats 400000 in
theorem refQuo_zero (a : Int) (w : World) :
    Calls Tryz.prog 63 #[.int .i64 a, .int .i64 0] w fun e w' => e = .returned (.tuple #[.int .i64 0, .int .i64 14]) ∧ Below w.heap.size w w' := by
  go_enter Tryz.func63, Tryz.ntmps63
  go_wp2
  go_ret2
  exact ⟨rfl, Below.refl _ _⟩
set_option maxHeartbeats 1000000 in
theorem refQuo_as (a b : Int) (v e0 : Int) (w : World) (ha : -9223372036854775808 ≤ a) (ha' : a ≤ 9223372036854775807) (hb : -9223372036854775808 ≤ b) (hb' : b ≤ 9223372036854775807) (zb : b ≠ 0)
    (HT : Hid (∀ w, Calls Tryz.prog 155 #[num (decide (a < 0) != decide (b < 0)) false ((a.natAbs : Int) / (b.natAbs : Int))] w fun e w' => e = .returned (.tuple #[.int .i64 v, .int .i64 e0]) ∧ Below w.heap.size w w')) :
    Calls Tryz.prog 63 #[.int .i64 a, .int .i64 b] w fun e w' => e = .returned (.tuple #[.int .i64 v, .int .i64 e0]) ∧ Below w.heap.size w w' := by
  have tb : (b == 0) = false := by rw [beq_eq_false_iff_ne]; exact zb
  have tn : ((b.natAbs : Int) == 0) = false := by rw [beq_eq_false_iff_ne]; omega
  have n1 : (0 : Int) < (b.natAbs : Int) := by omega
  have n2 : (b.natAbs : Int) ≤ 9223372036854775808 := by omega
  have hdi : ((a.natAbs / b.natAbs : Nat) : Int) = (a.natAbs : Int) / (b.natAbs : Int) := by simp
  have hle : a.natAbs / b.natAbs ≤ a.natAbs := Nat.div_le_self _ _
  have d1 : (0 : Int) ≤ (a.natAbs : Int) / (b.natAbs : Int) := by rw [← hdi]; exact Int.natCast_nonneg _
  have d2 : (a.natAbs : Int) / (b.natAbs : Int) ≤ 9223372036854775808 := by rw [← hdi]; omega
  clear hdi hle zb
  obtain ⟨k0, k1, k2, k3⟩ := cells4 w (decide (a < 0)) (decide (b < 0)) (a.natAbs : Int) (b.natAbs : Int)
  have cT := fun d os => Calls.regrown_of (HT.out (grow (redrawn (W4 w (decide (a < 0)) (decide (b < 0)) (a.natAbs : Int) (b.natAbs : Int)) d) os))
  clear HT
  go_enter Tryz.func63, Tryz.ntmps63
  go_wp2_with (go_at_call 153; refine (of_as _ _ _ _ (by omega) (by omega) rfl rfl).mono ?_; rintro e w' ⟨rfl, rfl⟩)
  refine wp_region_quiet_below (by kernel_rfl) (by kernel_rfl) ?_
  repeat (go_big_quiet_step (exact cT _ _))
  refine wpQuiet_nil ?_
  intro _ hw'
  obtain ⟨⟨dq, osq⟩, hw''⟩ := hw'
  subst hw''
  go_wp2
  go_ret2
  refine ⟨rfl, Below.trans (below4 w _ _ _ _) ((below_regrown _ dq osq).mono ?_)⟩
  simp; omega
end Go.Proofs.YtfhgljepnieigaaGreatDoor
