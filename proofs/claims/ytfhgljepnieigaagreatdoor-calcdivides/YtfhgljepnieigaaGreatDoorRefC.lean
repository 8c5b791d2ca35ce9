/- The reference's Mod: what it answers, proved of the Go text. -/
import Derived.Test.YtfhgljepnieigaaGreatDoorRefB
import Derived.RegionTactic
namespace Go.Proofs.YtfhgljepnieigaaGreatDoor
open Go.RowKit Go.Sort
set_option linter.unusedVariables false

theorem bcell {W w1 : World} (hb : Below W.heap.size W w1) : (∀ b o, b < W.heap.size → w1.cell? ⟨b, o, none⟩ = W.cell? ⟨b, o, none⟩) ∧ (∀ b o, b < W.heap.size → w1.frozen? ⟨b, o, none⟩ = W.frozen? ⟨b, o, none⟩) :=
  ⟨fun b o h => hb.cell (p := ⟨b, o, none⟩) h, fun b o h => hb.frozen (p := ⟨b, o, none⟩) h⟩
set_option maxHeartbeats 400000 in
theorem refMod_zero (a : Int) (w : World) :
    Calls Tryz.prog 178 #[.int .i64 a, .int .i64 0] w fun e w' => e = .returned (.tuple #[.int .i64 0, .int .i64 14]) ∧ Below w.heap.size w w' := by
  go_enter Tryz.func178, Tryz.ntmps178
  go_wp2
  go_ret2
  exact ⟨rfl, Below.refl _ _⟩

set_option maxHeartbeats 1000000 in
theorem refMod_none (a b : Int) (v e0 : Int) (w : World) (ha : -9223372036854775808 ≤ a) (ha' : a ≤ 9223372036854775807) (hb : -9223372036854775808 ≤ b) (hb' : b ≤ 9223372036854775807) (zb : b ≠ 0) (hr : (((a.natAbs : Int) % (b.natAbs : Int)) != 0) = false) (HT : Hid (∀ w, Calls Tryz.prog 155 #[num (decide (a < 0)) false ((a.natAbs : Int) % (b.natAbs : Int))] w fun e w' => e = .returned (.tuple #[.int .i64 v, .int .i64 e0]) ∧ Below w.heap.size w w')) :
    Calls Tryz.prog 178 #[.int .i64 a, .int .i64 b] w fun e w' => e = .returned (.tuple #[.int .i64 v, .int .i64 e0]) ∧ Below w.heap.size w w' := by
  have tb : (b == 0) = false := by rw [beq_eq_false_iff_ne]; exact zb
  have tn : ((b.natAbs : Int) == 0) = false := by rw [beq_eq_false_iff_ne]; omega
  have n1 : (0 : Int) < (b.natAbs : Int) := by omega
  have n2 : (b.natAbs : Int) ≤ 9223372036854775808 := by omega
  have hdi : ((a.natAbs % b.natAbs : Nat) : Int) = (a.natAbs : Int) % (b.natAbs : Int) := by simp
  have hlt : a.natAbs % b.natAbs < b.natAbs := Nat.mod_lt _ (by omega)
  have d1 : (0 : Int) ≤ (a.natAbs : Int) % (b.natAbs : Int) := by rw [← hdi]; exact Int.natCast_nonneg _
  have d2 : (a.natAbs : Int) % (b.natAbs : Int) < 9223372036854775808 := by rw [← hdi]; omega
  clear hdi hlt zb
  go_enter Tryz.func178, Tryz.ntmps178
  go_wp2_with (go_at_call 153; refine (of_as _ _ _ _ (by omega) (by omega) rfl rfl).mono ?_; rintro e w' ⟨rfl, rfl⟩)
  go_region
  go_wp2_with (go_at_call 155; refine (HT.out _).mono ?_; rintro e w1 ⟨rfl, hb1⟩)
  go_ret2
  refine ⟨rfl, Below.trans ?_ (hb1.mono ?_)⟩
  · go_grown
  · simp; omega

set_option maxHeartbeats 1000000 in
theorem refMod_same (a b : Int) (v e0 : Int) (w : World) (ha : -9223372036854775808 ≤ a) (ha' : a ≤ 9223372036854775807) (hb : -9223372036854775808 ≤ b) (hb' : b ≤ 9223372036854775807) (zb : b ≠ 0) (hr : (((a.natAbs : Int) % (b.natAbs : Int)) != 0) = true) (hs : (decide (a < 0) == decide (b < 0)) = true) (HT : Hid (∀ w, Calls Tryz.prog 155 #[num (decide (a < 0)) false ((a.natAbs : Int) % (b.natAbs : Int))] w fun e w' => e = .returned (.tuple #[.int .i64 v, .int .i64 e0]) ∧ Below w.heap.size w w')) :
    Calls Tryz.prog 178 #[.int .i64 a, .int .i64 b] w fun e w' => e = .returned (.tuple #[.int .i64 v, .int .i64 e0]) ∧ Below w.heap.size w w' := by
  have tb : (b == 0) = false := by rw [beq_eq_false_iff_ne]; exact zb
  have tn : ((b.natAbs : Int) == 0) = false := by rw [beq_eq_false_iff_ne]; omega
  have n1 : (0 : Int) < (b.natAbs : Int) := by omega
  have n2 : (b.natAbs : Int) ≤ 9223372036854775808 := by omega
  have hdi : ((a.natAbs % b.natAbs : Nat) : Int) = (a.natAbs : Int) % (b.natAbs : Int) := by simp
  have hlt : a.natAbs % b.natAbs < b.natAbs := Nat.mod_lt _ (by omega)
  have d1 : (0 : Int) ≤ (a.natAbs : Int) % (b.natAbs : Int) := by rw [← hdi]; exact Int.natCast_nonneg _
  have d2 : (a.natAbs : Int) % (b.natAbs : Int) < 9223372036854775808 := by rw [← hdi]; omega
  clear hdi hlt zb
  go_enter Tryz.func178, Tryz.ntmps178
  go_wp2_with (go_at_call 153; refine (of_as _ _ _ _ (by omega) (by omega) rfl rfl).mono ?_; rintro e w' ⟨rfl, rfl⟩)
  go_region
  go_wp2_with (go_at_call 155; refine (HT.out _).mono ?_; rintro e w1 ⟨rfl, hb1⟩)
  go_ret2
  refine ⟨rfl, Below.trans ?_ (hb1.mono ?_)⟩
  · go_grown
  · simp; omega

set_option maxHeartbeats 1000000 in
theorem refMod_diff (a b : Int) (v e0 : Int) (w : World) (ha : -9223372036854775808 ≤ a) (ha' : a ≤ 9223372036854775807) (hb : -9223372036854775808 ≤ b) (hb' : b ≤ 9223372036854775807) (zb : b ≠ 0) (hr : (((a.natAbs : Int) % (b.natAbs : Int)) != 0) = true) (hs : (decide (a < 0) == decide (b < 0)) = false) (x : Int) (HX : Hid (IsN (decide (a < 0)) false ((a.natAbs : Int) % (b.natAbs : Int)) x)) (HF : Hid (Fit (x + b))) (hv : v = x + b) (he : e0 = 0) :
    Calls Tryz.prog 178 #[.int .i64 a, .int .i64 b] w fun e w' => e = .returned (.tuple #[.int .i64 v, .int .i64 e0]) ∧ Below w.heap.size w w' := by
  have tb : (b == 0) = false := by rw [beq_eq_false_iff_ne]; exact zb
  have tn : ((b.natAbs : Int) == 0) = false := by rw [beq_eq_false_iff_ne]; omega
  have n1 : (0 : Int) < (b.natAbs : Int) := by omega
  have n2 : (b.natAbs : Int) ≤ 9223372036854775808 := by omega
  have hdi : ((a.natAbs % b.natAbs : Nat) : Int) = (a.natAbs : Int) % (b.natAbs : Int) := by simp
  have hlt : a.natAbs % b.natAbs < b.natAbs := Nat.mod_lt _ (by omega)
  have d1 : (0 : Int) ≤ (a.natAbs : Int) % (b.natAbs : Int) := by rw [← hdi]; exact Int.natCast_nonneg _
  have d2 : (a.natAbs : Int) % (b.natAbs : Int) < 9223372036854775808 := by rw [← hdi]; omega
  clear hdi hlt zb
  have HY := hide (isN_of b hb hb')
  subst hv he
  go_enter Tryz.func178, Tryz.ntmps178
  go_wp2_with (go_at_call 153; refine (of_as _ _ _ _ (by omega) (by omega) rfl rfl).mono ?_; rintro e w' ⟨rfl, rfl⟩)
  go_region
  go_wp2_with fail
  refine (sum_is _ _ _ _ _ _ _ HX.out HY.out).mono ?_
  rintro e w1 ⟨p, o, c, rfl, hn, hb1⟩
  obtain ⟨hc, hf⟩ := bcell hb1
  have z1 := hb1.size
  simp at z1
  have HN := hide hn
  clear hn
  have hb1' := hide hb1
  clear hb1
  go_wp2_with fail
  refine (told_yes _ _ _ _ _ HN.out HF.out).mono ?_
  rintro e w2 ⟨rfl, hb2⟩
  go_wp2
  go_ret2
  have k1 : Below w.heap.size w w1 := by
    refine Below.trans ?_ (hb1'.out.mono ?_)
    · go_grown
    · simp; omega
  refine ⟨rfl, Below.trans ?_ (hb2.mono ?_)⟩
  · go_grown
  · simp; omega

theorem tdiv_sval (a b : Int) : a.tdiv b = sval (decide (a < 0) != decide (b < 0)) ((a.natAbs : Int) / (b.natAbs : Int)) := by
  have h : ∀ x y : Nat, ((x : Int)).tdiv (y : Int) = (x : Int) / (y : Int) := fun x y => Int.tdiv_eq_ediv_of_nonneg (by omega)
  unfold sval
  by_cases ha : a < 0 <;> by_cases hb : b < 0
  · obtain ⟨x, rfl⟩ : ∃ x : Nat, a = -(x : Int) := ⟨a.natAbs, by omega⟩
    obtain ⟨y, rfl⟩ : ∃ y : Nat, b = -(y : Int) := ⟨b.natAbs, by omega⟩
    rw [Int.neg_tdiv_neg, h, decide_eq_true ha, decide_eq_true hb]; simp
  · obtain ⟨x, rfl⟩ : ∃ x : Nat, a = -(x : Int) := ⟨a.natAbs, by omega⟩
    obtain ⟨y, rfl⟩ : ∃ y : Nat, b = (y : Int) := ⟨b.natAbs, by omega⟩
    rw [Int.neg_tdiv, h, decide_eq_true ha, decide_eq_false hb]; simp
  · obtain ⟨x, rfl⟩ : ∃ x : Nat, a = (x : Int) := ⟨a.natAbs, by omega⟩
    obtain ⟨y, rfl⟩ : ∃ y : Nat, b = -(y : Int) := ⟨b.natAbs, by omega⟩
    rw [Int.tdiv_neg, h, decide_eq_false ha, decide_eq_true hb]; simp
  · obtain ⟨x, rfl⟩ : ∃ x : Nat, a = (x : Int) := ⟨a.natAbs, by omega⟩
    obtain ⟨y, rfl⟩ : ∃ y : Nat, b = (y : Int) := ⟨b.natAbs, by omega⟩
    rw [h, decide_eq_false ha, decide_eq_false hb]; simp
theorem tmod_sval (a b : Int) : a.tmod b = sval (decide (a < 0)) ((a.natAbs : Int) % (b.natAbs : Int)) := by
  have e : ((a.natAbs % b.natAbs : Nat) : Int) = (a.natAbs : Int) % (b.natAbs : Int) := by simp
  have n : (a.tmod b).natAbs = a.natAbs % b.natAbs := Int.natAbs_tmod a b
  have s := tmod_sign a b
  rw [← e]
  unfold sval
  by_cases ha : a < 0
  · rw [if_pos (by simpa using ha)]
    have := s.2 (by omega); omega
  · rw [if_neg (by simpa using ha)]
    have := s.1 (by omega); omega

/-- Both answer the same. -/
def Agree (f g : FuncId) (args : Array Value) : Prop := ∃ v, (∀ w, Calls Tryz.prog f args w fun e w' => e = .returned v ∧ Below w.heap.size w w') ∧ (∀ w, Calls Tryz.prog g args w fun e w' => e = .returned v ∧ Below w.heap.size w w')
def Agree2 (f g : FuncId) (args : Array Value) : Prop := ∃ v e0 : Int, (∀ w, Calls Tryz.prog f args w fun e w' => e = .returned (.tuple #[.int .i64 v, .int .i64 e0]) ∧ Below w.heap.size w w') ∧ (∀ w, Calls Tryz.prog g args w fun e w' => e = .returned (.tuple #[.int .i64 v, .int .i64 e0]) ∧ Below w.heap.size w w')
theorem below_same {f : FuncId} {args : Array Value} {v : Value} {w : World} (h : Calls Tryz.prog f args w fun e w' => e = .returned v ∧ w' = w) : Calls Tryz.prog f args w fun e w' => e = .returned v ∧ Below w.heap.size w w' :=
  h.mono fun _ _ ⟨p, q⟩ => ⟨p, q ▸ Below.refl _ _⟩
theorem below_draws {f : FuncId} {args : Array Value} {v : Value} {w : World} (h : Calls Tryz.prog f args w fun e w' => e = .returned v ∧ ∃ n, w' = w.drewN n) : Calls Tryz.prog f args w fun e w' => e = .returned v ∧ Below w.heap.size w w' :=
  h.mono fun _ _ ⟨p, n, q⟩ => ⟨p, q ▸ below_drewN (Below.refl _ _) n⟩
theorem quo_agree (a b : Int) (ha : -9223372036854775808 ≤ a) (ha' : a ≤ 9223372036854775807) (hb : -9223372036854775808 ≤ b) (hb' : b ≤ 9223372036854775807) : Agree2 44 63 #[.int .i64 a, .int .i64 b] := by
  by_cases zb : b = 0
  · subst zb
    exact ⟨0, 14, fun w => below_same (quo_zero a w), fun w => refQuo_zero a w⟩
  have hdi : ((a.natAbs / b.natAbs : Nat) : Int) = (a.natAbs : Int) / (b.natAbs : Int) := by simp
  have hle : a.natAbs / b.natAbs ≤ a.natAbs := Nat.div_le_self _ _
  have hn := isN_plain (decide (a < 0) != decide (b < 0)) ((a.natAbs : Int) / (b.natAbs : Int)) (by rw [← hdi]; exact Int.natCast_nonneg _) (by rw [← hdi]; omega)
  rw [← tdiv_sval] at hn
  by_cases zn : a = -9223372036854775808 ∧ b = -1
  · obtain ⟨rfl, rfl⟩ := zn
    refine ⟨0, 13, fun w => below_same (quo_over w), fun w => refQuo_as _ _ 0 13 w ha ha' hb hb' zb (hide (fun w => told_no _ _ _ _ w hn ?_))⟩
    unfold Fit; decide +kernel
  · refine ⟨a.tdiv b, 0, fun w => below_same (quo_ok a b _ w rfl ha ha' zb zn), fun w => refQuo_as a b _ 0 w ha ha' hb hb' zb (hide (fun w => told_yes _ _ _ _ w hn (tdiv_fits a b ha ha' zb zn)))⟩
theorem mod_agree (a b : Int) (ha : -9223372036854775808 ≤ a) (ha' : a ≤ 9223372036854775807) (hb : -9223372036854775808 ≤ b) (hb' : b ≤ 9223372036854775807) : Agree2 79 178 #[.int .i64 a, .int .i64 b] := by
  by_cases zb : b = 0
  · subst zb
    exact ⟨0, 14, fun w => below_same (mod_zero a w), fun w => refMod_zero a w⟩
  have hdi : ((a.natAbs % b.natAbs : Nat) : Int) = (a.natAbs : Int) % (b.natAbs : Int) := by simp
  have hlt : a.natAbs % b.natAbs < b.natAbs := Nat.mod_lt _ (by omega)
  have hn := isN_plain (decide (a < 0)) ((a.natAbs : Int) % (b.natAbs : Int)) (by rw [← hdi]; exact Int.natCast_nonneg _) (by rw [← hdi]; omega)
  rw [← tmod_sval] at hn
  have hl := tmod_bd a b zb
  have hs := tmod_sign a b
  have hm : (a.tmod b).natAbs = a.natAbs % b.natAbs := Int.natAbs_tmod a b
  refine ⟨modV (a.tmod b) b, 0, fun w => below_same (mod_ok a b _ w rfl hb hb' zb), fun w => ?_⟩
  have hf : Fit (a.tmod b) := ⟨by omega, by omega⟩
  by_cases z : a.tmod b = 0
  · rw [show modV (a.tmod b) b = a.tmod b from if_neg (fun h => h.1 z)]
    exact refMod_none a b _ 0 w ha ha' hb hb' zb (by rw [← hdi]; simp; omega) (hide (fun w => told_yes _ _ _ _ w hn hf))
  · have hne : (((a.natAbs : Int) % (b.natAbs : Int)) != 0) = true := by rw [← hdi, bne_iff_ne]; omega
    by_cases h1 : (a.tmod b < 0 ↔ b < 0)
    · rw [show modV (a.tmod b) b = a.tmod b from if_neg (fun h => h.2 h1)]
      exact refMod_same a b _ 0 w ha ha' hb hb' zb hne (by rw [beq_iff_eq, decide_eq_decide]; omega) (hide (fun w => told_yes _ _ _ _ w hn hf))
    · rw [show modV (a.tmod b) b = a.tmod b + b from if_pos ⟨z, h1⟩]
      exact refMod_diff a b _ 0 w ha ha' hb hb' zb hne (by rw [beq_eq_false_iff_ne, ne_eq, decide_eq_decide]; omega) _ (hide hn) (hide ⟨by omega, by omega⟩) rfl rfl
end Go.Proofs.YtfhgljepnieigaaGreatDoor
