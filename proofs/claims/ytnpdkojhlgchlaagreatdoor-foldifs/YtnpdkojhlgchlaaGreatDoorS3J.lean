/- Small facts that the walks of package area share: what a block's cells hold, how they are carried over calls; values of places and areas. What spot.May, the law's own test of a place, area.firstOf, area.lastOf, area.May and the reference's May answer, for every place and area. Proved of the Go text. What area.Size, the reference's Size and its Places answer, for every area. Proved of the Go text. -/
import Derived.Test.YtnpdkojhlgchlaaGreatDoorRows
import Derived.WalkKit
import Derived.WalkSpells
import Derived.WalkLawsBesides
import Derived.Deep.RegionWith
import Derived.Lib.QuietBelow
import Derived.BigQuiet
import Derived.Below
import Derived.Handy
namespace Go.Proofs.YtnpdkojhlgchlaaGreatDoor.T3
open Go.RowKit Go.Sort
set_option linter.unusedVariables false

theorem hide {p : Prop} (h : p) : Hid p := h
theorem ret_bool {a b : Bool} (h : a = b) : Ending.returned (.bool a) = .returned (.bool b) := by rw [h]
theorem ret_int {k : IntKind} {a b : Int} (h : a = b) : Ending.returned (.int k a) = .returned (.int k b) := by rw [h]
theorem bcell {W w1 : World} (hb : Below W.heap.size W w1) : (∀ b o, b < W.heap.size → w1.cell? ⟨b, o, none⟩ = W.cell? ⟨b, o, none⟩) ∧ (∀ b o, b < W.heap.size → w1.frozen? ⟨b, o, none⟩ = W.frozen? ⟨b, o, none⟩) :=
  ⟨fun b o h => hb.cell (p := ⟨b, o, none⟩) h, fun b o h => hb.frozen (p := ⟨b, o, none⟩) h⟩
theorem next {a w w' : World} (h : Below a.heap.size a w) (hb : Below w.heap.size w w') : Below a.heap.size a w' := h.trans (hb.mono h.size)
theorem step {a w : World} (h : Below a.heap.size a w) (o : Obj) : Below a.heap.size a (w.alloc o) := h.alloc h.size o
/-- What a block's first cells hold. -/
def C2 (w : World) (b : Nat) (v0 v1 : Value) : Prop := w.cell? ⟨b, 0, none⟩ = some v0 ∧ w.cell? ⟨b, 1, none⟩ = some v1
def C4 (w : World) (b : Nat) (v0 v1 v2 v3 : Value) : Prop := w.cell? ⟨b, 0, none⟩ = some v0 ∧ w.cell? ⟨b, 1, none⟩ = some v1 ∧ w.cell? ⟨b, 2, none⟩ = some v2 ∧ w.cell? ⟨b, 3, none⟩ = some v3
theorem keep1 {W w1 : World} {b o : Nat} {v : Value} (hb : Below W.heap.size W w1) (h : W.cell? ⟨b, o, none⟩ = some v) : w1.cell? ⟨b, o, none⟩ = some v := by
  rw [hb.cell (p := ⟨b, o, none⟩) (block_lt_of_cell h)]; exact h
theorem C2.keep {W w1 : World} {b : Nat} {v0 v1 : Value} (h : C2 W b v0 v1) (hb : Below W.heap.size W w1) : C2 w1 b v0 v1 := ⟨keep1 hb h.1, keep1 hb h.2⟩
theorem C4.keep {W w1 : World} {b : Nat} {v0 v1 v2 v3 : Value} (h : C4 W b v0 v1 v2 v3) (hb : Below W.heap.size W w1) : C4 w1 b v0 v1 v2 v3 := ⟨keep1 hb h.1, keep1 hb h.2.1, keep1 hb h.2.2.1, keep1 hb h.2.2.2⟩
theorem C2.alloc {W : World} {b : Nat} {v0 v1 : Value} (h : C2 W b v0 v1) (o : Obj) : C2 (W.alloc o) b v0 v1 := h.keep ((Below.refl _ _).alloc (Nat.le_refl _) _)
theorem C4.alloc {W : World} {b : Nat} {v0 v1 v2 v3 : Value} (h : C4 W b v0 v1 v2 v3) (o : Obj) : C4 (W.alloc o) b v0 v1 v2 v3 := h.keep ((Below.refl _ _).alloc (Nat.le_refl _) _)
theorem C2.new (W : World) (v0 v1 : Value) (t : TypeId) : C2 (W.alloc (.cells #[v0, v1] t)) W.heap.size v0 v1 := by constructor <;> go_simp
theorem C4.new (W : World) (v0 v1 v2 v3 : Value) (t : TypeId) : C4 (W.alloc (.cells #[v0, v1, v2, v3] t)) W.heap.size v0 v1 v2 v3 := by refine ⟨?_, ?_, ?_, ?_⟩ <;> go_simp
theorem C2.any {W : World} {b : Nat} {v0 v1 : Value} (h : C2 W b v0 v1) : (∀ o, (W.alloc o).cell? ⟨b, 0, none⟩ = some v0) ∧ (∀ o, (W.alloc o).cell? ⟨b, 1, none⟩ = some v1) := ⟨fun o => (h.alloc o).1, fun o => (h.alloc o).2⟩
theorem C4.any {W : World} {b : Nat} {v0 v1 v2 v3 : Value} (h : C4 W b v0 v1 v2 v3) : (∀ o, (W.alloc o).cell? ⟨b, 0, none⟩ = some v0) ∧ (∀ o, (W.alloc o).cell? ⟨b, 1, none⟩ = some v1) ∧ (∀ o, (W.alloc o).cell? ⟨b, 2, none⟩ = some v2) ∧ (∀ o, (W.alloc o).cell? ⟨b, 3, none⟩ = some v3) := ⟨fun o => (h.alloc o).1, fun o => (h.alloc o).2.1, fun o => (h.alloc o).2.2.1, fun o => (h.alloc o).2.2.2⟩
abbrev spotV (r c : Int) : Value := .agg #[.int .i64 r, .int .i64 c]
abbrev areaV (t l b r : Int) : Value := .agg #[.int .i64 t, .int .i64 l, .int .i64 b, .int .i64 r]
abbrev spotO (r c : Int) : Obj := .cells #[.int .i64 r, .int .i64 c] 47
abbrev areaO (t l b r : Int) : Obj := .cells #[.int .i64 t, .int .i64 l, .int .i64 b, .int .i64 r] 39
/-- Is it a place of the grid? -/
def mayB (r c : Int) : Bool := decide (0 ≤ r ∧ r < 65536 ∧ 0 ≤ c ∧ c < 702)
/-- May the area be? -/
def okA (t l b r : Int) : Bool := decide (0 ≤ t ∧ t ≤ b ∧ b < 65536 ∧ 0 ≤ l ∧ l ≤ r ∧ r < 702)
def eA (t l b r : Int) : Int := if okA t l b r then 0 else 11
theorem eA_ok {t l b r : Int} (h : 0 ≤ t ∧ t ≤ b ∧ b < 65536 ∧ 0 ≤ l ∧ l ≤ r ∧ r < 702) : eA t l b r = 0 := by unfold eA okA; rw [decide_eq_true h]; rfl
theorem eA_no {t l b r : Int} (h : ¬ (0 ≤ t ∧ t ≤ b ∧ b < 65536 ∧ 0 ≤ l ∧ l ≤ r ∧ r < 702)) : eA t l b r = 11 := by unfold eA okA; rw [decide_eq_false h]; rfl
theorem mayB_yes {r c : Int} (h : 0 ≤ r ∧ r < 65536 ∧ 0 ≤ c ∧ c < 702) : mayB r c = true := decide_eq_true h
theorem mayB_no {r c : Int} (h : ¬ (0 ≤ r ∧ r < 65536 ∧ 0 ≤ c ∧ c < 702)) : mayB r c = false := decide_eq_false h
def O4 (w : World) (b : Nat) (v0 v1 v2 v3 : Value) : Prop := C4 w b v0 v1 v2 v3 ∧ ∀ j, w.frozen? ⟨b, j, none⟩ = false
theorem O4.new (W : World) (v0 v1 v2 v3 : Value) (t : TypeId) : O4 (W.alloc (.cells #[v0, v1, v2, v3] t)) W.heap.size v0 v1 v2 v3 := ⟨C4.new W v0 v1 v2 v3 t, fun j => World.frozen?_alloc_at _ _ _ _ rfl⟩
theorem O4.keep {W w1 : World} {b : Nat} {v0 v1 v2 v3 : Value} (h : O4 W b v0 v1 v2 v3) (hb : Below W.heap.size W w1) : O4 w1 b v0 v1 v2 v3 :=
  ⟨h.1.keep hb, fun j => (hb.frozen (p := ⟨b, j, none⟩) (show b < _ from block_lt_of_cell h.1.1)).trans (h.2 j)⟩
theorem O4.alloc {W : World} {b : Nat} {v0 v1 v2 v3 : Value} (h : O4 W b v0 v1 v2 v3) (o : Obj) : O4 (W.alloc o) b v0 v1 v2 v3 := h.keep ((Below.refl _ _).alloc (Nat.le_refl _) _)
def O2 (w : World) (b : Nat) (v0 v1 : Value) : Prop := C2 w b v0 v1 ∧ ∀ j, w.frozen? ⟨b, j, none⟩ = false
theorem O2.new (W : World) (v0 v1 : Value) (t : TypeId) : O2 (W.alloc (.cells #[v0, v1] t)) W.heap.size v0 v1 := ⟨C2.new W v0 v1 t, fun j => World.frozen?_alloc_at _ _ _ _ rfl⟩
theorem O2.keep {W w1 : World} {b : Nat} {v0 v1 : Value} (h : O2 W b v0 v1) (hb : Below W.heap.size W w1) : O2 w1 b v0 v1 :=
  ⟨h.1.keep hb, fun j => (hb.frozen (p := ⟨b, j, none⟩) (show b < _ from block_lt_of_cell h.1.1)).trans (h.2 j)⟩
theorem O2.alloc {W : World} {b : Nat} {v0 v1 : Value} (h : O2 W b v0 v1) (o : Obj) : O2 (W.alloc o) b v0 v1 := h.keep ((Below.refl _ _).alloc (Nat.le_refl _) _)
/-- How many places an area that may be has: no number wraps round. -/
theorem prod_bound (m n : Int) (h1 : 0 ≤ m) (h2 : m ≤ 65536) (h3 : 0 ≤ n) (h4 : n ≤ 702) : 0 ≤ m * n ∧ m * n ≤ 46006272 :=
  ⟨Int.mul_nonneg h1 h3, by
    have a := Int.mul_le_mul_of_nonneg_right h2 h3
    have b := Int.mul_le_mul_of_nonneg_left h4 (show (0 : Int) ≤ 65536 by decide)
    have c : (65536 : Int) * 702 = 46006272 := by decide
    omega⟩
/-- What area.May answers of an area, whatever the world. -/
abbrev MayIs (t l b r e : Int) : Prop := Hid (∀ w, Calls Tryz.prog 86 #[areaV t l b r] w fun e' w' => e' = .returned (.int .i64 e) ∧ Below w.heap.size w w')
abbrev MayRIs (t l b r e : Int) : Prop := Hid (∀ w, Calls Tryz.prog 65 #[areaV t l b r] w fun e' w' => e' = .returned (.int .i64 e) ∧ Below w.heap.size w w')
/-- Does the area have the place? -/
def hasB (t l b r x y : Int) : Bool := okA t l b r && decide (t ≤ x ∧ x ≤ b ∧ l ≤ y ∧ y ≤ r)
theorem hasB_bad {t l b r : Int} (x y : Int) (h : okA t l b r = false) : hasB t l b r x y = false := by unfold hasB; rw [h]; rfl
theorem hasB_no {t l b r x y : Int} (h : ¬ (t ≤ x ∧ x ≤ b ∧ l ≤ y ∧ y ≤ r)) : hasB t l b r x y = false := by unfold hasB; rw [decide_eq_false h, Bool.and_false]
theorem hasB_yes {t l b r x y : Int} (ho : okA t l b r = true) (h : t ≤ x ∧ x ≤ b ∧ l ≤ y ∧ y ≤ r) : hasB t l b r x y = true := by unfold hasB; rw [decide_eq_true h, ho]; rfl
theorem eA_of {t l b r : Int} {k : Bool} (h : okA t l b r = k) : eA t l b r = if k then 0 else 11 := by unfold eA; rw [h]
theorem okA_iff {t l b r : Int} : okA t l b r = true ↔ (0 ≤ t ∧ t ≤ b ∧ b < 65536 ∧ 0 ≤ l ∧ l ≤ r ∧ r < 702) := by unfold okA; exact decide_eq_true_iff
theorem okA_not {t l b r : Int} : okA t l b r = false ↔ ¬ (0 ≤ t ∧ t ≤ b ∧ b < 65536 ∧ 0 ≤ l ∧ l ≤ r ∧ r < 702) := by unfold okA; exact decide_eq_false_iff_not
theorem ite_min (x y : Int) : (if y < x then y else x) = min x y := by split <;> omega
theorem ite_max (x y : Int) : (if x < y then y else x) = max x y := by split <;> omega
theorem below_drewN {B : Nat} {a w : World} (h : Below B a w) (n : Nat) : Below B a (w.drewN n) := ⟨h.os, h.tape, h.output, h.size, h.block⟩
end Go.Proofs.YtnpdkojhlgchlaaGreatDoor.T3
namespace Go.Proofs.YtnpdkojhlgchlaaGreatDoor.T3
open Go.RowKit Go.Sort
set_option linter.unusedVariables false

theorem may_any (r c : Int) (w : World) : Calls Tryz.prog 155 #[spotV r c] w fun e w' => e = .returned (.bool (mayB r c)) ∧ w' = w.alloc (spotO r c) := by
  by_cases h1 : 0 ≤ r
  · by_cases h2 : r < 65536
    · by_cases h3 : 0 ≤ c
      · by_cases h4 : c < 702
        · go_enter Tryz.func155, Tryz.ntmps155
          go_wp2
          go_ret
          exact ⟨ret_bool (by simp [mayB]; omega), rfl⟩
        · go_enter Tryz.func155, Tryz.ntmps155
          go_wp2
          go_ret
          exact ⟨ret_bool (by simp [mayB]; omega), rfl⟩
      · go_enter Tryz.func155, Tryz.ntmps155
        go_wp2
        go_ret
        exact ⟨ret_bool (by simp [mayB]; omega), rfl⟩
    · go_enter Tryz.func155, Tryz.ntmps155
      go_wp2
      go_ret
      exact ⟨ret_bool (by simp [mayB]; omega), rfl⟩
  · go_enter Tryz.func155, Tryz.ntmps155
    go_wp2
    go_ret
    exact ⟨ret_bool (by simp [mayB]; omega), rfl⟩
theorem first_any (t l b r : Int) (w : World) : Calls Tryz.prog 156 #[areaV t l b r] w fun e w' => e = .returned (spotV t l) ∧ Below w.heap.size w w' := by
  go_enter Tryz.func156, Tryz.ntmps156
  go_wp2_with fail
  go_returns
  exact ⟨rfl, by go_grown⟩
theorem last_any (t l b r : Int) (w : World) : Calls Tryz.prog 157 #[areaV t l b r] w fun e w' => e = .returned (spotV b r) ∧ Below w.heap.size w w' := by
  go_enter Tryz.func157, Tryz.ntmps157
  go_wp2_with fail
  go_returns
  exact ⟨rfl, by go_grown⟩
set_option maxHeartbeats 1000000 in
theorem amay_1 (t l b r : Int) (w : World) (hm1 : mayB t l = false) : Calls Tryz.prog 86 #[areaV t l b r] w fun e w' => e = .returned (.int .i64 11) ∧ Below w.heap.size w w' := by
  have HF := hide (first_any t l b r)
  have HL := hide (last_any t l b r)
  have HM := hide may_any
  go_enter Tryz.func86, Tryz.ntmps86
  go_wp2_with fail
  refine (HF.out _).mono ?_
  rintro e w1 ⟨rfl, hb1⟩
  have ca := hide ((C4.new w (.int .i64 t) (.int .i64 l) (.int .i64 b) (.int .i64 r) 39).keep hb1)
  have B1 := hide (next (step (Below.refl w.heap.size w) _) hb1)
  go_wp2_with fail
  refine (HM.out _ _ _).mono ?_
  rintro e w' ⟨rfl, rfl⟩
  rw [hm1]
  go_wp2_with fail
  go_returns
  exact ⟨rfl, step B1.out _⟩
set_option maxHeartbeats 1000000 in
theorem amay_2 (t l b r : Int) (w : World) (hm1 : mayB t l = true) (hm2 : mayB b r = false) : Calls Tryz.prog 86 #[areaV t l b r] w fun e w' => e = .returned (.int .i64 11) ∧ Below w.heap.size w w' := by
  have HF := hide (first_any t l b r)
  have HL := hide (last_any t l b r)
  have HM := hide may_any
  go_enter Tryz.func86, Tryz.ntmps86
  go_wp2_with fail
  refine (HF.out _).mono ?_
  rintro e w1 ⟨rfl, hb1⟩
  have ca := hide ((C4.new w (.int .i64 t) (.int .i64 l) (.int .i64 b) (.int .i64 r) 39).keep hb1)
  have B1 := hide (next (step (Below.refl w.heap.size w) _) hb1)
  go_wp2_with fail
  refine (HM.out _ _ _).mono ?_
  rintro e w' ⟨rfl, rfl⟩
  rw [hm1]
  obtain ⟨a0, a1, a2, a3⟩ := ca.out.any
  go_wp2_with fail
  refine (HL.out _).mono ?_
  rintro e w2 ⟨rfl, hb2⟩
  clear a0 a1 a2 a3
  replace ca := hide ((ca.out.alloc _).keep hb2)
  have B2 := hide (next (step B1.out _) hb2)
  go_wp2_with fail
  refine (HM.out _ _ _).mono ?_
  rintro e w' ⟨rfl, rfl⟩
  rw [hm2]
  obtain ⟨a0, a1, a2, a3⟩ := ca.out.any
  go_wp2_with fail
  go_returns
  exact ⟨rfl, step B2.out _⟩
set_option maxHeartbeats 1000000 in
theorem amay_3 (t l b r : Int) (w : World) (hm1 : mayB t l = true) (hm2 : mayB b r = true) (h : b < t) : Calls Tryz.prog 86 #[areaV t l b r] w fun e w' => e = .returned (.int .i64 11) ∧ Below w.heap.size w w' := by
  have HF := hide (first_any t l b r)
  have HL := hide (last_any t l b r)
  have HM := hide may_any
  go_enter Tryz.func86, Tryz.ntmps86
  go_wp2_with fail
  refine (HF.out _).mono ?_
  rintro e w1 ⟨rfl, hb1⟩
  have ca := hide ((C4.new w (.int .i64 t) (.int .i64 l) (.int .i64 b) (.int .i64 r) 39).keep hb1)
  have B1 := hide (next (step (Below.refl w.heap.size w) _) hb1)
  go_wp2_with fail
  refine (HM.out _ _ _).mono ?_
  rintro e w' ⟨rfl, rfl⟩
  rw [hm1]
  obtain ⟨a0, a1, a2, a3⟩ := ca.out.any
  go_wp2_with fail
  refine (HL.out _).mono ?_
  rintro e w2 ⟨rfl, hb2⟩
  clear a0 a1 a2 a3
  replace ca := hide ((ca.out.alloc _).keep hb2)
  have B2 := hide (next (step B1.out _) hb2)
  go_wp2_with fail
  refine (HM.out _ _ _).mono ?_
  rintro e w' ⟨rfl, rfl⟩
  rw [hm2]
  obtain ⟨a0, a1, a2, a3⟩ := ca.out.any
  go_wp2_with fail
  go_returns
  exact ⟨rfl, step B2.out _⟩
set_option maxHeartbeats 1000000 in
theorem amay_4 (t l b r : Int) (w : World) (hm1 : mayB t l = true) (hm2 : mayB b r = true) (h : ¬ b < t) (h' : r < l) : Calls Tryz.prog 86 #[areaV t l b r] w fun e w' => e = .returned (.int .i64 11) ∧ Below w.heap.size w w' := by
  have HF := hide (first_any t l b r)
  have HL := hide (last_any t l b r)
  have HM := hide may_any
  go_enter Tryz.func86, Tryz.ntmps86
  go_wp2_with fail
  refine (HF.out _).mono ?_
  rintro e w1 ⟨rfl, hb1⟩
  have ca := hide ((C4.new w (.int .i64 t) (.int .i64 l) (.int .i64 b) (.int .i64 r) 39).keep hb1)
  have B1 := hide (next (step (Below.refl w.heap.size w) _) hb1)
  go_wp2_with fail
  refine (HM.out _ _ _).mono ?_
  rintro e w' ⟨rfl, rfl⟩
  rw [hm1]
  obtain ⟨a0, a1, a2, a3⟩ := ca.out.any
  go_wp2_with fail
  refine (HL.out _).mono ?_
  rintro e w2 ⟨rfl, hb2⟩
  clear a0 a1 a2 a3
  replace ca := hide ((ca.out.alloc _).keep hb2)
  have B2 := hide (next (step B1.out _) hb2)
  go_wp2_with fail
  refine (HM.out _ _ _).mono ?_
  rintro e w' ⟨rfl, rfl⟩
  rw [hm2]
  obtain ⟨a0, a1, a2, a3⟩ := ca.out.any
  go_wp2_with fail
  go_returns
  exact ⟨rfl, step B2.out _⟩
set_option maxHeartbeats 1000000 in
theorem amay_5 (t l b r : Int) (w : World) (hm1 : mayB t l = true) (hm2 : mayB b r = true) (h : ¬ b < t) (h' : ¬ r < l) : Calls Tryz.prog 86 #[areaV t l b r] w fun e w' => e = .returned (.int .i64 0) ∧ Below w.heap.size w w' := by
  have HF := hide (first_any t l b r)
  have HL := hide (last_any t l b r)
  have HM := hide may_any
  go_enter Tryz.func86, Tryz.ntmps86
  go_wp2_with fail
  refine (HF.out _).mono ?_
  rintro e w1 ⟨rfl, hb1⟩
  have ca := hide ((C4.new w (.int .i64 t) (.int .i64 l) (.int .i64 b) (.int .i64 r) 39).keep hb1)
  have B1 := hide (next (step (Below.refl w.heap.size w) _) hb1)
  go_wp2_with fail
  refine (HM.out _ _ _).mono ?_
  rintro e w' ⟨rfl, rfl⟩
  rw [hm1]
  obtain ⟨a0, a1, a2, a3⟩ := ca.out.any
  go_wp2_with fail
  refine (HL.out _).mono ?_
  rintro e w2 ⟨rfl, hb2⟩
  clear a0 a1 a2 a3
  replace ca := hide ((ca.out.alloc _).keep hb2)
  have B2 := hide (next (step B1.out _) hb2)
  go_wp2_with fail
  refine (HM.out _ _ _).mono ?_
  rintro e w' ⟨rfl, rfl⟩
  rw [hm2]
  obtain ⟨a0, a1, a2, a3⟩ := ca.out.any
  go_wp2_with fail
  go_returns
  exact ⟨rfl, step B2.out _⟩
theorem amay_any (t l b r : Int) (w : World) : Calls Tryz.prog 86 #[areaV t l b r] w fun e w' => e = .returned (.int .i64 (eA t l b r)) ∧ Below w.heap.size w w' := by
  by_cases h1 : 0 ≤ t ∧ t < 65536 ∧ 0 ≤ l ∧ l < 702
  · by_cases h2 : 0 ≤ b ∧ b < 65536 ∧ 0 ≤ r ∧ r < 702
    · by_cases h3 : b < t
      · rw [eA_no (by omega)]; exact amay_3 t l b r w (mayB_yes h1) (mayB_yes h2) h3
      · by_cases h4 : r < l
        · rw [eA_no (by omega)]; exact amay_4 t l b r w (mayB_yes h1) (mayB_yes h2) h3 h4
        · rw [eA_ok (by omega)]; exact amay_5 t l b r w (mayB_yes h1) (mayB_yes h2) h3 h4
    · rw [eA_no (by omega)]; exact amay_2 t l b r w (mayB_yes h1) (mayB_no h2)
  · rw [eA_no (by omega)]; exact amay_1 t l b r w (mayB_no h1)
set_option maxHeartbeats 1000000 in
theorem rmay_any (t l b r : Int) (w : World) : Calls Tryz.prog 65 #[areaV t l b r] w fun e w' => e = .returned (.int .i64 (eA t l b r)) ∧ Below w.heap.size w w' := by
  by_cases h0 : t < 0
  · have HE := hide (eA_no (t := t) (l := l) (b := b) (r := r) (by omega))
    go_enter Tryz.func65, Tryz.ntmps65
    go_wp2_with fail
    go_ret
    exact ⟨ret_int HE.out.symm, by go_grown⟩
  by_cases h1 : b < t
  · have HE := hide (eA_no (t := t) (l := l) (b := b) (r := r) (by omega))
    go_enter Tryz.func65, Tryz.ntmps65
    go_wp2_with fail
    go_ret
    exact ⟨ret_int HE.out.symm, by go_grown⟩
  by_cases h2 : 65536 ≤ b
  · have HE := hide (eA_no (t := t) (l := l) (b := b) (r := r) (by omega))
    go_enter Tryz.func65, Tryz.ntmps65
    go_wp2_with fail
    go_ret
    exact ⟨ret_int HE.out.symm, by go_grown⟩
  by_cases h3 : l < 0
  · have HE := hide (eA_no (t := t) (l := l) (b := b) (r := r) (by omega))
    go_enter Tryz.func65, Tryz.ntmps65
    go_wp2_with fail
    go_ret
    exact ⟨ret_int HE.out.symm, by go_grown⟩
  by_cases h4 : r < l
  · have HE := hide (eA_no (t := t) (l := l) (b := b) (r := r) (by omega))
    go_enter Tryz.func65, Tryz.ntmps65
    go_wp2_with fail
    go_ret
    exact ⟨ret_int HE.out.symm, by go_grown⟩
  by_cases h5 : 702 ≤ r
  · have HE := hide (eA_no (t := t) (l := l) (b := b) (r := r) (by omega))
    go_enter Tryz.func65, Tryz.ntmps65
    go_wp2_with fail
    go_ret
    exact ⟨ret_int HE.out.symm, by go_grown⟩
  have HE := hide (eA_ok (t := t) (l := l) (b := b) (r := r) (by omega))
  go_enter Tryz.func65, Tryz.ntmps65
  go_wp2_with fail
  go_ret
  exact ⟨ret_int HE.out.symm, by go_grown⟩
end Go.Proofs.YtnpdkojhlgchlaaGreatDoor.T3
namespace Go.Proofs.YtnpdkojhlgchlaaGreatDoor.T3
open Go.RowKit Go.Sort
set_option linter.unusedVariables false

set_option maxHeartbeats 1000000 in
set_option maxRecDepth 100000 in
theorem asize_bad (t l b r : Int) (w : World) (HM : MayIs t l b r 11) :
    Calls Tryz.prog 39 #[areaV t l b r] w fun e w' => e = .returned (.tuple #[.int .i64 0, .int .i64 11]) ∧ Below w.heap.size w w' := by
  go_enter Tryz.func39, Tryz.ntmps39
  try simp only [List.append]
  go_wp2_with fail
  refine (HM.out _).mono ?_
  rintro e w1 ⟨rfl, hb1⟩
  have B1 := hide (next (step (Below.refl w.heap.size w) _) hb1)
  have ca := hide ((O4.new w (.int .i64 t) (.int .i64 l) (.int .i64 b) (.int .i64 r) 39).keep hb1)
  go_wp2_with fail
  go_ret2
  exact ⟨rfl, B1.out⟩
set_option maxHeartbeats 1000000 in
set_option maxRecDepth 100000 in
theorem asize_long (t l b r : Int) (w : World) (ho : 0 ≤ t ∧ t ≤ b ∧ b < 65536 ∧ 0 ≤ l ∧ l ≤ r ∧ r < 702) (hp : 4096 < (b - t + 1) * (r - l + 1)) (HM : MayIs t l b r 0) :
    Calls Tryz.prog 39 #[areaV t l b r] w fun e w' => e = .returned (.tuple #[.int .i64 0, .int .i64 2]) ∧ Below w.heap.size w w' := by
  obtain ⟨n1, n2⟩ := prod_bound (b - t + 1) (r - l + 1) (by omega) (by omega) (by omega) (by omega)
  obtain ⟨o1, o2, o3, o4, o5, o6⟩ := ho
  go_enter Tryz.func39, Tryz.ntmps39
  try simp only [List.append]
  go_wp2_with fail
  refine (HM.out _).mono ?_
  rintro e w1 ⟨rfl, hb1⟩
  have B1 := hide (next (step (Below.refl w.heap.size w) _) hb1)
  have ca := hide ((O4.new w (.int .i64 t) (.int .i64 l) (.int .i64 b) (.int .i64 r) 39).keep hb1)
  have ca00 := ca.out.1.1
  have ca01 := ca.out.1.2.1
  have ca02 := ca.out.1.2.2.1
  have ca03 := ca.out.1.2.2.2
  go_wp2_with fail
  go_quiet (fail)
  go_wp2_with fail
  go_ret2
  exact ⟨rfl, by first | exact below_drewN B1.out _ | exact B1.out.drew⟩
set_option maxHeartbeats 1000000 in
set_option maxRecDepth 100000 in
theorem asize_yes (t l b r : Int) (w : World) (ho : 0 ≤ t ∧ t ≤ b ∧ b < 65536 ∧ 0 ≤ l ∧ l ≤ r ∧ r < 702) (hp : ¬ 4096 < (b - t + 1) * (r - l + 1)) (HM : MayIs t l b r 0) :
    Calls Tryz.prog 39 #[areaV t l b r] w fun e w' => e = .returned (.tuple #[.int .i64 ((b - t + 1) * (r - l + 1)), .int .i64 0]) ∧ Below w.heap.size w w' := by
  obtain ⟨n1, n2⟩ := prod_bound (b - t + 1) (r - l + 1) (by omega) (by omega) (by omega) (by omega)
  obtain ⟨o1, o2, o3, o4, o5, o6⟩ := ho
  go_enter Tryz.func39, Tryz.ntmps39
  try simp only [List.append]
  go_wp2_with fail
  refine (HM.out _).mono ?_
  rintro e w1 ⟨rfl, hb1⟩
  have B1 := hide (next (step (Below.refl w.heap.size w) _) hb1)
  have ca := hide ((O4.new w (.int .i64 t) (.int .i64 l) (.int .i64 b) (.int .i64 r) 39).keep hb1)
  have ca00 := ca.out.1.1
  have ca01 := ca.out.1.2.1
  have ca02 := ca.out.1.2.2.1
  have ca03 := ca.out.1.2.2.2
  go_wp2_with fail
  go_quiet (fail)
  go_wp2_with fail
  go_ret2
  exact ⟨rfl, by first | exact below_drewN B1.out _ | exact B1.out.drew⟩
set_option maxHeartbeats 1000000 in
set_option maxRecDepth 100000 in
theorem rsize_bad (t l b r : Int) (w : World) (HM : MayRIs t l b r 11) :
    Calls Tryz.prog 29 #[areaV t l b r] w fun e w' => e = .returned (.tuple #[.int .i64 0, .int .i64 11]) ∧ Below w.heap.size w w' := by
  go_enter Tryz.func29, Tryz.ntmps29
  try simp only [List.append]
  go_wp2_with fail
  refine (HM.out _).mono ?_
  rintro e w1 ⟨rfl, hb1⟩
  have B1 := hide (next (step (Below.refl w.heap.size w) _) hb1)
  have ca := hide ((O4.new w (.int .i64 t) (.int .i64 l) (.int .i64 b) (.int .i64 r) 39).keep hb1)
  go_wp2_with fail
  go_ret2
  exact ⟨rfl, B1.out⟩
set_option maxHeartbeats 1000000 in
set_option maxRecDepth 100000 in
theorem rsize_long (t l b r : Int) (w : World) (ho : 0 ≤ t ∧ t ≤ b ∧ b < 65536 ∧ 0 ≤ l ∧ l ≤ r ∧ r < 702) (hp : 4096 < (b - t + 1) * (r - l + 1)) (HM : MayRIs t l b r 0) :
    Calls Tryz.prog 29 #[areaV t l b r] w fun e w' => e = .returned (.tuple #[.int .i64 0, .int .i64 2]) ∧ Below w.heap.size w w' := by
  obtain ⟨n1, n2⟩ := prod_bound (b - t + 1) (r - l + 1) (by omega) (by omega) (by omega) (by omega)
  obtain ⟨o1, o2, o3, o4, o5, o6⟩ := ho
  go_enter Tryz.func29, Tryz.ntmps29
  try simp only [List.append]
  go_wp2_with fail
  refine (HM.out _).mono ?_
  rintro e w1 ⟨rfl, hb1⟩
  have B1 := hide (next (step (Below.refl w.heap.size w) _) hb1)
  have ca := hide ((O4.new w (.int .i64 t) (.int .i64 l) (.int .i64 b) (.int .i64 r) 39).keep hb1)
  have ca00 := ca.out.1.1
  have ca01 := ca.out.1.2.1
  have ca02 := ca.out.1.2.2.1
  have ca03 := ca.out.1.2.2.2
  go_wp2_with fail
  go_ret2
  exact ⟨rfl, B1.out⟩
set_option maxHeartbeats 1000000 in
set_option maxRecDepth 100000 in
theorem rsize_yes (t l b r : Int) (w : World) (ho : 0 ≤ t ∧ t ≤ b ∧ b < 65536 ∧ 0 ≤ l ∧ l ≤ r ∧ r < 702) (hp : ¬ 4096 < (b - t + 1) * (r - l + 1)) (HM : MayRIs t l b r 0) :
    Calls Tryz.prog 29 #[areaV t l b r] w fun e w' => e = .returned (.tuple #[.int .i64 ((b - t + 1) * (r - l + 1)), .int .i64 0]) ∧ Below w.heap.size w w' := by
  obtain ⟨n1, n2⟩ := prod_bound (b - t + 1) (r - l + 1) (by omega) (by omega) (by omega) (by omega)
  obtain ⟨o1, o2, o3, o4, o5, o6⟩ := ho
  go_enter Tryz.func29, Tryz.ntmps29
  try simp only [List.append]
  go_wp2_with fail
  refine (HM.out _).mono ?_
  rintro e w1 ⟨rfl, hb1⟩
  have B1 := hide (next (step (Below.refl w.heap.size w) _) hb1)
  have ca := hide ((O4.new w (.int .i64 t) (.int .i64 l) (.int .i64 b) (.int .i64 r) 39).keep hb1)
  have ca00 := ca.out.1.1
  have ca01 := ca.out.1.2.1
  have ca02 := ca.out.1.2.2.1
  have ca03 := ca.out.1.2.2.2
  go_wp2_with fail
  go_ret2
  exact ⟨rfl, B1.out⟩
end Go.Proofs.YtnpdkojhlgchlaaGreatDoor.T3
