/- Values and lists of values in memory; no function of package calc in sight. What the small makers of package calc answer. Proved of the Go text. calc.as: a value as a letter of a row asks for it. Proved of the Go text. -/
import Derived.Test.YtgnmkhjilecdhaaGreatDoorTexts4
import Derived.Test.YtgnmkhjilecdhaaGreatDoorKeys4
namespace Go.Proofs.YtgnmkhjilecdhaaGreatDoor
open Go.RowKit Go.Sort
set_option linter.unusedVariables false

/-- A value's kind, number and text. -/
structure Va where
  k : Int
  i : Int
  t : ByteArray
abbrev Va.v (x : Va) : Value := vV x.k x.i x.t
theorem O3.putI {w : World} {b : Nat} {v0 v1 v2 : Value} (h : O3 w b v0 v1 v2) (u : Value) : O3 (w.setCell ⟨b, 1, none⟩ u) b v0 u v2 :=
  ⟨⟨put_c h.1.1 (by decide), World.cell?_setCell_same w _ u h.1.2.1, put_c h.1.2.2 (by decide)⟩, fun j => (World.frozen?_setCell _ _ _ _).trans (h.2 j)⟩
theorem O3.putT {w : World} {b : Nat} {v0 v1 v2 : Value} (h : O3 w b v0 v1 v2) (u : Value) : O3 (w.setCell ⟨b, 2, none⟩ u) b v0 v1 u :=
  ⟨⟨put_c h.1.1 (by decide), put_c h.1.2.1 (by decide), World.cell?_setCell_same w _ u h.1.2.2⟩, fun j => (World.frozen?_setCell _ _ _ _).trans (h.2 j)⟩
theorem ne_ad {a b i n : Nat} (hn : a ≠ b) : (⟨a, i, none⟩ : Addr) ≠ ⟨b, n, none⟩ := fun e => hn (by injection e)
theorem O3.otherF {w : World} {a b n : Nat} {v0 v1 v2 u : Value} (h : O3 w a v0 v1 v2) (hn : a ≠ b) : O3 (w.setCell ⟨b, n, none⟩ u) a v0 v1 v2 :=
  ⟨⟨(World.cell?_setCell_other _ _ _ _ (by simp [*])).trans h.1.1, (World.cell?_setCell_other _ _ _ _ (by simp [*])).trans h.1.2.1, (World.cell?_setCell_other _ _ _ _ (by simp [*])).trans h.1.2.2⟩, fun j => (World.frozen?_setCell _ _ _ _).trans (h.2 j)⟩
def VaAt (w : World) (b o : Nat) (x : Va) : Prop := w.cell? ⟨b, o, none⟩ = some (.int .i64 x.k) ∧ w.cell? ⟨b, o + 1, none⟩ = some (.int .i64 x.i) ∧ w.cell? ⟨b, o + 2, none⟩ = some (.string x.t)
theorem VaAt.keep {w w' : World} {b o : Nat} {x : Va} (h : VaAt w b o x) (hb : Below w.heap.size w w') : VaAt w' b o x := ⟨keep1 hb h.1, keep1 hb h.2.1, keep1 hb h.2.2⟩
/-- A list of values: empty, or with its cells. -/
def ValsAt (w : World) (a : Option Addr) (xs : List Va) : Prop := xs = [] ∨ ∃ b o, a = some ⟨b, o, none⟩ ∧ ∀ (j : Nat) (x : Va), xs[j]? = some x → VaAt w b (o + j * 3) x
theorem ValsAt.keep {w w' : World} {a : Option Addr} {xs : List Va} (h : ValsAt w a xs) (hb : Below w.heap.size w w') : ValsAt w' a xs := by
  rcases h with h | ⟨b, o, h, g⟩
  · exact .inl h
  · exact .inr ⟨b, o, h, fun j x hx => (g j x hx).keep hb⟩
theorem ValsAt.alloc {w : World} {a : Option Addr} {xs : List Va} (h : ValsAt w a xs) (ob : Obj) : ValsAt (w.alloc ob) a xs := h.keep ((Below.refl _ _).alloc (Nat.le_refl _) _)
theorem vals2 (w : World) (x y : Va) : ValsAt (w.alloc (.cells #[.int .i64 x.k, .int .i64 x.i, .string x.t, .int .i64 y.k, .int .i64 y.i, .string y.t] 30)) (some ⟨w.heap.size, 0, none⟩) [x, y] := by
  refine .inr ⟨_, _, rfl, fun j z hz => ?_⟩
  match j, hz with
  | 0, hz => obtain rfl : x = z := by simpa using hz
             refine ⟨?_, ?_, ?_⟩ <;> go_simp
  | 1, hz => obtain rfl : y = z := by simpa using hz
             refine ⟨?_, ?_, ?_⟩ <;> go_simp
/-- The first error of a list. -/
def fe : List Va → Option Va
  | [] => none
  | x :: r => if x.k = 4 then some x else fe r
abbrev feV : Option Va → Value
  | none => .tuple #[vV 0 0 no, .bool false]
  | some x => .tuple #[x.v, .bool true]
theorem fe_drop (xs : List Va) (j : Nat) (h : j < xs.length) : fe (xs.drop j) = if xs[j].k = 4 then some xs[j] else fe (xs.drop (j + 1)) := by
  rw [List.drop_eq_getElem_cons h, fe]
end Go.Proofs.YtgnmkhjilecdhaaGreatDoor
namespace Go.Proofs.YtgnmkhjilecdhaaGreatDoor
open Go.RowKit Go.Sort
set_option linter.unusedVariables false

set_option maxHeartbeats 400000 in
theorem cfault_is (e : Int) : CallIs 18 #[.int .i64 e] (vV 4 e no) := by
  intro w
  go_enter Tryz.func18, Tryz.ntmps18
  go_wp2_with fail
  go_returns
  exact ⟨rfl, by go_grown⟩
set_option maxHeartbeats 400000 in
theorem cnumber_is (n : Int) : CallIs 24 #[.int .i64 n] (vV 1 n no) := by
  intro w
  go_enter Tryz.func24, Tryz.ntmps24
  go_wp2_with fail
  go_returns
  exact ⟨rfl, by go_grown⟩
set_option maxHeartbeats 400000 in
theorem ctext_is (s : ByteArray) : CallIs 63 #[.string s] (vV 3 0 s) := by
  intro w
  go_enter Tryz.func63, Tryz.ntmps63
  go_wp2_with fail
  go_returns
  exact ⟨rfl, by go_grown⟩
set_option maxHeartbeats 400000 in
theorem ctruth_yes  : CallIs 29 #[.bool true] (vV 2 1 no) := by
  intro w
  go_enter Tryz.func29, Tryz.ntmps29
  go_wp2_with fail
  go_returns
  exact ⟨rfl, by go_grown⟩
set_option maxHeartbeats 400000 in
theorem ctruth_no  : CallIs 29 #[.bool false] (vV 2 0 no) := by
  intro w
  go_enter Tryz.func29, Tryz.ntmps29
  go_wp2_with fail
  go_returns
  exact ⟨rfl, by go_grown⟩
set_option maxHeartbeats 400000 in
theorem lnum_is (n : Int) : CallIs 9 #[.int .i64 n] (vV 1 n no) := by
  intro w
  go_enter Tryz.func9, Tryz.ntmps9
  go_wp2_with fail
  go_returns
  exact ⟨rfl, by go_grown⟩
set_option maxHeartbeats 400000 in
theorem ltext_is (s : ByteArray) : CallIs 10 #[.string s] (vV 3 0 s) := by
  intro w
  go_enter Tryz.func10, Tryz.ntmps10
  go_wp2_with fail
  go_returns
  exact ⟨rfl, by go_grown⟩
set_option maxHeartbeats 400000 in
theorem lbad_is (n : Int) : CallIs 8 #[.int .i64 n] (vV 4 n no) := by
  intro w
  go_enter Tryz.func8, Tryz.ntmps8
  go_wp2_with fail
  go_returns
  exact ⟨rfl, by go_grown⟩
/-- A truth as a value. -/
abbrev bV (b : Bool) : Value := vV 2 (if b then 1 else 0) no
theorem ctruth_is (b : Bool) : CallIs 29 #[.bool b] (bV b) := by
  cases b
  · exact ctruth_no
  · exact ctruth_yes
set_option maxHeartbeats 400000 in
theorem fitting_yes (n : Int) : CallIs 20 #[.int .i64 n, .bool true] (vV 1 n no) := by
  intro w
  go_enter Tryz.func20, Tryz.ntmps20
  try simp only [List.append]
  go_wp2_with fail
  refine ((cnumber_is n).out _).mono ?_
  rintro e w1 ⟨rfl, hb1⟩
  have B1 := hide (next (step (Below.refl w.heap.size w) _) hb1)
  have cr := hide ((O3.new w (.int .i64 0) (.int .i64 0) (.string no) 30).keep hb1)
  have crw100 := cr.out.1.1
  have crw101 := cr.out.1.2.1
  have crw102 := cr.out.1.2.2
  have crw10f := cr.out.2
  have B1p := hide (below_put3 (b := w.heap.size) (B1.out) (by omega) (.int .i64 1) (.int .i64 n) (.string no))
  replace cr := hide (cr.out.put (.int .i64 1) (.int .i64 n) (.string no))
  obtain ⟨w1p, hw1p⟩ : ∃ w1p, put3 w1 (w.heap.size) (.int .i64 1) (.int .i64 n) (.string no) = w1p := ⟨_, rfl⟩
  rw [hw1p] at B1p cr
  unfold put3 at hw1p
  have crw1p00 := cr.out.1.1
  have crw1p01 := cr.out.1.2.1
  have crw1p02 := cr.out.1.2.2
  go_wp2_with fail
  refine bodyPost_ret (by simp [results, Tryz.results20, go_sem, crw1p00, crw1p01, crw1p02]; try rfl) rfl ?_
  exact ⟨rfl, B1p.out⟩
set_option maxHeartbeats 400000 in
theorem fitting_no (n : Int) : CallIs 20 #[.int .i64 n, .bool false] (vV 4 2 no) := by
  intro w
  go_enter Tryz.func20, Tryz.ntmps20
  try simp only [List.append]
  go_wp2_with fail
  refine ((cfault_is 2).out _).mono ?_
  rintro e w1 ⟨rfl, hb1⟩
  have B1 := hide (next (step (Below.refl w.heap.size w) _) hb1)
  have cr := hide ((O3.new w (.int .i64 0) (.int .i64 0) (.string no) 30).keep hb1)
  have crw100 := cr.out.1.1
  have crw101 := cr.out.1.2.1
  have crw102 := cr.out.1.2.2
  have crw10f := cr.out.2
  have B1p := hide (below_put3 (b := w.heap.size) (B1.out) (by omega) (.int .i64 4) (.int .i64 2) (.string no))
  replace cr := hide (cr.out.put (.int .i64 4) (.int .i64 2) (.string no))
  obtain ⟨w1p, hw1p⟩ : ∃ w1p, put3 w1 (w.heap.size) (.int .i64 4) (.int .i64 2) (.string no) = w1p := ⟨_, rfl⟩
  rw [hw1p] at B1p cr
  unfold put3 at hw1p
  have crw1p00 := cr.out.1.1
  have crw1p01 := cr.out.1.2.1
  have crw1p02 := cr.out.1.2.2
  go_wp2_with fail
  refine bodyPost_ret (by simp [results, Tryz.results20, go_sem, crw1p00, crw1p01, crw1p02]; try rfl) rfl ?_
  exact ⟨rfl, B1p.out⟩
set_option maxHeartbeats 400000 in
theorem reck_ok (n : Int) : CallIs 22 #[.int .i64 n, .int .i64 0] (vV 1 n no) := by
  intro w
  go_enter Tryz.func22, Tryz.ntmps22
  try simp only [List.append]
  go_wp2_with fail
  refine ((cnumber_is n).out _).mono ?_
  rintro e w1 ⟨rfl, hb1⟩
  have B1 := hide (next (step (Below.refl w.heap.size w) _) hb1)
  have cr := hide ((O3.new w (.int .i64 0) (.int .i64 0) (.string no) 30).keep hb1)
  have crw100 := cr.out.1.1
  have crw101 := cr.out.1.2.1
  have crw102 := cr.out.1.2.2
  have crw10f := cr.out.2
  have B1p := hide (below_put3 (b := w.heap.size) (B1.out) (by omega) (.int .i64 1) (.int .i64 n) (.string no))
  replace cr := hide (cr.out.put (.int .i64 1) (.int .i64 n) (.string no))
  obtain ⟨w1p, hw1p⟩ : ∃ w1p, put3 w1 (w.heap.size) (.int .i64 1) (.int .i64 n) (.string no) = w1p := ⟨_, rfl⟩
  rw [hw1p] at B1p cr
  unfold put3 at hw1p
  have crw1p00 := cr.out.1.1
  have crw1p01 := cr.out.1.2.1
  have crw1p02 := cr.out.1.2.2
  go_wp2_with fail
  refine bodyPost_ret (by simp [results, Tryz.results22, go_sem, crw1p00, crw1p01, crw1p02]; try rfl) rfl ?_
  exact ⟨rfl, B1p.out⟩
set_option maxHeartbeats 400000 in
theorem reck_zero (n : Int) : CallIs 22 #[.int .i64 n, .int .i64 14] (vV 4 5 no) := by
  intro w
  go_enter Tryz.func22, Tryz.ntmps22
  try simp only [List.append]
  go_wp2_with fail
  refine ((cfault_is 5).out _).mono ?_
  rintro e w1 ⟨rfl, hb1⟩
  have B1 := hide (next (step (Below.refl w.heap.size w) _) hb1)
  have cr := hide ((O3.new w (.int .i64 0) (.int .i64 0) (.string no) 30).keep hb1)
  have crw100 := cr.out.1.1
  have crw101 := cr.out.1.2.1
  have crw102 := cr.out.1.2.2
  have crw10f := cr.out.2
  have B1p := hide (below_put3 (b := w.heap.size) (B1.out) (by omega) (.int .i64 4) (.int .i64 5) (.string no))
  replace cr := hide (cr.out.put (.int .i64 4) (.int .i64 5) (.string no))
  obtain ⟨w1p, hw1p⟩ : ∃ w1p, put3 w1 (w.heap.size) (.int .i64 4) (.int .i64 5) (.string no) = w1p := ⟨_, rfl⟩
  rw [hw1p] at B1p cr
  unfold put3 at hw1p
  have crw1p00 := cr.out.1.1
  have crw1p01 := cr.out.1.2.1
  have crw1p02 := cr.out.1.2.2
  go_wp2_with fail
  refine bodyPost_ret (by simp [results, Tryz.results22, go_sem, crw1p00, crw1p01, crw1p02]; try rfl) rfl ?_
  exact ⟨rfl, B1p.out⟩
set_option maxHeartbeats 400000 in
theorem reck_no (n e : Int) (h0 : (e == 0) = false) (h1 : (e == 14) = false) : CallIs 22 #[.int .i64 n, .int .i64 e] (vV 4 2 no) := by
  intro w
  go_enter Tryz.func22, Tryz.ntmps22
  try simp only [List.append]
  go_wp2_with fail
  refine ((cfault_is 2).out _).mono ?_
  rintro e w1 ⟨rfl, hb1⟩
  have B1 := hide (next (step (Below.refl w.heap.size w) _) hb1)
  have cr := hide ((O3.new w (.int .i64 0) (.int .i64 0) (.string no) 30).keep hb1)
  have crw100 := cr.out.1.1
  have crw101 := cr.out.1.2.1
  have crw102 := cr.out.1.2.2
  have crw10f := cr.out.2
  have B1p := hide (below_put3 (b := w.heap.size) (B1.out) (by omega) (.int .i64 4) (.int .i64 2) (.string no))
  replace cr := hide (cr.out.put (.int .i64 4) (.int .i64 2) (.string no))
  obtain ⟨w1p, hw1p⟩ : ∃ w1p, put3 w1 (w.heap.size) (.int .i64 4) (.int .i64 2) (.string no) = w1p := ⟨_, rfl⟩
  rw [hw1p] at B1p cr
  unfold put3 at hw1p
  have crw1p00 := cr.out.1.1
  have crw1p01 := cr.out.1.2.1
  have crw1p02 := cr.out.1.2.2
  go_wp2_with fail
  refine bodyPost_ret (by simp [results, Tryz.results22, go_sem, crw1p00, crw1p01, crw1p02]; try rfl) rfl ?_
  exact ⟨rfl, B1p.out⟩
set_option maxHeartbeats 400000 in
theorem count_ok (n : Int) : CallIs 79 #[.int .i64 n, .int .i64 0] (vV 1 n no) := by
  intro w
  go_enter Tryz.func79, Tryz.ntmps79
  try simp only [List.append]
  go_wp2_with fail
  refine ((cnumber_is n).out _).mono ?_
  rintro e w1 ⟨rfl, hb1⟩
  have B1 := hide (next (step (Below.refl w.heap.size w) _) hb1)
  have cr := hide ((O3.new w (.int .i64 0) (.int .i64 0) (.string no) 30).keep hb1)
  have crw100 := cr.out.1.1
  have crw101 := cr.out.1.2.1
  have crw102 := cr.out.1.2.2
  have crw10f := cr.out.2
  have B1p := hide (below_put3 (b := w.heap.size) (B1.out) (by omega) (.int .i64 1) (.int .i64 n) (.string no))
  replace cr := hide (cr.out.put (.int .i64 1) (.int .i64 n) (.string no))
  obtain ⟨w1p, hw1p⟩ : ∃ w1p, put3 w1 (w.heap.size) (.int .i64 1) (.int .i64 n) (.string no) = w1p := ⟨_, rfl⟩
  rw [hw1p] at B1p cr
  unfold put3 at hw1p
  have crw1p00 := cr.out.1.1
  have crw1p01 := cr.out.1.2.1
  have crw1p02 := cr.out.1.2.2
  go_wp2_with fail
  refine bodyPost_ret (by simp [results, Tryz.results79, go_sem, crw1p00, crw1p01, crw1p02]; try rfl) rfl ?_
  exact ⟨rfl, B1p.out⟩
set_option maxHeartbeats 400000 in
theorem count_no (n e : Int) (h0 : (e != 0) = true) : CallIs 79 #[.int .i64 n, .int .i64 e] (vV 4 4 no) := by
  intro w
  go_enter Tryz.func79, Tryz.ntmps79
  try simp only [List.append]
  go_wp2_with fail
  refine ((cfault_is 4).out _).mono ?_
  rintro e w1 ⟨rfl, hb1⟩
  have B1 := hide (next (step (Below.refl w.heap.size w) _) hb1)
  have cr := hide ((O3.new w (.int .i64 0) (.int .i64 0) (.string no) 30).keep hb1)
  have crw100 := cr.out.1.1
  have crw101 := cr.out.1.2.1
  have crw102 := cr.out.1.2.2
  have crw10f := cr.out.2
  have B1p := hide (below_put3 (b := w.heap.size) (B1.out) (by omega) (.int .i64 4) (.int .i64 4) (.string no))
  replace cr := hide (cr.out.put (.int .i64 4) (.int .i64 4) (.string no))
  obtain ⟨w1p, hw1p⟩ : ∃ w1p, put3 w1 (w.heap.size) (.int .i64 4) (.int .i64 4) (.string no) = w1p := ⟨_, rfl⟩
  rw [hw1p] at B1p cr
  unfold put3 at hw1p
  have crw1p00 := cr.out.1.1
  have crw1p01 := cr.out.1.2.1
  have crw1p02 := cr.out.1.2.2
  go_wp2_with fail
  refine bodyPost_ret (by simp [results, Tryz.results79, go_sem, crw1p00, crw1p01, crw1p02]; try rfl) rfl ?_
  exact ⟨rfl, B1p.out⟩
set_option maxHeartbeats 400000 in
theorem writ_ok (s : ByteArray) : CallIs 56 #[.string s, .int .i64 0] (vV 3 0 s) := by
  intro w
  go_enter Tryz.func56, Tryz.ntmps56
  try simp only [List.append]
  go_wp2_with fail
  refine ((ctext_is s).out _).mono ?_
  rintro e w1 ⟨rfl, hb1⟩
  have B1 := hide (next (step (Below.refl w.heap.size w) _) hb1)
  have cr := hide ((O3.new w (.int .i64 0) (.int .i64 0) (.string no) 30).keep hb1)
  have crw100 := cr.out.1.1
  have crw101 := cr.out.1.2.1
  have crw102 := cr.out.1.2.2
  have crw10f := cr.out.2
  have B1p := hide (below_put3 (b := w.heap.size) (B1.out) (by omega) (.int .i64 3) (.int .i64 0) (.string s))
  replace cr := hide (cr.out.put (.int .i64 3) (.int .i64 0) (.string s))
  obtain ⟨w1p, hw1p⟩ : ∃ w1p, put3 w1 (w.heap.size) (.int .i64 3) (.int .i64 0) (.string s) = w1p := ⟨_, rfl⟩
  rw [hw1p] at B1p cr
  unfold put3 at hw1p
  have crw1p00 := cr.out.1.1
  have crw1p01 := cr.out.1.2.1
  have crw1p02 := cr.out.1.2.2
  go_wp2_with fail
  refine bodyPost_ret (by simp [results, Tryz.results56, go_sem, crw1p00, crw1p01, crw1p02]; try rfl) rfl ?_
  exact ⟨rfl, B1p.out⟩
set_option maxHeartbeats 400000 in
theorem writ_no (s : ByteArray) (e : Int) (h0 : (e != 0) = true) : CallIs 56 #[.string s, .int .i64 e] (vV 4 4 no) := by
  intro w
  go_enter Tryz.func56, Tryz.ntmps56
  try simp only [List.append]
  go_wp2_with fail
  refine ((cfault_is 4).out _).mono ?_
  rintro e w1 ⟨rfl, hb1⟩
  have B1 := hide (next (step (Below.refl w.heap.size w) _) hb1)
  have cr := hide ((O3.new w (.int .i64 0) (.int .i64 0) (.string no) 30).keep hb1)
  have crw100 := cr.out.1.1
  have crw101 := cr.out.1.2.1
  have crw102 := cr.out.1.2.2
  have crw10f := cr.out.2
  have B1p := hide (below_put3 (b := w.heap.size) (B1.out) (by omega) (.int .i64 4) (.int .i64 4) (.string no))
  replace cr := hide (cr.out.put (.int .i64 4) (.int .i64 4) (.string no))
  obtain ⟨w1p, hw1p⟩ : ∃ w1p, put3 w1 (w.heap.size) (.int .i64 4) (.int .i64 4) (.string no) = w1p := ⟨_, rfl⟩
  rw [hw1p] at B1p cr
  unfold put3 at hw1p
  have crw1p00 := cr.out.1.1
  have crw1p01 := cr.out.1.2.1
  have crw1p02 := cr.out.1.2.2
  go_wp2_with fail
  refine bodyPost_ret (by simp [results, Tryz.results56, go_sem, crw1p00, crw1p01, crw1p02]; try rfl) rfl ?_
  exact ⟨rfl, B1p.out⟩
set_option maxHeartbeats 1000000 in
theorem csound_good {k i : Int} {t : ByteArray} (h : Good k i t) : CallIs 25 #[vV k i t] (vV k i t) := by
  intro w
  have HM := vmay_yes h
  clear h
  go_enter Tryz.func25, Tryz.ntmps25
  try simp only [List.append]
  go_wp2_with fail
  refine (HM.out _).mono ?_
  rintro e w1 ⟨rfl, hb1⟩
  have B1 := hide (next (step (step (Below.refl w.heap.size w) _) _) hb1)
  have cv := hide (((O3.new w (.int .i64 k) (.int .i64 i) (.string t) 30).alloc _).keep hb1)
  have cr := hide ((O3.new (w.alloc (vO k i t)) (.int .i64 0) (.int .i64 0) (.string no) 30).keep hb1)
  simp only [World.size_alloc] at cr
  have cvw100 := cv.out.1.1
  have cvw101 := cv.out.1.2.1
  have cvw102 := cv.out.1.2.2
  have crw100 := cr.out.1.1
  have crw101 := cr.out.1.2.1
  have crw102 := cr.out.1.2.2
  have crw10f := cr.out.2
  have B1p := hide (below_put3 (b := w.heap.size + 1) (B1.out) (by omega) (.int .i64 k) (.int .i64 i) (.string t))
  replace cv := hide (O3.other (b := w.heap.size + 1) (u0 := .int .i64 k) (u1 := .int .i64 i) (u2 := .string t) cv.out (by omega))
  replace cr := hide (cr.out.put (.int .i64 k) (.int .i64 i) (.string t))
  obtain ⟨w1p, hw1p⟩ : ∃ w1p, put3 w1 (w.heap.size + 1) (.int .i64 k) (.int .i64 i) (.string t) = w1p := ⟨_, rfl⟩
  rw [hw1p] at B1p cv cr
  unfold put3 at hw1p
  have crw1p00 := cr.out.1.1
  have crw1p01 := cr.out.1.2.1
  have crw1p02 := cr.out.1.2.2
  go_wp2_with fail
  refine bodyPost_ret (by simp [results, Tryz.results25, go_sem, crw1p00, crw1p01, crw1p02]; try rfl) rfl ?_
  exact ⟨rfl, B1p.out⟩
set_option maxHeartbeats 1000000 in
theorem csound_bad {k i : Int} {t : ByteArray} (h : ¬ Good k i t) : CallIs 25 #[vV k i t] (vV 4 4 no) := by
  intro w
  have HM := vmay_no h
  have HE := cfault_is 4
  clear h
  go_enter Tryz.func25, Tryz.ntmps25
  try simp only [List.append]
  go_wp2_with fail
  refine (HM.out _).mono ?_
  rintro e w1 ⟨rfl, hb1⟩
  have B1 := hide (next (step (step (Below.refl w.heap.size w) _) _) hb1)
  have cv := hide (((O3.new w (.int .i64 k) (.int .i64 i) (.string t) 30).alloc _).keep hb1)
  have cr := hide ((O3.new (w.alloc (vO k i t)) (.int .i64 0) (.int .i64 0) (.string no) 30).keep hb1)
  simp only [World.size_alloc] at cr
  go_wp2_with fail
  refine (HE.out _).mono ?_
  rintro e w2 ⟨rfl, hb2⟩
  have B2 := hide (next (B1.out) hb2)
  replace cv := hide (cv.out.keep hb2)
  replace cr := hide (cr.out.keep hb2)
  have crw200 := cr.out.1.1
  have crw201 := cr.out.1.2.1
  have crw202 := cr.out.1.2.2
  have crw20f := cr.out.2
  have B2p := hide (below_put3 (b := w.heap.size + 1) (B2.out) (by omega) (.int .i64 4) (.int .i64 4) (.string no))
  replace cv := hide (O3.other (b := w.heap.size + 1) (u0 := .int .i64 4) (u1 := .int .i64 4) (u2 := .string no) cv.out (by omega))
  replace cr := hide (cr.out.put (.int .i64 4) (.int .i64 4) (.string no))
  obtain ⟨w2p, hw2p⟩ : ∃ w2p, put3 w2 (w.heap.size + 1) (.int .i64 4) (.int .i64 4) (.string no) = w2p := ⟨_, rfl⟩
  rw [hw2p] at B2p cv cr
  unfold put3 at hw2p
  have crw2p00 := cr.out.1.1
  have crw2p01 := cr.out.1.2.1
  have crw2p02 := cr.out.1.2.2
  go_wp2_with fail
  refine bodyPost_ret (by simp [results, Tryz.results25, go_sem, crw2p00, crw2p01, crw2p02]; try rfl) rfl ?_
  exact ⟨rfl, B2p.out⟩
theorem good44 : Good 4 4 no := .inr (.inr (.inr (.inr ⟨rfl, ⟨by decide, by decide⟩, rfl⟩)))
/-- Does a comparison hold of an order? -/
def holdsB (op c : Int) : Bool := if op = 7 then c == 0 else if op = 8 then c != 0 else if op = 9 then decide (c < 0) else if op = 10 then decide (c ≤ 0) else if op = 11 then decide (0 < c) else decide (0 ≤ c)
set_option maxHeartbeats 2000000 in
theorem holds_is (op c : Int) (ho : op = 7 ∨ op = 8 ∨ op = 9 ∨ op = 10 ∨ op = 11 ∨ op = 12) (hc : c = -1 ∨ c = 0 ∨ c = 1) : CallIs 30 #[.int .i64 op, .int .i64 c] (.bool (holdsB op c)) := by
  intro w
  rcases ho with rfl | rfl | rfl | rfl | rfl | rfl <;> rcases hc with rfl | rfl | rfl
  all_goals
    go_enter Tryz.func30, Tryz.ntmps30
    go_wp2_with fail
    go_ret
    exact ⟨rfl, by go_grown⟩
theorem isOfOne_is (c : Int) : CallIs 15 #[.int .i64 c] (.bool (decide (c = 1 ∨ c = 2))) := by
  intro w
  by_cases h1 : c = 1
  · subst h1
    go_enter Tryz.func15, Tryz.ntmps15
    go_wp2_with fail
    go_ret
    exact ⟨rfl, by go_grown⟩
  · by_cases h2 : c = 2
    · subst h2
      go_enter Tryz.func15, Tryz.ntmps15
      go_wp2_with fail
      go_ret
      exact ⟨rfl, by go_grown⟩
    · have q1 : (c == 1) = false := by simp [h1]
      have q2 : (c == 2) = false := by simp [h2]
      have q3 : decide (c = 1 ∨ c = 2) = false := by simp [h1, h2]
      rw [q3]
      clear h1 h2 q3
      go_enter Tryz.func15, Tryz.ntmps15
      go_wp2_with fail
      go_ret
      exact ⟨rfl, by go_grown⟩
end Go.Proofs.YtgnmkhjilecdhaaGreatDoor
namespace Go.Proofs.YtgnmkhjilecdhaaGreatDoor
open Go.RowKit Go.Sort
set_option linter.unusedVariables false

set_option maxHeartbeats 1000000 in
theorem as_n (k i : Int) (t : ByteArray) (n : Int) (HN : CallIs 19 #[vV k i t] (iiV n 0)) : CallIs 118 #[.int .u8 110, vV k i t] (vV 1 n no) := by
  intro w
  go_enter Tryz.func118, Tryz.ntmps118
  try simp only [List.append]
  go_wp2_with fail
  refine (HN.out _).mono ?_
  rintro e w1 ⟨rfl, hb1⟩
  have B1 := hide (next (step (step (step (Below.refl w.heap.size w) _) _) _) hb1)
  have cv := hide ((((O3.new w (.int .i64 k) (.int .i64 i) (.string t) 30).alloc _).alloc _).keep hb1)
  have cr := hide (((O3.new (w.alloc (vO k i t)) (.int .i64 0) (.int .i64 0) (.string no) 30).alloc _).keep hb1)
  simp only [World.size_alloc] at cr
  have co := hide ((O3.new ((w.alloc (vO k i t)).alloc (vO 0 0 no)) (.int .i64 1) (.int .i64 0) (.string no) 30).keep hb1)
  simp only [World.size_alloc] at co
  have cou20 := co.out.1.1
  have cou21 := co.out.1.2.1
  have cou22 := co.out.1.2.2
  have cou2f := co.out.2
  have Bq1 := hide ((B1.out).setCell (p := ⟨w.heap.size + 2, 1, none⟩) (by show w.heap.size ≤ w.heap.size + 2; omega) (.int .i64 n))
  replace cv := hide (O3.otherF (b := w.heap.size + 2) (n := 1) (u := .int .i64 n) cv.out (by omega))
  replace cr := hide (O3.otherF (b := w.heap.size + 2) (n := 1) (u := .int .i64 n) cr.out (by omega))
  replace co := hide (co.out.putI (.int .i64 n))
  obtain ⟨wq1, hwq1⟩ : ∃ wq1, (w1).setCell ⟨w.heap.size + 2, 1, none⟩ (.int .i64 n) = wq1 := ⟨_, rfl⟩
  rw [hwq1] at Bq1 cv cr co
  have cou30 := co.out.1.1
  have cou31 := co.out.1.2.1
  have cou32 := co.out.1.2.2
  have cru50 := cr.out.1.1
  have cru51 := cr.out.1.2.1
  have cru52 := cr.out.1.2.2
  have cru5f := cr.out.2
  have Bq4 := hide (below_put3 (b := w.heap.size + 1) (Bq1.out) (by omega) (.int .i64 1) (.int .i64 n) (.string no))
  replace cv := hide (O3.other (b := w.heap.size + 1) (u0 := .int .i64 1) (u1 := .int .i64 n) (u2 := .string no) cv.out (by omega))
  replace cr := hide (cr.out.put (.int .i64 1) (.int .i64 n) (.string no))
  replace co := hide (O3.other (b := w.heap.size + 1) (u0 := .int .i64 1) (u1 := .int .i64 n) (u2 := .string no) co.out (by omega))
  obtain ⟨wq4, hwq4⟩ : ∃ wq4, put3 (wq1) (w.heap.size + 1) (.int .i64 1) (.int .i64 n) (.string no) = wq4 := ⟨_, rfl⟩
  rw [hwq4] at Bq4 cv cr co
  unfold put3 at hwq4
  have cru60 := cr.out.1.1
  have cru61 := cr.out.1.2.1
  have cru62 := cr.out.1.2.2
  go_wp2_with fail
  refine bodyPost_ret (by simp [results, Tryz.results118, go_sem, cru60, cru61, cru62]; try rfl) rfl ?_
  exact ⟨rfl, Bq4.out⟩
set_option maxHeartbeats 1000000 in
theorem as_n_bad (k i : Int) (t : ByteArray) (n z : Int) (hz : (z != 0) = true) (HN : CallIs 19 #[vV k i t] (iiV n z)) : CallIs 118 #[.int .u8 110, vV k i t] (vV 4 z no) := by
  intro w
  go_enter Tryz.func118, Tryz.ntmps118
  try simp only [List.append]
  have HE := cfault_is z
  go_wp2_with fail
  refine (HN.out _).mono ?_
  rintro e w1 ⟨rfl, hb1⟩
  have B1 := hide (next (step (step (step (Below.refl w.heap.size w) _) _) _) hb1)
  have cv := hide ((((O3.new w (.int .i64 k) (.int .i64 i) (.string t) 30).alloc _).alloc _).keep hb1)
  have cr := hide (((O3.new (w.alloc (vO k i t)) (.int .i64 0) (.int .i64 0) (.string no) 30).alloc _).keep hb1)
  simp only [World.size_alloc] at cr
  have co := hide ((O3.new ((w.alloc (vO k i t)).alloc (vO 0 0 no)) (.int .i64 1) (.int .i64 0) (.string no) 30).keep hb1)
  simp only [World.size_alloc] at co
  have cou20 := co.out.1.1
  have cou21 := co.out.1.2.1
  have cou22 := co.out.1.2.2
  have cou2f := co.out.2
  have Bq1 := hide ((B1.out).setCell (p := ⟨w.heap.size + 2, 1, none⟩) (by show w.heap.size ≤ w.heap.size + 2; omega) (.int .i64 n))
  replace cv := hide (O3.otherF (b := w.heap.size + 2) (n := 1) (u := .int .i64 n) cv.out (by omega))
  replace cr := hide (O3.otherF (b := w.heap.size + 2) (n := 1) (u := .int .i64 n) cr.out (by omega))
  replace co := hide (co.out.putI (.int .i64 n))
  obtain ⟨wq1, hwq1⟩ : ∃ wq1, (w1).setCell ⟨w.heap.size + 2, 1, none⟩ (.int .i64 n) = wq1 := ⟨_, rfl⟩
  rw [hwq1] at Bq1 cv cr co
  go_wp2_with fail
  refine (HE.out _).mono ?_
  rintro e w2 ⟨rfl, hb2⟩
  clear cou20
  clear cou21
  clear cou22
  clear cou2f
  have B2 := hide (next (Bq1.out) hb2)
  replace cv := hide (cv.out.keep hb2)
  replace cr := hide (cr.out.keep hb2)
  replace co := hide (co.out.keep hb2)
  have cru40 := cr.out.1.1
  have cru41 := cr.out.1.2.1
  have cru42 := cr.out.1.2.2
  have cru4f := cr.out.2
  have Bq3 := hide (below_put3 (b := w.heap.size + 1) (B2.out) (by omega) (.int .i64 4) (.int .i64 z) (.string no))
  replace cv := hide (O3.other (b := w.heap.size + 1) (u0 := .int .i64 4) (u1 := .int .i64 z) (u2 := .string no) cv.out (by omega))
  replace cr := hide (cr.out.put (.int .i64 4) (.int .i64 z) (.string no))
  replace co := hide (O3.other (b := w.heap.size + 1) (u0 := .int .i64 4) (u1 := .int .i64 z) (u2 := .string no) co.out (by omega))
  obtain ⟨wq3, hwq3⟩ : ∃ wq3, put3 (w2) (w.heap.size + 1) (.int .i64 4) (.int .i64 z) (.string no) = wq3 := ⟨_, rfl⟩
  rw [hwq3] at Bq3 cv cr co
  unfold put3 at hwq3
  have cru50 := cr.out.1.1
  have cru51 := cr.out.1.2.1
  have cru52 := cr.out.1.2.2
  go_wp2_with fail
  refine bodyPost_ret (by simp [results, Tryz.results118, go_sem, cru50, cru51, cru52]; try rfl) rfl ?_
  exact ⟨rfl, Bq3.out⟩
set_option maxHeartbeats 1000000 in
theorem as_t (k i : Int) (t : ByteArray) (s : ByteArray) (HN : CallT 99 #[vV k i t] (siV s 0)) : CallT 118 #[.int .u8 116, vV k i t] (vV 3 0 s) := by
  intro w ht
  have HT := hide ht
  clear ht
  go_enter Tryz.func118, Tryz.ntmps118
  try simp only [List.append]
  go_wp2_with fail
  refine (HN.out _ (tab_below HT.out (step (step (step (Below.refl w.heap.size w) _) _) _))).mono ?_
  rintro e w1 ⟨rfl, hb1⟩
  have B1 := hide (next (step (step (step (Below.refl w.heap.size w) _) _) _) hb1)
  have cv := hide ((((O3.new w (.int .i64 k) (.int .i64 i) (.string t) 30).alloc _).alloc _).keep hb1)
  have cr := hide (((O3.new (w.alloc (vO k i t)) (.int .i64 0) (.int .i64 0) (.string no) 30).alloc _).keep hb1)
  simp only [World.size_alloc] at cr
  have co := hide ((O3.new ((w.alloc (vO k i t)).alloc (vO 0 0 no)) (.int .i64 3) (.int .i64 0) (.string no) 30).keep hb1)
  simp only [World.size_alloc] at co
  have cou20 := co.out.1.1
  have cou21 := co.out.1.2.1
  have cou22 := co.out.1.2.2
  have cou2f := co.out.2
  have Bq1 := hide ((B1.out).setCell (p := ⟨w.heap.size + 2, 2, none⟩) (by show w.heap.size ≤ w.heap.size + 2; omega) (.string s))
  replace cv := hide (O3.otherF (b := w.heap.size + 2) (n := 2) (u := .string s) cv.out (by omega))
  replace cr := hide (O3.otherF (b := w.heap.size + 2) (n := 2) (u := .string s) cr.out (by omega))
  replace co := hide (co.out.putT (.string s))
  obtain ⟨wq1, hwq1⟩ : ∃ wq1, (w1).setCell ⟨w.heap.size + 2, 2, none⟩ (.string s) = wq1 := ⟨_, rfl⟩
  rw [hwq1] at Bq1 cv cr co
  have cou30 := co.out.1.1
  have cou31 := co.out.1.2.1
  have cou32 := co.out.1.2.2
  have cru50 := cr.out.1.1
  have cru51 := cr.out.1.2.1
  have cru52 := cr.out.1.2.2
  have cru5f := cr.out.2
  have Bq4 := hide (below_put3 (b := w.heap.size + 1) (Bq1.out) (by omega) (.int .i64 3) (.int .i64 0) (.string s))
  replace cv := hide (O3.other (b := w.heap.size + 1) (u0 := .int .i64 3) (u1 := .int .i64 0) (u2 := .string s) cv.out (by omega))
  replace cr := hide (cr.out.put (.int .i64 3) (.int .i64 0) (.string s))
  replace co := hide (O3.other (b := w.heap.size + 1) (u0 := .int .i64 3) (u1 := .int .i64 0) (u2 := .string s) co.out (by omega))
  obtain ⟨wq4, hwq4⟩ : ∃ wq4, put3 (wq1) (w.heap.size + 1) (.int .i64 3) (.int .i64 0) (.string s) = wq4 := ⟨_, rfl⟩
  rw [hwq4] at Bq4 cv cr co
  unfold put3 at hwq4
  have cru60 := cr.out.1.1
  have cru61 := cr.out.1.2.1
  have cru62 := cr.out.1.2.2
  go_wp2_with fail
  refine bodyPost_ret (by simp [results, Tryz.results118, go_sem, cru60, cru61, cru62]; try rfl) rfl ?_
  exact ⟨rfl, Bq4.out⟩
set_option maxHeartbeats 1000000 in
theorem as_t_bad (k i : Int) (t : ByteArray) (s : ByteArray) (z : Int) (hz : (z != 0) = true) (HN : CallT 99 #[vV k i t] (siV s z)) : CallT 118 #[.int .u8 116, vV k i t] (vV 4 z no) := by
  intro w ht
  have HT := hide ht
  clear ht
  go_enter Tryz.func118, Tryz.ntmps118
  try simp only [List.append]
  have HE := cfault_is z
  go_wp2_with fail
  refine (HN.out _ (tab_below HT.out (step (step (step (Below.refl w.heap.size w) _) _) _))).mono ?_
  rintro e w1 ⟨rfl, hb1⟩
  have B1 := hide (next (step (step (step (Below.refl w.heap.size w) _) _) _) hb1)
  have cv := hide ((((O3.new w (.int .i64 k) (.int .i64 i) (.string t) 30).alloc _).alloc _).keep hb1)
  have cr := hide (((O3.new (w.alloc (vO k i t)) (.int .i64 0) (.int .i64 0) (.string no) 30).alloc _).keep hb1)
  simp only [World.size_alloc] at cr
  have co := hide ((O3.new ((w.alloc (vO k i t)).alloc (vO 0 0 no)) (.int .i64 3) (.int .i64 0) (.string no) 30).keep hb1)
  simp only [World.size_alloc] at co
  have cou20 := co.out.1.1
  have cou21 := co.out.1.2.1
  have cou22 := co.out.1.2.2
  have cou2f := co.out.2
  have Bq1 := hide ((B1.out).setCell (p := ⟨w.heap.size + 2, 2, none⟩) (by show w.heap.size ≤ w.heap.size + 2; omega) (.string s))
  replace cv := hide (O3.otherF (b := w.heap.size + 2) (n := 2) (u := .string s) cv.out (by omega))
  replace cr := hide (O3.otherF (b := w.heap.size + 2) (n := 2) (u := .string s) cr.out (by omega))
  replace co := hide (co.out.putT (.string s))
  obtain ⟨wq1, hwq1⟩ : ∃ wq1, (w1).setCell ⟨w.heap.size + 2, 2, none⟩ (.string s) = wq1 := ⟨_, rfl⟩
  rw [hwq1] at Bq1 cv cr co
  go_wp2_with fail
  refine (HE.out _).mono ?_
  rintro e w2 ⟨rfl, hb2⟩
  clear cou20
  clear cou21
  clear cou22
  clear cou2f
  have B2 := hide (next (Bq1.out) hb2)
  replace cv := hide (cv.out.keep hb2)
  replace cr := hide (cr.out.keep hb2)
  replace co := hide (co.out.keep hb2)
  have cru40 := cr.out.1.1
  have cru41 := cr.out.1.2.1
  have cru42 := cr.out.1.2.2
  have cru4f := cr.out.2
  have Bq3 := hide (below_put3 (b := w.heap.size + 1) (B2.out) (by omega) (.int .i64 4) (.int .i64 z) (.string no))
  replace cv := hide (O3.other (b := w.heap.size + 1) (u0 := .int .i64 4) (u1 := .int .i64 z) (u2 := .string no) cv.out (by omega))
  replace cr := hide (cr.out.put (.int .i64 4) (.int .i64 z) (.string no))
  replace co := hide (O3.other (b := w.heap.size + 1) (u0 := .int .i64 4) (u1 := .int .i64 z) (u2 := .string no) co.out (by omega))
  obtain ⟨wq3, hwq3⟩ : ∃ wq3, put3 (w2) (w.heap.size + 1) (.int .i64 4) (.int .i64 z) (.string no) = wq3 := ⟨_, rfl⟩
  rw [hwq3] at Bq3 cv cr co
  unfold put3 at hwq3
  have cru50 := cr.out.1.1
  have cru51 := cr.out.1.2.1
  have cru52 := cr.out.1.2.2
  go_wp2_with fail
  refine bodyPost_ret (by simp [results, Tryz.results118, go_sem, cru50, cru51, cru52]; try rfl) rfl ?_
  exact ⟨rfl, Bq3.out⟩
set_option maxHeartbeats 1000000 in
theorem as_b_yes (k i : Int) (t : ByteArray) (HN : CallIs 136 #[vV k i t] (biV true 0)) : CallIs 118 #[.int .u8 98, vV k i t] (vV 2 1 no) := by
  intro w
  go_enter Tryz.func118, Tryz.ntmps118
  try simp only [List.append]
  have HE := ctruth_yes
  go_wp2_with fail
  refine (HN.out _).mono ?_
  rintro e w1 ⟨rfl, hb1⟩
  have B1 := hide (next (step (step (step (Below.refl w.heap.size w) _) _) _) hb1)
  have cv := hide ((((O3.new w (.int .i64 k) (.int .i64 i) (.string t) 30).alloc _).alloc _).keep hb1)
  have cr := hide (((O3.new (w.alloc (vO k i t)) (.int .i64 0) (.int .i64 0) (.string no) 30).alloc _).keep hb1)
  simp only [World.size_alloc] at cr
  have co := hide ((O3.new ((w.alloc (vO k i t)).alloc (vO 0 0 no)) (.int .i64 k) (.int .i64 i) (.string t) 30).keep hb1)
  simp only [World.size_alloc] at co
  go_wp2_with fail
  refine (HE.out _).mono ?_
  rintro e w2 ⟨rfl, hb2⟩
  have B2 := hide (next (B1.out) hb2)
  replace cv := hide (cv.out.keep hb2)
  replace cr := hide (cr.out.keep hb2)
  replace co := hide (co.out.keep hb2)
  have cou20 := co.out.1.1
  have cou21 := co.out.1.2.1
  have cou22 := co.out.1.2.2
  have cou2f := co.out.2
  have Bq1 := hide (below_put3 (b := w.heap.size + 2) (B2.out) (by omega) (.int .i64 2) (.int .i64 1) (.string no))
  replace cv := hide (O3.other (b := w.heap.size + 2) (u0 := .int .i64 2) (u1 := .int .i64 1) (u2 := .string no) cv.out (by omega))
  replace cr := hide (O3.other (b := w.heap.size + 2) (u0 := .int .i64 2) (u1 := .int .i64 1) (u2 := .string no) cr.out (by omega))
  replace co := hide (co.out.put (.int .i64 2) (.int .i64 1) (.string no))
  obtain ⟨wq1, hwq1⟩ : ∃ wq1, put3 (w2) (w.heap.size + 2) (.int .i64 2) (.int .i64 1) (.string no) = wq1 := ⟨_, rfl⟩
  rw [hwq1] at Bq1 cv cr co
  unfold put3 at hwq1
  have cou30 := co.out.1.1
  have cou31 := co.out.1.2.1
  have cou32 := co.out.1.2.2
  have cru50 := cr.out.1.1
  have cru51 := cr.out.1.2.1
  have cru52 := cr.out.1.2.2
  have cru5f := cr.out.2
  have Bq4 := hide (below_put3 (b := w.heap.size + 1) (Bq1.out) (by omega) (.int .i64 2) (.int .i64 1) (.string no))
  replace cv := hide (O3.other (b := w.heap.size + 1) (u0 := .int .i64 2) (u1 := .int .i64 1) (u2 := .string no) cv.out (by omega))
  replace cr := hide (cr.out.put (.int .i64 2) (.int .i64 1) (.string no))
  replace co := hide (O3.other (b := w.heap.size + 1) (u0 := .int .i64 2) (u1 := .int .i64 1) (u2 := .string no) co.out (by omega))
  obtain ⟨wq4, hwq4⟩ : ∃ wq4, put3 (wq1) (w.heap.size + 1) (.int .i64 2) (.int .i64 1) (.string no) = wq4 := ⟨_, rfl⟩
  rw [hwq4] at Bq4 cv cr co
  unfold put3 at hwq4
  have cru60 := cr.out.1.1
  have cru61 := cr.out.1.2.1
  have cru62 := cr.out.1.2.2
  go_wp2_with fail
  refine bodyPost_ret (by simp [results, Tryz.results118, go_sem, cru60, cru61, cru62]; try rfl) rfl ?_
  exact ⟨rfl, Bq4.out⟩
set_option maxHeartbeats 1000000 in
theorem as_b_bad_yes (k i : Int) (t : ByteArray) (z : Int) (hz : (z != 0) = true) (HN : CallIs 136 #[vV k i t] (biV true z)) : CallIs 118 #[.int .u8 98, vV k i t] (vV 4 z no) := by
  intro w
  go_enter Tryz.func118, Tryz.ntmps118
  try simp only [List.append]
  have HE := ctruth_yes
  have HE2 := cfault_is z
  go_wp2_with fail
  refine (HN.out _).mono ?_
  rintro e w1 ⟨rfl, hb1⟩
  have B1 := hide (next (step (step (step (Below.refl w.heap.size w) _) _) _) hb1)
  have cv := hide ((((O3.new w (.int .i64 k) (.int .i64 i) (.string t) 30).alloc _).alloc _).keep hb1)
  have cr := hide (((O3.new (w.alloc (vO k i t)) (.int .i64 0) (.int .i64 0) (.string no) 30).alloc _).keep hb1)
  simp only [World.size_alloc] at cr
  have co := hide ((O3.new ((w.alloc (vO k i t)).alloc (vO 0 0 no)) (.int .i64 k) (.int .i64 i) (.string t) 30).keep hb1)
  simp only [World.size_alloc] at co
  go_wp2_with fail
  refine (HE.out _).mono ?_
  rintro e w2 ⟨rfl, hb2⟩
  have B2 := hide (next (B1.out) hb2)
  replace cv := hide (cv.out.keep hb2)
  replace cr := hide (cr.out.keep hb2)
  replace co := hide (co.out.keep hb2)
  have cou20 := co.out.1.1
  have cou21 := co.out.1.2.1
  have cou22 := co.out.1.2.2
  have cou2f := co.out.2
  have Bq1 := hide (below_put3 (b := w.heap.size + 2) (B2.out) (by omega) (.int .i64 2) (.int .i64 1) (.string no))
  replace cv := hide (O3.other (b := w.heap.size + 2) (u0 := .int .i64 2) (u1 := .int .i64 1) (u2 := .string no) cv.out (by omega))
  replace cr := hide (O3.other (b := w.heap.size + 2) (u0 := .int .i64 2) (u1 := .int .i64 1) (u2 := .string no) cr.out (by omega))
  replace co := hide (co.out.put (.int .i64 2) (.int .i64 1) (.string no))
  obtain ⟨wq1, hwq1⟩ : ∃ wq1, put3 (w2) (w.heap.size + 2) (.int .i64 2) (.int .i64 1) (.string no) = wq1 := ⟨_, rfl⟩
  rw [hwq1] at Bq1 cv cr co
  unfold put3 at hwq1
  go_wp2_with fail
  refine (HE2.out _).mono ?_
  rintro e w3 ⟨rfl, hb3⟩
  clear cou20
  clear cou21
  clear cou22
  clear cou2f
  have B3 := hide (next (Bq1.out) hb3)
  replace cv := hide (cv.out.keep hb3)
  replace cr := hide (cr.out.keep hb3)
  replace co := hide (co.out.keep hb3)
  have cru40 := cr.out.1.1
  have cru41 := cr.out.1.2.1
  have cru42 := cr.out.1.2.2
  have cru4f := cr.out.2
  have Bq3 := hide (below_put3 (b := w.heap.size + 1) (B3.out) (by omega) (.int .i64 4) (.int .i64 z) (.string no))
  replace cv := hide (O3.other (b := w.heap.size + 1) (u0 := .int .i64 4) (u1 := .int .i64 z) (u2 := .string no) cv.out (by omega))
  replace cr := hide (cr.out.put (.int .i64 4) (.int .i64 z) (.string no))
  replace co := hide (O3.other (b := w.heap.size + 1) (u0 := .int .i64 4) (u1 := .int .i64 z) (u2 := .string no) co.out (by omega))
  obtain ⟨wq3, hwq3⟩ : ∃ wq3, put3 (w3) (w.heap.size + 1) (.int .i64 4) (.int .i64 z) (.string no) = wq3 := ⟨_, rfl⟩
  rw [hwq3] at Bq3 cv cr co
  unfold put3 at hwq3
  have cru50 := cr.out.1.1
  have cru51 := cr.out.1.2.1
  have cru52 := cr.out.1.2.2
  go_wp2_with fail
  refine bodyPost_ret (by simp [results, Tryz.results118, go_sem, cru50, cru51, cru52]; try rfl) rfl ?_
  exact ⟨rfl, Bq3.out⟩
set_option maxHeartbeats 1000000 in
theorem as_b_no (k i : Int) (t : ByteArray) (HN : CallIs 136 #[vV k i t] (biV false 0)) : CallIs 118 #[.int .u8 98, vV k i t] (vV 2 0 no) := by
  intro w
  go_enter Tryz.func118, Tryz.ntmps118
  try simp only [List.append]
  have HE := ctruth_no
  go_wp2_with fail
  refine (HN.out _).mono ?_
  rintro e w1 ⟨rfl, hb1⟩
  have B1 := hide (next (step (step (step (Below.refl w.heap.size w) _) _) _) hb1)
  have cv := hide ((((O3.new w (.int .i64 k) (.int .i64 i) (.string t) 30).alloc _).alloc _).keep hb1)
  have cr := hide (((O3.new (w.alloc (vO k i t)) (.int .i64 0) (.int .i64 0) (.string no) 30).alloc _).keep hb1)
  simp only [World.size_alloc] at cr
  have co := hide ((O3.new ((w.alloc (vO k i t)).alloc (vO 0 0 no)) (.int .i64 k) (.int .i64 i) (.string t) 30).keep hb1)
  simp only [World.size_alloc] at co
  go_wp2_with fail
  refine (HE.out _).mono ?_
  rintro e w2 ⟨rfl, hb2⟩
  have B2 := hide (next (B1.out) hb2)
  replace cv := hide (cv.out.keep hb2)
  replace cr := hide (cr.out.keep hb2)
  replace co := hide (co.out.keep hb2)
  have cou20 := co.out.1.1
  have cou21 := co.out.1.2.1
  have cou22 := co.out.1.2.2
  have cou2f := co.out.2
  have Bq1 := hide (below_put3 (b := w.heap.size + 2) (B2.out) (by omega) (.int .i64 2) (.int .i64 0) (.string no))
  replace cv := hide (O3.other (b := w.heap.size + 2) (u0 := .int .i64 2) (u1 := .int .i64 0) (u2 := .string no) cv.out (by omega))
  replace cr := hide (O3.other (b := w.heap.size + 2) (u0 := .int .i64 2) (u1 := .int .i64 0) (u2 := .string no) cr.out (by omega))
  replace co := hide (co.out.put (.int .i64 2) (.int .i64 0) (.string no))
  obtain ⟨wq1, hwq1⟩ : ∃ wq1, put3 (w2) (w.heap.size + 2) (.int .i64 2) (.int .i64 0) (.string no) = wq1 := ⟨_, rfl⟩
  rw [hwq1] at Bq1 cv cr co
  unfold put3 at hwq1
  have cou30 := co.out.1.1
  have cou31 := co.out.1.2.1
  have cou32 := co.out.1.2.2
  have cru50 := cr.out.1.1
  have cru51 := cr.out.1.2.1
  have cru52 := cr.out.1.2.2
  have cru5f := cr.out.2
  have Bq4 := hide (below_put3 (b := w.heap.size + 1) (Bq1.out) (by omega) (.int .i64 2) (.int .i64 0) (.string no))
  replace cv := hide (O3.other (b := w.heap.size + 1) (u0 := .int .i64 2) (u1 := .int .i64 0) (u2 := .string no) cv.out (by omega))
  replace cr := hide (cr.out.put (.int .i64 2) (.int .i64 0) (.string no))
  replace co := hide (O3.other (b := w.heap.size + 1) (u0 := .int .i64 2) (u1 := .int .i64 0) (u2 := .string no) co.out (by omega))
  obtain ⟨wq4, hwq4⟩ : ∃ wq4, put3 (wq1) (w.heap.size + 1) (.int .i64 2) (.int .i64 0) (.string no) = wq4 := ⟨_, rfl⟩
  rw [hwq4] at Bq4 cv cr co
  unfold put3 at hwq4
  have cru60 := cr.out.1.1
  have cru61 := cr.out.1.2.1
  have cru62 := cr.out.1.2.2
  go_wp2_with fail
  refine bodyPost_ret (by simp [results, Tryz.results118, go_sem, cru60, cru61, cru62]; try rfl) rfl ?_
  exact ⟨rfl, Bq4.out⟩
set_option maxHeartbeats 1000000 in
theorem as_b_bad_no (k i : Int) (t : ByteArray) (z : Int) (hz : (z != 0) = true) (HN : CallIs 136 #[vV k i t] (biV false z)) : CallIs 118 #[.int .u8 98, vV k i t] (vV 4 z no) := by
  intro w
  go_enter Tryz.func118, Tryz.ntmps118
  try simp only [List.append]
  have HE := ctruth_no
  have HE2 := cfault_is z
  go_wp2_with fail
  refine (HN.out _).mono ?_
  rintro e w1 ⟨rfl, hb1⟩
  have B1 := hide (next (step (step (step (Below.refl w.heap.size w) _) _) _) hb1)
  have cv := hide ((((O3.new w (.int .i64 k) (.int .i64 i) (.string t) 30).alloc _).alloc _).keep hb1)
  have cr := hide (((O3.new (w.alloc (vO k i t)) (.int .i64 0) (.int .i64 0) (.string no) 30).alloc _).keep hb1)
  simp only [World.size_alloc] at cr
  have co := hide ((O3.new ((w.alloc (vO k i t)).alloc (vO 0 0 no)) (.int .i64 k) (.int .i64 i) (.string t) 30).keep hb1)
  simp only [World.size_alloc] at co
  go_wp2_with fail
  refine (HE.out _).mono ?_
  rintro e w2 ⟨rfl, hb2⟩
  have B2 := hide (next (B1.out) hb2)
  replace cv := hide (cv.out.keep hb2)
  replace cr := hide (cr.out.keep hb2)
  replace co := hide (co.out.keep hb2)
  have cou20 := co.out.1.1
  have cou21 := co.out.1.2.1
  have cou22 := co.out.1.2.2
  have cou2f := co.out.2
  have Bq1 := hide (below_put3 (b := w.heap.size + 2) (B2.out) (by omega) (.int .i64 2) (.int .i64 0) (.string no))
  replace cv := hide (O3.other (b := w.heap.size + 2) (u0 := .int .i64 2) (u1 := .int .i64 0) (u2 := .string no) cv.out (by omega))
  replace cr := hide (O3.other (b := w.heap.size + 2) (u0 := .int .i64 2) (u1 := .int .i64 0) (u2 := .string no) cr.out (by omega))
  replace co := hide (co.out.put (.int .i64 2) (.int .i64 0) (.string no))
  obtain ⟨wq1, hwq1⟩ : ∃ wq1, put3 (w2) (w.heap.size + 2) (.int .i64 2) (.int .i64 0) (.string no) = wq1 := ⟨_, rfl⟩
  rw [hwq1] at Bq1 cv cr co
  unfold put3 at hwq1
  go_wp2_with fail
  refine (HE2.out _).mono ?_
  rintro e w3 ⟨rfl, hb3⟩
  clear cou20
  clear cou21
  clear cou22
  clear cou2f
  have B3 := hide (next (Bq1.out) hb3)
  replace cv := hide (cv.out.keep hb3)
  replace cr := hide (cr.out.keep hb3)
  replace co := hide (co.out.keep hb3)
  have cru40 := cr.out.1.1
  have cru41 := cr.out.1.2.1
  have cru42 := cr.out.1.2.2
  have cru4f := cr.out.2
  have Bq3 := hide (below_put3 (b := w.heap.size + 1) (B3.out) (by omega) (.int .i64 4) (.int .i64 z) (.string no))
  replace cv := hide (O3.other (b := w.heap.size + 1) (u0 := .int .i64 4) (u1 := .int .i64 z) (u2 := .string no) cv.out (by omega))
  replace cr := hide (cr.out.put (.int .i64 4) (.int .i64 z) (.string no))
  replace co := hide (O3.other (b := w.heap.size + 1) (u0 := .int .i64 4) (u1 := .int .i64 z) (u2 := .string no) co.out (by omega))
  obtain ⟨wq3, hwq3⟩ : ∃ wq3, put3 (w3) (w.heap.size + 1) (.int .i64 4) (.int .i64 z) (.string no) = wq3 := ⟨_, rfl⟩
  rw [hwq3] at Bq3 cv cr co
  unfold put3 at hwq3
  have cru50 := cr.out.1.1
  have cru51 := cr.out.1.2.1
  have cru52 := cr.out.1.2.2
  go_wp2_with fail
  refine bodyPost_ret (by simp [results, Tryz.results118, go_sem, cru50, cru51, cru52]; try rfl) rfl ?_
  exact ⟨rfl, Bq3.out⟩
set_option maxHeartbeats 1000000 in
theorem as_v (k i : Int) (t : ByteArray) : CallIs 118 #[.int .u8 118, vV k i t] (vV k i t) := by
  intro w
  go_enter Tryz.func118, Tryz.ntmps118
  go_wp2_with fail
  go_returns
  exact ⟨rfl, by go_grown⟩
end Go.Proofs.YtgnmkhjilecdhaaGreatDoor
