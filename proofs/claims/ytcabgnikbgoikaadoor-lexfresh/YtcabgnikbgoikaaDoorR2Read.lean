/- What the reference's ReadRef, Read and Compare answer, for every text and every two places: what package spot answers. Proved of the Go text. -/
import Derived.Test.YtcabgnikbgoikaaDoorR2Form
import Derived.Test.YtcabgnikbgoikaaDoorOrder
import Derived.RegionTactic
import Derived.BigRegion
namespace Go.Proofs.YtcabgnikbgoikaaDoor
open Go.RowKit Go.Sort
set_option linter.unusedVariables false
set_option maxRecDepth 100000

theorem rowS_is (s : ByteArray) (h : synS s = false) : 1 ≤ rowS s ∧ 1 ≤ colS s := by
  have M := made_of s h
  obtain ⟨_, e2, e3, _, _⟩ := M.is
  refine ⟨?_, ?_⟩
  · rw [e3]; exact (dec_val _ (lead_num _ M.ds M.d0 M.lead)).2
  · rw [e2]
    by_cases hc : col (s.extract (cA s) (cB s)).data.toList ≤ 702
    · exact (caps_written _ M.ls M.l0 hc).2
    · omega
theorem rowR_is (D : List UInt8) : rowR D = if val D ≤ 65536 then (val D : Int) - 1 else 65536 := rfl
theorem colR_is (L : List UInt8) : colR L = if col L ≤ 702 then (col L : Int) - 1 else 702 := rfl
theorem fR_is (s : ByteArray) (h : synS s = false) : fR s = if rowS s ≤ 65536 then (rowS s : Int) - 1 else 65536 := by
  unfold fR rowS
  rw [if_neg (by rw [h]; decide), rowR_is]
theorem fC_is (s : ByteArray) (h : synS s = false) : fC s = if colS s ≤ 702 then (colS s : Int) - 1 else 702 := by
  unfold fC colS
  rw [if_neg (by rw [h]; decide), colR_is]
/-- The reference's parts on the grid and off it. -/
theorem form_on (s : ByteArray) (h : synS s = false) (ho : offS s = false) : fR s = rR s ∧ fC s = rC s ∧ fQ s = rQ s ∧ fP s = rP s ∧ rE s = 0 ∧ rN s = cD s ∧ mayB (rR s) (rC s) = true := by
  obtain ⟨g1, g2⟩ := rowS_is s h
  have ho' := ho
  unfold offS at ho
  simp only [Bool.or_eq_false_iff, decide_eq_false_iff_not] at ho
  have e1 : fR s = (rowS s : Int) - 1 := by rw [fR_is s h, if_pos (by omega)]
  have e2 : fC s = (colS s : Int) - 1 := by rw [fC_is s h, if_pos (by omega)]
  have e3 : rR s = (rowS s : Int) - 1 := by unfold rR; rw [h, ho']; simp
  have e4 : rC s = (colS s : Int) - 1 := by unfold rC; rw [h, ho']; simp
  refine ⟨by rw [e1, e3], by rw [e2, e4], by unfold fQ rQ; rw [h, ho']; simp, by unfold fP rP; rw [h, ho']; simp, by unfold rE; rw [h, ho']; simp, by unfold rN; rw [h]; simp, ?_⟩
  rw [e3, e4]; simp [mayB]; omega
theorem form_off (s : ByteArray) (h : synS s = false) (ho : offS s = true) : mayB (fR s) (fC s) = false ∧ rE s = 10 ∧ rN s = cD s ∧ rR s = 0 ∧ rC s = 0 ∧ rP s = false ∧ rQ s = false := by
  have e1 := fR_is s h
  have e2 := fC_is s h
  refine ⟨?_, by unfold rE; rw [h, ho]; simp, by unfold rN; rw [h]; simp, by unfold rR; rw [h, ho]; simp, by unfold rC; rw [h, ho]; simp, by unfold rP; rw [h, ho]; simp, by unfold rQ; rw [h, ho]; simp⟩
  unfold offS at ho
  simp only [Bool.or_eq_true, decide_eq_true_eq] at ho
  unfold mayB
  rw [decide_eq_false_iff_not]
  rcases ho with ho | ho
  · rw [e2, if_neg (by omega)]; omega
  · rw [e1, if_neg (by omega)]; omega
theorem form_syn (s : ByteArray) (h : synS s = true) : rE s = 20 ∧ rN s = 0 ∧ rR s = 0 ∧ rC s = 0 ∧ rP s = false ∧ rQ s = false ∧ fR s = 0 ∧ fC s = 0 ∧ fQ s = false ∧ fP s = false := by
  unfold rE rN rR rC rP rQ fR fC fQ fP; rw [h]; exact ⟨rfl, rfl, rfl, rfl, rfl, rfl, rfl, rfl, rfl, rfl⟩
theorem cD_pos (s : ByteArray) (h : synS s = false) : 0 < cD s := by
  obtain ⟨l1, l2, l3, l4⟩ := cut_le s
  unfold synS at h
  simp only [Bool.or_eq_false_iff] at h
  have : cD s ≠ cC s := by simpa using h.1.2
  omega
abbrev FormIs (s : ByteArray) (n c r : Int) (q p : Bool) : Prop := Hid (∀ w, Calls Tryd.prog 33 #[.string s] w fun e w' => e = .returned (formV n c r q p) ∧ Below w.heap.size w w')
/-- A block of the walk's own: what it holds, and that it may be written. -/
def O4 (w : World) (b : Nat) (v0 v1 v2 v3 : Value) : Prop := C4 w b v0 v1 v2 v3 ∧ ∀ j, w.frozen? ⟨b, j, none⟩ = false
theorem O4.new (W : World) (v0 v1 v2 v3 : Value) (t : TypeId) : O4 (W.alloc (.cells #[v0, v1, v2, v3] t)) W.heap.size v0 v1 v2 v3 := ⟨C4.new W v0 v1 v2 v3 t, fun j => World.frozen?_alloc_at _ _ _ _ rfl⟩
theorem O4.keep {W w1 : World} {b : Nat} {v0 v1 v2 v3 : Value} (h : O4 W b v0 v1 v2 v3) (hb : Below W.heap.size W w1) : O4 w1 b v0 v1 v2 v3 :=
  ⟨h.1.keep hb, fun j => (hb.frozen (p := ⟨b, j, none⟩) (show b < _ from block_lt_of_cell h.1.1)).trans (h.2 j)⟩
theorem O4.alloc {W : World} {b : Nat} {v0 v1 v2 v3 : Value} (h : O4 W b v0 v1 v2 v3) (o : Obj) : O4 (W.alloc o) b v0 v1 v2 v3 := h.keep ((Below.refl _ _).alloc (Nat.le_refl _) _)
def O2 (w : World) (b : Nat) (v0 v1 : Value) : Prop := C2 w b v0 v1 ∧ ∀ j, w.frozen? ⟨b, j, none⟩ = false
theorem O2.new (W : World) (v0 v1 : Value) (t : TypeId) : O2 (W.alloc (.cells #[v0, v1] t)) W.heap.size v0 v1 := ⟨C2.new W v0 v1 t, fun j => World.frozen?_alloc_at _ _ _ _ rfl⟩
theorem O2.keep {W w1 : World} {b : Nat} {v0 v1 : Value} (h : O2 W b v0 v1) (hb : Below W.heap.size W w1) : O2 w1 b v0 v1 :=
  ⟨h.1.keep hb, fun j => (hb.frozen (p := ⟨b, j, none⟩) (show b < _ from block_lt_of_cell h.1.1)).trans (h.2 j)⟩
theorem O2.alloc {W : World} {b : Nat} {v0 v1 : Value} (h : O2 W b v0 v1) (o : Obj) : O2 (W.alloc o) b v0 v1 := h.keep ((Below.refl _ _).alloc (Nat.le_refl _) _)
set_option maxHeartbeats 800000 in
theorem refR_syn (s : ByteArray) (w : World) (HF : FormIs s 0 0 0 false false) :
    Calls Tryd.prog 26 #[.string s] w fun e w' => e = .returned (.tuple #[refV 0 0 false false, .int .i64 0, .int .i64 20]) ∧ Below w.heap.size w w' := by
  go_enter Tryd.func26, Tryd.ntmps26
  go_wp2_with fail
  refine (HF.out _).mono ?_
  rintro e w1 ⟨rfl, hb1⟩
  have B1 := hide (next (step (Below.refl w.heap.size w) _) hb1)
  have z1 := hb1.size
  try simp at z1
  have ro := (O4.new w (.int .i64 0) (.int .i64 0) (.bool false) (.bool false) 55).keep hb1
  have g0 := fun o => (ro.alloc o).1.1
  have g1 := fun o => (ro.alloc o).1.2.1
  have g2 := fun o => (ro.alloc o).1.2.2.1
  have g3 := fun o => (ro.alloc o).1.2.2.2
  have gf := fun o => (ro.alloc o).2
  clear ro hb1
  go_wp2_with fail
  refine bodyPost_ret (by simp [results, Tryd.results26, go_sem, g0, g1, g2, g3]; try rfl) rfl ?_
  refine ⟨rfl, ?_⟩
  go_grown
  all_goals first | exact B1.out | omega
set_option maxHeartbeats 800000 in
theorem refR_off (s : ByteArray) (w : World) (n c r : Int) (q p : Bool) (hn : (n == 0) = false) (hm : mayB r c = false) (HF : FormIs s n c r q p) :
    Calls Tryd.prog 26 #[.string s] w fun e w' => e = .returned (.tuple #[refV 0 0 false false, .int .i64 n, .int .i64 10]) ∧ Below w.heap.size w w' := by
  go_enter Tryd.func26, Tryd.ntmps26
  go_wp2_with fail
  refine (HF.out _).mono ?_
  rintro e w1 ⟨rfl, hb1⟩
  have B1 := hide (next (step (Below.refl w.heap.size w) _) hb1)
  have z1 := hb1.size
  try simp at z1
  have ro := (O4.new w (.int .i64 0) (.int .i64 0) (.bool false) (.bool false) 55).keep hb1
  have g0 := fun o o' => ((ro.alloc o).alloc o').1.1
  have g1 := fun o o' => ((ro.alloc o).alloc o').1.2.1
  have g2 := fun o o' => ((ro.alloc o).alloc o').1.2.2.1
  have g3 := fun o o' => ((ro.alloc o).alloc o').1.2.2.2
  have gf := fun o o' => ((ro.alloc o).alloc o').2
  clear ro hb1
  go_wp2_with (go_at_call 34; refine (refMay_any _ _ _).mono ?_; rintro e w' ⟨rfl, rfl⟩)
  go_region
  all_goals
    go_wp2_with fail
    refine bodyPost_ret (by simp [results, Tryd.results26, go_sem, g0, g1, g2, g3]; try rfl) rfl ?_
    refine ⟨rfl, ?_⟩
    go_grown
    all_goals first | exact B1.out | omega
set_option maxHeartbeats 800000 in
theorem refR_on (s : ByteArray) (w : World) (n c r : Int) (q p : Bool) (hn : (n == 0) = false) (hm : mayB r c = true) (HF : FormIs s n c r q p) :
    Calls Tryd.prog 26 #[.string s] w fun e w' => e = .returned (.tuple #[refV r c p q, .int .i64 n, .int .i64 0]) ∧ Below w.heap.size w w' := by
  go_enter Tryd.func26, Tryd.ntmps26
  go_wp2_with fail
  refine (HF.out _).mono ?_
  rintro e w1 ⟨rfl, hb1⟩
  have B1 := hide (next (step (Below.refl w.heap.size w) _) hb1)
  have z1 := hb1.size
  try simp at z1
  have ro := (O4.new w (.int .i64 0) (.int .i64 0) (.bool false) (.bool false) 55).keep hb1
  have g0 := fun o o' => ((ro.alloc o).alloc o').1.1
  have g1 := fun o o' => ((ro.alloc o).alloc o').1.2.1
  have g2 := fun o o' => ((ro.alloc o).alloc o').1.2.2.1
  have g3 := fun o o' => ((ro.alloc o).alloc o').1.2.2.2
  have gf := fun o o' => ((ro.alloc o).alloc o').2
  clear ro hb1
  go_wp2_with (go_at_call 34; refine (refMay_any _ _ _).mono ?_; rintro e w' ⟨rfl, rfl⟩)
  go_region
  all_goals
    go_wp2_with fail
    refine bodyPost_ret (by simp [results, Tryd.results26, go_sem, g0, g1, g2, g3]; try rfl) rfl ?_
    refine ⟨rfl, ?_⟩
    go_grown
    all_goals first | exact B1.out | omega
theorem refR_any (s : ByteArray) (w : World) (hs : s.size ≤ maxLen) :
    Calls Tryd.prog 26 #[.string s] w fun e w' => e = .returned (.tuple #[refV (rR s) (rC s) (rP s) (rQ s), .int .i64 (rN s), .int .i64 (rE s)]) ∧ Below w.heap.size w w' := by
  have HF : FormIs s (rN s) (fC s) (fR s) (fQ s) (fP s) := hide fun w => form_any s w hs
  cases hy : synS s
  · have hp := cD_pos s hy
    have hn : rN s = cD s := by unfold rN; rw [hy]; simp
    have hz : ((rN s : Int) == 0) = false := by rw [beq_eq_false_iff_ne, hn]; omega
    cases ho : offS s
    · obtain ⟨e1, e2, e3, e4, e5, _, e6⟩ := form_on s hy ho
      have := refR_on s w (rN s) (fC s) (fR s) (fQ s) (fP s) hz (by rw [e1, e2]; exact e6) HF
      rw [e1, e2, e3, e4] at this
      rw [e5]
      exact this
    · obtain ⟨e1, e2, e3, e4, e5, e6, e7⟩ := form_off s hy ho
      have := refR_off s w (rN s) (fC s) (fR s) (fQ s) (fP s) hz e1 HF
      rw [e2, e4, e5, e6, e7]
      exact this
  · obtain ⟨e1, e2, e3, e4, e5, e6, e7, e8, e9, e10⟩ := form_syn s hy
    rw [e2, e7, e8, e9, e10] at HF
    rw [e1, e2, e3, e4, e5, e6]
    exact refR_syn s w HF
end Go.Proofs.YtcabgnikbgoikaaDoor
