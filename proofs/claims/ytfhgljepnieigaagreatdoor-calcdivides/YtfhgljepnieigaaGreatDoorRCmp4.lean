/- What the reference's Compare answers, way by way. Proved of the Go text. -/
import Derived.Test.YtfhgljepnieigaaGreatDoorCmp4
import Derived.Test.YtfhgljepnieigaaGreatDoorS4J
namespace Go.Proofs.YtfhgljepnieigaaGreatDoor
open Go.RowKit Go.Sort
set_option linter.unusedVariables false

theorem O3.put1 {w : World} {b : Nat} {v0 v1 v2 : Value} (h : O3 w b v0 v1 v2) (u : Value) : O3 (w.setCell ⟨b, 0, none⟩ u) b u v1 v2 :=
  ⟨⟨World.cell?_setCell_same w _ u h.1.1, put_c h.1.2.1 (by decide), put_c h.1.2.2 (by decide)⟩, fun j => (World.frozen?_setCell _ _ _ _).trans (h.2 j)⟩
theorem O3.other1 {w : World} {a b : Nat} {v0 v1 v2 u : Value} (h : O3 w a v0 v1 v2) (hn : a ≠ b) : O3 (w.setCell ⟨b, 0, none⟩ u) a v0 v1 v2 :=
  ⟨⟨(World.cell?_setCell_other _ _ _ _ (by simp [*])).trans h.1.1, (World.cell?_setCell_other _ _ _ _ (by simp [*])).trans h.1.2.1, (World.cell?_setCell_other _ _ _ _ (by simp [*])).trans h.1.2.2⟩, fun j => (World.frozen?_setCell _ _ _ _).trans (h.2 j)⟩
set_option maxHeartbeats 2000000 in
theorem rcmp_n_lt (k m : Int) (i i' : Int) (t t' : ByteArray) (x y : Int) (h1 : (k == 0) = false) (h2 : (m == 0) = false) (hc : x < y) (x0 x1 : Int) (x2 : ByteArray) (y0 y1 : Int) (y2 : ByteArray) (HA : CallIs 146 #[vV x0 x1 x2] (vV k i t)) (HB : CallIs 146 #[vV y0 y1 y2] (vV m i' t')) (H1 : CallIs 150 #[vV k i t] (.int .i64 x)) (H2 : CallIs 150 #[vV m i' t'] (.int .i64 y)) : CallIs 57 #[vV x0 x1 x2, vV y0 y1 y2] (.int .i64 (-1)) := by
  intro w
  go_enter Tryz.func57, Tryz.ntmps57
  try simp only [List.append]
  have ca : Hid (O3 ((w.alloc (vO x0 x1 x2)).alloc (vO y0 y1 y2)) (w.heap.size) (.int .i64 x0) (.int .i64 x1) (.string x2)) := hide (by have h0 := ((O3.new w (.int .i64 x0) (.int .i64 x1) (.string x2) 26).alloc (vO y0 y1 y2)); exact h0)
  have cb : Hid (O3 ((w.alloc (vO x0 x1 x2)).alloc (vO y0 y1 y2)) (w.heap.size + 1) (.int .i64 y0) (.int .i64 y1) (.string y2)) := hide (by have h0 := (O3.new (w.alloc (vO x0 x1 x2)) (.int .i64 y0) (.int .i64 y1) (.string y2) 26); simp only [World.size_alloc] at h0; exact h0)
  have qca10 := cell_regrown ca.out.1.1
  have qca11 := cell_regrown ca.out.1.2.1
  have qca12 := cell_regrown ca.out.1.2.2
  have qcb10 := cell_regrown cb.out.1.1
  have qcb11 := cell_regrown cb.out.1.2.1
  have qcb12 := cell_regrown cb.out.1.2.2
  have k10 := fun d' os => Calls.regrown_of (HA.out (grow (redrawn ((w.alloc (vO x0 x1 x2)).alloc (vO y0 y1 y2)) d') os))
  have k11 := fun d' os => Calls.regrown_of (HB.out (grow (redrawn ((w.alloc (vO x0 x1 x2)).alloc (vO y0 y1 y2)) d') os))
  go_wp2_with fail
  refine quiet_tail 4 (by kernel_rfl) (by kernel_rfl) ?_
  simp only [List.take_succ_cons, List.take_zero, List.drop_succ_cons, List.drop_zero]
  repeat (go_big_quiet_step (first | (with_reducible exact k10 _ _) | (with_reducible exact k11 _ _)))
  refine wpQuiet_nil ?_
  intro w1 hw1
  have hb1 : Below (((w.alloc (vO x0 x1 x2)).alloc (vO y0 y1 y2))).heap.size ((w.alloc (vO x0 x1 x2)).alloc (vO y0 y1 y2)) w1 := by obtain ⟨⟨dq, osq⟩, hq⟩ := hw1; rw [hq]; exact below_regrown _ dq osq
  clear hw1 qca10 qca11 qca12 qcb10 qcb11 qcb12 k10 k11
  have B1 := hide (next (step (step (Below.refl w.heap.size w) _) _) hb1)
  replace ca := hide (ca.out.keep hb1)
  replace cb := hide (cb.out.keep hb1)
  have caw100 := ca.out.1.1
  have caw101 := ca.out.1.2.1
  have caw102 := ca.out.1.2.2
  have caw10f := ca.out.2
  have B1p := hide (below_put3 (b := w.heap.size) (B1.out) (by omega) (.int .i64 k) (.int .i64 i) (.string t))
  replace ca := hide (ca.out.put (.int .i64 k) (.int .i64 i) (.string t))
  replace cb := hide (O3.other (b := w.heap.size) (u0 := .int .i64 k) (u1 := .int .i64 i) (u2 := .string t) cb.out (by omega))
  obtain ⟨w1p, hw1p⟩ : ∃ w1p, put3 w1 (w.heap.size) (.int .i64 k) (.int .i64 i) (.string t) = w1p := ⟨_, rfl⟩
  rw [hw1p] at B1p ca cb
  unfold put3 at hw1p
  have cbw1p00 := cb.out.1.1
  have cbw1p01 := cb.out.1.2.1
  have cbw1p02 := cb.out.1.2.2
  have cbw1p0f := cb.out.2
  have B1p := hide (below_put3 (b := w.heap.size + 1) (B1p.out) (by omega) (.int .i64 m) (.int .i64 i') (.string t'))
  replace ca := hide (O3.other (b := w.heap.size + 1) (u0 := .int .i64 m) (u1 := .int .i64 i') (u2 := .string t') ca.out (by omega))
  replace cb := hide (cb.out.put (.int .i64 m) (.int .i64 i') (.string t'))
  obtain ⟨w1pp, hw1pp⟩ : ∃ w1pp, put3 w1p (w.heap.size + 1) (.int .i64 m) (.int .i64 i') (.string t') = w1pp := ⟨_, rfl⟩
  rw [hw1pp] at B1p ca cb
  unfold put3 at hw1pp
  have caw1pp00 := ca.out.1.1
  have caw1pp01 := ca.out.1.2.1
  have caw1pp02 := ca.out.1.2.2
  have cbw1pp00 := cb.out.1.1
  have cbw1pp01 := cb.out.1.2.1
  have cbw1pp02 := cb.out.1.2.2
  have qca20 := cell_regrown ca.out.1.1
  have qca21 := cell_regrown ca.out.1.2.1
  have qca22 := cell_regrown ca.out.1.2.2
  have qcb20 := cell_regrown cb.out.1.1
  have qcb21 := cell_regrown cb.out.1.2.1
  have qcb22 := cell_regrown cb.out.1.2.2
  have k20 := fun d' os => Calls.regrown_of (H1.out (grow (redrawn w1pp d') os))
  have k21 := fun d' os => Calls.regrown_of (H2.out (grow (redrawn w1pp d') os))
  go_wp2_with fail
  refine wp_region_quiet_below (by kernel_rfl) (by kernel_rfl) ?_
  repeat (go_big_quiet_step (first | (with_reducible exact k20 _ _) | (with_reducible exact k21 _ _)))
  refine wpQuiet_nil ?_
  intro w2 hw2
  have hb2 : Below (w1pp).heap.size w1pp w2 := by obtain ⟨⟨dq, osq⟩, hq⟩ := hw2; rw [hq]; exact below_regrown _ dq osq
  clear hw2 qca20 qca21 qca22 qcb20 qcb21 qcb22 k20 k21
  clear caw100
  clear caw101
  clear caw102
  clear caw10f
  clear cbw1p00
  clear cbw1p01
  clear cbw1p02
  clear cbw1p0f
  clear caw1pp00
  clear caw1pp01
  clear caw1pp02
  clear cbw1pp00
  clear cbw1pp01
  clear cbw1pp02
  have B2 := hide (next (B1p.out) hb2)
  replace ca := hide (ca.out.keep hb2)
  replace cb := hide (cb.out.keep hb2)
  have caw200 := ca.out.1.1
  have caw201 := ca.out.1.2.1
  have caw202 := ca.out.1.2.2
  have cbw200 := cb.out.1.1
  have cbw201 := cb.out.1.2.1
  have cbw202 := cb.out.1.2.2
  go_wp2_with fail
  go_ret
  exact ⟨rfl, B2.out⟩
set_option maxHeartbeats 2000000 in
theorem rcmp_a_lt (i i' : Int) (t t' : ByteArray) (x y : Int)  (hc : x < y) (x0 x1 : Int) (x2 : ByteArray) (y0 y1 : Int) (y2 : ByteArray) (HA : CallIs 146 #[vV x0 x1 x2] (vV 0 i t)) (HB : CallIs 146 #[vV y0 y1 y2] (vV 4 i' t')) (H1 : CallIs 150 #[vV 0 i t] (.int .i64 x)) (H2 : CallIs 150 #[vV 4 i' t'] (.int .i64 y)) : CallIs 57 #[vV x0 x1 x2, vV y0 y1 y2] (.int .i64 (-1)) := by
  intro w
  go_enter Tryz.func57, Tryz.ntmps57
  try simp only [List.append]
  have ca : Hid (O3 ((w.alloc (vO x0 x1 x2)).alloc (vO y0 y1 y2)) (w.heap.size) (.int .i64 x0) (.int .i64 x1) (.string x2)) := hide (by have h0 := ((O3.new w (.int .i64 x0) (.int .i64 x1) (.string x2) 26).alloc (vO y0 y1 y2)); exact h0)
  have cb : Hid (O3 ((w.alloc (vO x0 x1 x2)).alloc (vO y0 y1 y2)) (w.heap.size + 1) (.int .i64 y0) (.int .i64 y1) (.string y2)) := hide (by have h0 := (O3.new (w.alloc (vO x0 x1 x2)) (.int .i64 y0) (.int .i64 y1) (.string y2) 26); simp only [World.size_alloc] at h0; exact h0)
  have qca10 := cell_regrown ca.out.1.1
  have qca11 := cell_regrown ca.out.1.2.1
  have qca12 := cell_regrown ca.out.1.2.2
  have qcb10 := cell_regrown cb.out.1.1
  have qcb11 := cell_regrown cb.out.1.2.1
  have qcb12 := cell_regrown cb.out.1.2.2
  have k10 := fun d' os => Calls.regrown_of (HA.out (grow (redrawn ((w.alloc (vO x0 x1 x2)).alloc (vO y0 y1 y2)) d') os))
  have k11 := fun d' os => Calls.regrown_of (HB.out (grow (redrawn ((w.alloc (vO x0 x1 x2)).alloc (vO y0 y1 y2)) d') os))
  go_wp2_with fail
  refine quiet_tail 4 (by kernel_rfl) (by kernel_rfl) ?_
  simp only [List.take_succ_cons, List.take_zero, List.drop_succ_cons, List.drop_zero]
  repeat (go_big_quiet_step (first | (with_reducible exact k10 _ _) | (with_reducible exact k11 _ _)))
  refine wpQuiet_nil ?_
  intro w1 hw1
  have hb1 : Below (((w.alloc (vO x0 x1 x2)).alloc (vO y0 y1 y2))).heap.size ((w.alloc (vO x0 x1 x2)).alloc (vO y0 y1 y2)) w1 := by obtain ⟨⟨dq, osq⟩, hq⟩ := hw1; rw [hq]; exact below_regrown _ dq osq
  clear hw1 qca10 qca11 qca12 qcb10 qcb11 qcb12 k10 k11
  have B1 := hide (next (step (step (Below.refl w.heap.size w) _) _) hb1)
  replace ca := hide (ca.out.keep hb1)
  replace cb := hide (cb.out.keep hb1)
  have caw100 := ca.out.1.1
  have caw101 := ca.out.1.2.1
  have caw102 := ca.out.1.2.2
  have caw10f := ca.out.2
  have B1p := hide (below_put3 (b := w.heap.size) (B1.out) (by omega) (.int .i64 0) (.int .i64 i) (.string t))
  replace ca := hide (ca.out.put (.int .i64 0) (.int .i64 i) (.string t))
  replace cb := hide (O3.other (b := w.heap.size) (u0 := .int .i64 0) (u1 := .int .i64 i) (u2 := .string t) cb.out (by omega))
  obtain ⟨w1p, hw1p⟩ : ∃ w1p, put3 w1 (w.heap.size) (.int .i64 0) (.int .i64 i) (.string t) = w1p := ⟨_, rfl⟩
  rw [hw1p] at B1p ca cb
  unfold put3 at hw1p
  have cbw1p00 := cb.out.1.1
  have cbw1p01 := cb.out.1.2.1
  have cbw1p02 := cb.out.1.2.2
  have cbw1p0f := cb.out.2
  have B1p := hide (below_put3 (b := w.heap.size + 1) (B1p.out) (by omega) (.int .i64 4) (.int .i64 i') (.string t'))
  replace ca := hide (O3.other (b := w.heap.size + 1) (u0 := .int .i64 4) (u1 := .int .i64 i') (u2 := .string t') ca.out (by omega))
  replace cb := hide (cb.out.put (.int .i64 4) (.int .i64 i') (.string t'))
  obtain ⟨w1pp, hw1pp⟩ : ∃ w1pp, put3 w1p (w.heap.size + 1) (.int .i64 4) (.int .i64 i') (.string t') = w1pp := ⟨_, rfl⟩
  rw [hw1pp] at B1p ca cb
  unfold put3 at hw1pp
  have caw1pp00 := ca.out.1.1
  have caw1pp01 := ca.out.1.2.1
  have caw1pp02 := ca.out.1.2.2
  have cbw1pp00 := cb.out.1.1
  have cbw1pp01 := cb.out.1.2.1
  have cbw1pp02 := cb.out.1.2.2
  have qca20 := cell_regrown ca.out.1.1
  have qca21 := cell_regrown ca.out.1.2.1
  have qca22 := cell_regrown ca.out.1.2.2
  have qcb20 := cell_regrown cb.out.1.1
  have qcb21 := cell_regrown cb.out.1.2.1
  have qcb22 := cell_regrown cb.out.1.2.2
  have k20 := fun d' os => Calls.regrown_of (H1.out (grow (redrawn w1pp d') os))
  have k21 := fun d' os => Calls.regrown_of (H2.out (grow (redrawn w1pp d') os))
  go_wp2_with fail
  refine wp_region_quiet_below (by kernel_rfl) (by kernel_rfl) ?_
  repeat (go_big_quiet_step (first | (with_reducible exact k20 _ _) | (with_reducible exact k21 _ _)))
  refine wpQuiet_nil ?_
  intro w2 hw2
  have hb2 : Below (w1pp).heap.size w1pp w2 := by obtain ⟨⟨dq, osq⟩, hq⟩ := hw2; rw [hq]; exact below_regrown _ dq osq
  clear hw2 qca20 qca21 qca22 qcb20 qcb21 qcb22 k20 k21
  clear caw100
  clear caw101
  clear caw102
  clear caw10f
  clear cbw1p00
  clear cbw1p01
  clear cbw1p02
  clear cbw1p0f
  clear caw1pp00
  clear caw1pp01
  clear caw1pp02
  clear cbw1pp00
  clear cbw1pp01
  clear cbw1pp02
  have B2 := hide (next (B1p.out) hb2)
  replace ca := hide (ca.out.keep hb2)
  replace cb := hide (cb.out.keep hb2)
  have caw200 := ca.out.1.1
  have caw201 := ca.out.1.2.1
  have caw202 := ca.out.1.2.2
  have cbw200 := cb.out.1.1
  have cbw201 := cb.out.1.2.1
  have cbw202 := cb.out.1.2.2
  go_wp2_with fail
  go_ret
  exact ⟨rfl, B2.out⟩
set_option maxHeartbeats 2000000 in
theorem rcmp_n_gt (k m : Int) (i i' : Int) (t t' : ByteArray) (x y : Int) (h1 : (k == 0) = false) (h2 : (m == 0) = false) (hc : y < x) (x0 x1 : Int) (x2 : ByteArray) (y0 y1 : Int) (y2 : ByteArray) (HA : CallIs 146 #[vV x0 x1 x2] (vV k i t)) (HB : CallIs 146 #[vV y0 y1 y2] (vV m i' t')) (H1 : CallIs 150 #[vV k i t] (.int .i64 x)) (H2 : CallIs 150 #[vV m i' t'] (.int .i64 y)) : CallIs 57 #[vV x0 x1 x2, vV y0 y1 y2] (.int .i64 1) := by
  intro w
  have e1 : ¬ x < y := by omega
  have e2 : (x == y) = false := by rw [beq_eq_false_iff_ne]; omega
  go_enter Tryz.func57, Tryz.ntmps57
  try simp only [List.append]
  have ca : Hid (O3 ((w.alloc (vO x0 x1 x2)).alloc (vO y0 y1 y2)) (w.heap.size) (.int .i64 x0) (.int .i64 x1) (.string x2)) := hide (by have h0 := ((O3.new w (.int .i64 x0) (.int .i64 x1) (.string x2) 26).alloc (vO y0 y1 y2)); exact h0)
  have cb : Hid (O3 ((w.alloc (vO x0 x1 x2)).alloc (vO y0 y1 y2)) (w.heap.size + 1) (.int .i64 y0) (.int .i64 y1) (.string y2)) := hide (by have h0 := (O3.new (w.alloc (vO x0 x1 x2)) (.int .i64 y0) (.int .i64 y1) (.string y2) 26); simp only [World.size_alloc] at h0; exact h0)
  have qca10 := cell_regrown ca.out.1.1
  have qca11 := cell_regrown ca.out.1.2.1
  have qca12 := cell_regrown ca.out.1.2.2
  have qcb10 := cell_regrown cb.out.1.1
  have qcb11 := cell_regrown cb.out.1.2.1
  have qcb12 := cell_regrown cb.out.1.2.2
  have k10 := fun d' os => Calls.regrown_of (HA.out (grow (redrawn ((w.alloc (vO x0 x1 x2)).alloc (vO y0 y1 y2)) d') os))
  have k11 := fun d' os => Calls.regrown_of (HB.out (grow (redrawn ((w.alloc (vO x0 x1 x2)).alloc (vO y0 y1 y2)) d') os))
  go_wp2_with fail
  refine quiet_tail 4 (by kernel_rfl) (by kernel_rfl) ?_
  simp only [List.take_succ_cons, List.take_zero, List.drop_succ_cons, List.drop_zero]
  repeat (go_big_quiet_step (first | (with_reducible exact k10 _ _) | (with_reducible exact k11 _ _)))
  refine wpQuiet_nil ?_
  intro w1 hw1
  have hb1 : Below (((w.alloc (vO x0 x1 x2)).alloc (vO y0 y1 y2))).heap.size ((w.alloc (vO x0 x1 x2)).alloc (vO y0 y1 y2)) w1 := by obtain ⟨⟨dq, osq⟩, hq⟩ := hw1; rw [hq]; exact below_regrown _ dq osq
  clear hw1 qca10 qca11 qca12 qcb10 qcb11 qcb12 k10 k11
  have B1 := hide (next (step (step (Below.refl w.heap.size w) _) _) hb1)
  replace ca := hide (ca.out.keep hb1)
  replace cb := hide (cb.out.keep hb1)
  have caw100 := ca.out.1.1
  have caw101 := ca.out.1.2.1
  have caw102 := ca.out.1.2.2
  have caw10f := ca.out.2
  have B1p := hide (below_put3 (b := w.heap.size) (B1.out) (by omega) (.int .i64 k) (.int .i64 i) (.string t))
  replace ca := hide (ca.out.put (.int .i64 k) (.int .i64 i) (.string t))
  replace cb := hide (O3.other (b := w.heap.size) (u0 := .int .i64 k) (u1 := .int .i64 i) (u2 := .string t) cb.out (by omega))
  obtain ⟨w1p, hw1p⟩ : ∃ w1p, put3 w1 (w.heap.size) (.int .i64 k) (.int .i64 i) (.string t) = w1p := ⟨_, rfl⟩
  rw [hw1p] at B1p ca cb
  unfold put3 at hw1p
  have cbw1p00 := cb.out.1.1
  have cbw1p01 := cb.out.1.2.1
  have cbw1p02 := cb.out.1.2.2
  have cbw1p0f := cb.out.2
  have B1p := hide (below_put3 (b := w.heap.size + 1) (B1p.out) (by omega) (.int .i64 m) (.int .i64 i') (.string t'))
  replace ca := hide (O3.other (b := w.heap.size + 1) (u0 := .int .i64 m) (u1 := .int .i64 i') (u2 := .string t') ca.out (by omega))
  replace cb := hide (cb.out.put (.int .i64 m) (.int .i64 i') (.string t'))
  obtain ⟨w1pp, hw1pp⟩ : ∃ w1pp, put3 w1p (w.heap.size + 1) (.int .i64 m) (.int .i64 i') (.string t') = w1pp := ⟨_, rfl⟩
  rw [hw1pp] at B1p ca cb
  unfold put3 at hw1pp
  have caw1pp00 := ca.out.1.1
  have caw1pp01 := ca.out.1.2.1
  have caw1pp02 := ca.out.1.2.2
  have cbw1pp00 := cb.out.1.1
  have cbw1pp01 := cb.out.1.2.1
  have cbw1pp02 := cb.out.1.2.2
  have qca20 := cell_regrown ca.out.1.1
  have qca21 := cell_regrown ca.out.1.2.1
  have qca22 := cell_regrown ca.out.1.2.2
  have qcb20 := cell_regrown cb.out.1.1
  have qcb21 := cell_regrown cb.out.1.2.1
  have qcb22 := cell_regrown cb.out.1.2.2
  have k20 := fun d' os => Calls.regrown_of (H1.out (grow (redrawn w1pp d') os))
  have k21 := fun d' os => Calls.regrown_of (H2.out (grow (redrawn w1pp d') os))
  go_wp2_with fail
  refine wp_region_quiet_below (by kernel_rfl) (by kernel_rfl) ?_
  repeat (go_big_quiet_step (first | (with_reducible exact k20 _ _) | (with_reducible exact k21 _ _)))
  refine wpQuiet_nil ?_
  intro w2 hw2
  have hb2 : Below (w1pp).heap.size w1pp w2 := by obtain ⟨⟨dq, osq⟩, hq⟩ := hw2; rw [hq]; exact below_regrown _ dq osq
  clear hw2 qca20 qca21 qca22 qcb20 qcb21 qcb22 k20 k21
  clear caw100
  clear caw101
  clear caw102
  clear caw10f
  clear cbw1p00
  clear cbw1p01
  clear cbw1p02
  clear cbw1p0f
  clear caw1pp00
  clear caw1pp01
  clear caw1pp02
  clear cbw1pp00
  clear cbw1pp01
  clear cbw1pp02
  have B2 := hide (next (B1p.out) hb2)
  replace ca := hide (ca.out.keep hb2)
  replace cb := hide (cb.out.keep hb2)
  have caw200 := ca.out.1.1
  have caw201 := ca.out.1.2.1
  have caw202 := ca.out.1.2.2
  have cbw200 := cb.out.1.1
  have cbw201 := cb.out.1.2.1
  have cbw202 := cb.out.1.2.2
  go_wp2_with fail
  go_ret
  exact ⟨rfl, B2.out⟩
set_option maxHeartbeats 2000000 in
theorem rcmp_b_gt (i i' : Int) (t t' : ByteArray) (x y : Int)  (hc : y < x) (x0 x1 : Int) (x2 : ByteArray) (y0 y1 : Int) (y2 : ByteArray) (HA : CallIs 146 #[vV x0 x1 x2] (vV 4 i t)) (HB : CallIs 146 #[vV y0 y1 y2] (vV 0 i' t')) (H1 : CallIs 150 #[vV 4 i t] (.int .i64 x)) (H2 : CallIs 150 #[vV 0 i' t'] (.int .i64 y)) : CallIs 57 #[vV x0 x1 x2, vV y0 y1 y2] (.int .i64 1) := by
  intro w
  have e1 : ¬ x < y := by omega
  have e2 : (x == y) = false := by rw [beq_eq_false_iff_ne]; omega
  go_enter Tryz.func57, Tryz.ntmps57
  try simp only [List.append]
  have ca : Hid (O3 ((w.alloc (vO x0 x1 x2)).alloc (vO y0 y1 y2)) (w.heap.size) (.int .i64 x0) (.int .i64 x1) (.string x2)) := hide (by have h0 := ((O3.new w (.int .i64 x0) (.int .i64 x1) (.string x2) 26).alloc (vO y0 y1 y2)); exact h0)
  have cb : Hid (O3 ((w.alloc (vO x0 x1 x2)).alloc (vO y0 y1 y2)) (w.heap.size + 1) (.int .i64 y0) (.int .i64 y1) (.string y2)) := hide (by have h0 := (O3.new (w.alloc (vO x0 x1 x2)) (.int .i64 y0) (.int .i64 y1) (.string y2) 26); simp only [World.size_alloc] at h0; exact h0)
  have qca10 := cell_regrown ca.out.1.1
  have qca11 := cell_regrown ca.out.1.2.1
  have qca12 := cell_regrown ca.out.1.2.2
  have qcb10 := cell_regrown cb.out.1.1
  have qcb11 := cell_regrown cb.out.1.2.1
  have qcb12 := cell_regrown cb.out.1.2.2
  have k10 := fun d' os => Calls.regrown_of (HA.out (grow (redrawn ((w.alloc (vO x0 x1 x2)).alloc (vO y0 y1 y2)) d') os))
  have k11 := fun d' os => Calls.regrown_of (HB.out (grow (redrawn ((w.alloc (vO x0 x1 x2)).alloc (vO y0 y1 y2)) d') os))
  go_wp2_with fail
  refine quiet_tail 4 (by kernel_rfl) (by kernel_rfl) ?_
  simp only [List.take_succ_cons, List.take_zero, List.drop_succ_cons, List.drop_zero]
  repeat (go_big_quiet_step (first | (with_reducible exact k10 _ _) | (with_reducible exact k11 _ _)))
  refine wpQuiet_nil ?_
  intro w1 hw1
  have hb1 : Below (((w.alloc (vO x0 x1 x2)).alloc (vO y0 y1 y2))).heap.size ((w.alloc (vO x0 x1 x2)).alloc (vO y0 y1 y2)) w1 := by obtain ⟨⟨dq, osq⟩, hq⟩ := hw1; rw [hq]; exact below_regrown _ dq osq
  clear hw1 qca10 qca11 qca12 qcb10 qcb11 qcb12 k10 k11
  have B1 := hide (next (step (step (Below.refl w.heap.size w) _) _) hb1)
  replace ca := hide (ca.out.keep hb1)
  replace cb := hide (cb.out.keep hb1)
  have caw100 := ca.out.1.1
  have caw101 := ca.out.1.2.1
  have caw102 := ca.out.1.2.2
  have caw10f := ca.out.2
  have B1p := hide (below_put3 (b := w.heap.size) (B1.out) (by omega) (.int .i64 4) (.int .i64 i) (.string t))
  replace ca := hide (ca.out.put (.int .i64 4) (.int .i64 i) (.string t))
  replace cb := hide (O3.other (b := w.heap.size) (u0 := .int .i64 4) (u1 := .int .i64 i) (u2 := .string t) cb.out (by omega))
  obtain ⟨w1p, hw1p⟩ : ∃ w1p, put3 w1 (w.heap.size) (.int .i64 4) (.int .i64 i) (.string t) = w1p := ⟨_, rfl⟩
  rw [hw1p] at B1p ca cb
  unfold put3 at hw1p
  have cbw1p00 := cb.out.1.1
  have cbw1p01 := cb.out.1.2.1
  have cbw1p02 := cb.out.1.2.2
  have cbw1p0f := cb.out.2
  have B1p := hide (below_put3 (b := w.heap.size + 1) (B1p.out) (by omega) (.int .i64 0) (.int .i64 i') (.string t'))
  replace ca := hide (O3.other (b := w.heap.size + 1) (u0 := .int .i64 0) (u1 := .int .i64 i') (u2 := .string t') ca.out (by omega))
  replace cb := hide (cb.out.put (.int .i64 0) (.int .i64 i') (.string t'))
  obtain ⟨w1pp, hw1pp⟩ : ∃ w1pp, put3 w1p (w.heap.size + 1) (.int .i64 0) (.int .i64 i') (.string t') = w1pp := ⟨_, rfl⟩
  rw [hw1pp] at B1p ca cb
  unfold put3 at hw1pp
  have caw1pp00 := ca.out.1.1
  have caw1pp01 := ca.out.1.2.1
  have caw1pp02 := ca.out.1.2.2
  have cbw1pp00 := cb.out.1.1
  have cbw1pp01 := cb.out.1.2.1
  have cbw1pp02 := cb.out.1.2.2
  have qca20 := cell_regrown ca.out.1.1
  have qca21 := cell_regrown ca.out.1.2.1
  have qca22 := cell_regrown ca.out.1.2.2
  have qcb20 := cell_regrown cb.out.1.1
  have qcb21 := cell_regrown cb.out.1.2.1
  have qcb22 := cell_regrown cb.out.1.2.2
  have k20 := fun d' os => Calls.regrown_of (H1.out (grow (redrawn w1pp d') os))
  have k21 := fun d' os => Calls.regrown_of (H2.out (grow (redrawn w1pp d') os))
  go_wp2_with fail
  refine wp_region_quiet_below (by kernel_rfl) (by kernel_rfl) ?_
  repeat (go_big_quiet_step (first | (with_reducible exact k20 _ _) | (with_reducible exact k21 _ _)))
  refine wpQuiet_nil ?_
  intro w2 hw2
  have hb2 : Below (w1pp).heap.size w1pp w2 := by obtain ⟨⟨dq, osq⟩, hq⟩ := hw2; rw [hq]; exact below_regrown _ dq osq
  clear hw2 qca20 qca21 qca22 qcb20 qcb21 qcb22 k20 k21
  clear caw100
  clear caw101
  clear caw102
  clear caw10f
  clear cbw1p00
  clear cbw1p01
  clear cbw1p02
  clear cbw1p0f
  clear caw1pp00
  clear caw1pp01
  clear caw1pp02
  clear cbw1pp00
  clear cbw1pp01
  clear cbw1pp02
  have B2 := hide (next (B1p.out) hb2)
  replace ca := hide (ca.out.keep hb2)
  replace cb := hide (cb.out.keep hb2)
  have caw200 := ca.out.1.1
  have caw201 := ca.out.1.2.1
  have caw202 := ca.out.1.2.2
  have cbw200 := cb.out.1.1
  have cbw201 := cb.out.1.2.1
  have cbw202 := cb.out.1.2.2
  go_wp2_with fail
  go_ret
  exact ⟨rfl, B2.out⟩
set_option maxHeartbeats 2000000 in
theorem rcmp_n_ilt (k m : Int) (i i' : Int) (x : Int) (h1 : (k == 0) = false) (h2 : (m == 0) = false) (hc : i < i') (x0 x1 : Int) (x2 : ByteArray) (y0 y1 : Int) (y2 : ByteArray) (HA : CallIs 146 #[vV x0 x1 x2] (vV k i no)) (HB : CallIs 146 #[vV y0 y1 y2] (vV m i' no)) (H1 : CallIs 150 #[vV k i no] (.int .i64 x)) (H2 : CallIs 150 #[vV m i' no] (.int .i64 x)) : CallIs 57 #[vV x0 x1 x2, vV y0 y1 y2] (.int .i64 (-1)) := by
  intro w
  go_enter Tryz.func57, Tryz.ntmps57
  try simp only [List.append]
  have ca : Hid (O3 ((w.alloc (vO x0 x1 x2)).alloc (vO y0 y1 y2)) (w.heap.size) (.int .i64 x0) (.int .i64 x1) (.string x2)) := hide (by have h0 := ((O3.new w (.int .i64 x0) (.int .i64 x1) (.string x2) 26).alloc (vO y0 y1 y2)); exact h0)
  have cb : Hid (O3 ((w.alloc (vO x0 x1 x2)).alloc (vO y0 y1 y2)) (w.heap.size + 1) (.int .i64 y0) (.int .i64 y1) (.string y2)) := hide (by have h0 := (O3.new (w.alloc (vO x0 x1 x2)) (.int .i64 y0) (.int .i64 y1) (.string y2) 26); simp only [World.size_alloc] at h0; exact h0)
  have qca10 := cell_regrown ca.out.1.1
  have qca11 := cell_regrown ca.out.1.2.1
  have qca12 := cell_regrown ca.out.1.2.2
  have qcb10 := cell_regrown cb.out.1.1
  have qcb11 := cell_regrown cb.out.1.2.1
  have qcb12 := cell_regrown cb.out.1.2.2
  have k10 := fun d' os => Calls.regrown_of (HA.out (grow (redrawn ((w.alloc (vO x0 x1 x2)).alloc (vO y0 y1 y2)) d') os))
  have k11 := fun d' os => Calls.regrown_of (HB.out (grow (redrawn ((w.alloc (vO x0 x1 x2)).alloc (vO y0 y1 y2)) d') os))
  go_wp2_with fail
  refine quiet_tail 4 (by kernel_rfl) (by kernel_rfl) ?_
  simp only [List.take_succ_cons, List.take_zero, List.drop_succ_cons, List.drop_zero]
  repeat (go_big_quiet_step (first | (with_reducible exact k10 _ _) | (with_reducible exact k11 _ _)))
  refine wpQuiet_nil ?_
  intro w1 hw1
  have hb1 : Below (((w.alloc (vO x0 x1 x2)).alloc (vO y0 y1 y2))).heap.size ((w.alloc (vO x0 x1 x2)).alloc (vO y0 y1 y2)) w1 := by obtain ⟨⟨dq, osq⟩, hq⟩ := hw1; rw [hq]; exact below_regrown _ dq osq
  clear hw1 qca10 qca11 qca12 qcb10 qcb11 qcb12 k10 k11
  have B1 := hide (next (step (step (Below.refl w.heap.size w) _) _) hb1)
  replace ca := hide (ca.out.keep hb1)
  replace cb := hide (cb.out.keep hb1)
  have caw100 := ca.out.1.1
  have caw101 := ca.out.1.2.1
  have caw102 := ca.out.1.2.2
  have caw10f := ca.out.2
  have B1p := hide (below_put3 (b := w.heap.size) (B1.out) (by omega) (.int .i64 k) (.int .i64 i) (.string no))
  replace ca := hide (ca.out.put (.int .i64 k) (.int .i64 i) (.string no))
  replace cb := hide (O3.other (b := w.heap.size) (u0 := .int .i64 k) (u1 := .int .i64 i) (u2 := .string no) cb.out (by omega))
  obtain ⟨w1p, hw1p⟩ : ∃ w1p, put3 w1 (w.heap.size) (.int .i64 k) (.int .i64 i) (.string no) = w1p := ⟨_, rfl⟩
  rw [hw1p] at B1p ca cb
  unfold put3 at hw1p
  have cbw1p00 := cb.out.1.1
  have cbw1p01 := cb.out.1.2.1
  have cbw1p02 := cb.out.1.2.2
  have cbw1p0f := cb.out.2
  have B1p := hide (below_put3 (b := w.heap.size + 1) (B1p.out) (by omega) (.int .i64 m) (.int .i64 i') (.string no))
  replace ca := hide (O3.other (b := w.heap.size + 1) (u0 := .int .i64 m) (u1 := .int .i64 i') (u2 := .string no) ca.out (by omega))
  replace cb := hide (cb.out.put (.int .i64 m) (.int .i64 i') (.string no))
  obtain ⟨w1pp, hw1pp⟩ : ∃ w1pp, put3 w1p (w.heap.size + 1) (.int .i64 m) (.int .i64 i') (.string no) = w1pp := ⟨_, rfl⟩
  rw [hw1pp] at B1p ca cb
  unfold put3 at hw1pp
  have caw1pp00 := ca.out.1.1
  have caw1pp01 := ca.out.1.2.1
  have caw1pp02 := ca.out.1.2.2
  have cbw1pp00 := cb.out.1.1
  have cbw1pp01 := cb.out.1.2.1
  have cbw1pp02 := cb.out.1.2.2
  have qca20 := cell_regrown ca.out.1.1
  have qca21 := cell_regrown ca.out.1.2.1
  have qca22 := cell_regrown ca.out.1.2.2
  have qcb20 := cell_regrown cb.out.1.1
  have qcb21 := cell_regrown cb.out.1.2.1
  have qcb22 := cell_regrown cb.out.1.2.2
  have k20 := fun d' os => Calls.regrown_of (H1.out (grow (redrawn w1pp d') os))
  have k21 := fun d' os => Calls.regrown_of (H2.out (grow (redrawn w1pp d') os))
  go_wp2_with fail
  refine wp_region_quiet_below (by kernel_rfl) (by kernel_rfl) ?_
  repeat (go_big_quiet_step (first | (with_reducible exact k20 _ _) | (with_reducible exact k21 _ _)))
  refine wpQuiet_nil ?_
  intro w2 hw2
  have hb2 : Below (w1pp).heap.size w1pp w2 := by obtain ⟨⟨dq, osq⟩, hq⟩ := hw2; rw [hq]; exact below_regrown _ dq osq
  clear hw2 qca20 qca21 qca22 qcb20 qcb21 qcb22 k20 k21
  clear caw100
  clear caw101
  clear caw102
  clear caw10f
  clear cbw1p00
  clear cbw1p01
  clear cbw1p02
  clear cbw1p0f
  clear caw1pp00
  clear caw1pp01
  clear caw1pp02
  clear cbw1pp00
  clear cbw1pp01
  clear cbw1pp02
  have B2 := hide (next (B1p.out) hb2)
  replace ca := hide (ca.out.keep hb2)
  replace cb := hide (cb.out.keep hb2)
  have caw200 := ca.out.1.1
  have caw201 := ca.out.1.2.1
  have caw202 := ca.out.1.2.2
  have cbw200 := cb.out.1.1
  have cbw201 := cb.out.1.2.1
  have cbw202 := cb.out.1.2.2
  go_wp2_with fail
  go_ret
  exact ⟨rfl, B2.out⟩
set_option maxHeartbeats 2000000 in
theorem rcmp_n_igt (k m : Int) (i i' : Int) (x : Int) (h1 : (k == 0) = false) (h2 : (m == 0) = false) (hc : i' < i) (x0 x1 : Int) (x2 : ByteArray) (y0 y1 : Int) (y2 : ByteArray) (HA : CallIs 146 #[vV x0 x1 x2] (vV k i no)) (HB : CallIs 146 #[vV y0 y1 y2] (vV m i' no)) (H1 : CallIs 150 #[vV k i no] (.int .i64 x)) (H2 : CallIs 150 #[vV m i' no] (.int .i64 x)) : CallIs 57 #[vV x0 x1 x2, vV y0 y1 y2] (.int .i64 1) := by
  intro w
  have e1 : ¬ i < i' := by omega
  have eb : Op.bytesLess [] [] = false := rfl
  go_enter Tryz.func57, Tryz.ntmps57
  try simp only [List.append]
  have ca : Hid (O3 ((w.alloc (vO x0 x1 x2)).alloc (vO y0 y1 y2)) (w.heap.size) (.int .i64 x0) (.int .i64 x1) (.string x2)) := hide (by have h0 := ((O3.new w (.int .i64 x0) (.int .i64 x1) (.string x2) 26).alloc (vO y0 y1 y2)); exact h0)
  have cb : Hid (O3 ((w.alloc (vO x0 x1 x2)).alloc (vO y0 y1 y2)) (w.heap.size + 1) (.int .i64 y0) (.int .i64 y1) (.string y2)) := hide (by have h0 := (O3.new (w.alloc (vO x0 x1 x2)) (.int .i64 y0) (.int .i64 y1) (.string y2) 26); simp only [World.size_alloc] at h0; exact h0)
  have qca10 := cell_regrown ca.out.1.1
  have qca11 := cell_regrown ca.out.1.2.1
  have qca12 := cell_regrown ca.out.1.2.2
  have qcb10 := cell_regrown cb.out.1.1
  have qcb11 := cell_regrown cb.out.1.2.1
  have qcb12 := cell_regrown cb.out.1.2.2
  have k10 := fun d' os => Calls.regrown_of (HA.out (grow (redrawn ((w.alloc (vO x0 x1 x2)).alloc (vO y0 y1 y2)) d') os))
  have k11 := fun d' os => Calls.regrown_of (HB.out (grow (redrawn ((w.alloc (vO x0 x1 x2)).alloc (vO y0 y1 y2)) d') os))
  go_wp2_with fail
  refine quiet_tail 4 (by kernel_rfl) (by kernel_rfl) ?_
  simp only [List.take_succ_cons, List.take_zero, List.drop_succ_cons, List.drop_zero]
  repeat (go_big_quiet_step (first | (with_reducible exact k10 _ _) | (with_reducible exact k11 _ _)))
  refine wpQuiet_nil ?_
  intro w1 hw1
  have hb1 : Below (((w.alloc (vO x0 x1 x2)).alloc (vO y0 y1 y2))).heap.size ((w.alloc (vO x0 x1 x2)).alloc (vO y0 y1 y2)) w1 := by obtain ⟨⟨dq, osq⟩, hq⟩ := hw1; rw [hq]; exact below_regrown _ dq osq
  clear hw1 qca10 qca11 qca12 qcb10 qcb11 qcb12 k10 k11
  have B1 := hide (next (step (step (Below.refl w.heap.size w) _) _) hb1)
  replace ca := hide (ca.out.keep hb1)
  replace cb := hide (cb.out.keep hb1)
  have caw100 := ca.out.1.1
  have caw101 := ca.out.1.2.1
  have caw102 := ca.out.1.2.2
  have caw10f := ca.out.2
  have B1p := hide (below_put3 (b := w.heap.size) (B1.out) (by omega) (.int .i64 k) (.int .i64 i) (.string no))
  replace ca := hide (ca.out.put (.int .i64 k) (.int .i64 i) (.string no))
  replace cb := hide (O3.other (b := w.heap.size) (u0 := .int .i64 k) (u1 := .int .i64 i) (u2 := .string no) cb.out (by omega))
  obtain ⟨w1p, hw1p⟩ : ∃ w1p, put3 w1 (w.heap.size) (.int .i64 k) (.int .i64 i) (.string no) = w1p := ⟨_, rfl⟩
  rw [hw1p] at B1p ca cb
  unfold put3 at hw1p
  have cbw1p00 := cb.out.1.1
  have cbw1p01 := cb.out.1.2.1
  have cbw1p02 := cb.out.1.2.2
  have cbw1p0f := cb.out.2
  have B1p := hide (below_put3 (b := w.heap.size + 1) (B1p.out) (by omega) (.int .i64 m) (.int .i64 i') (.string no))
  replace ca := hide (O3.other (b := w.heap.size + 1) (u0 := .int .i64 m) (u1 := .int .i64 i') (u2 := .string no) ca.out (by omega))
  replace cb := hide (cb.out.put (.int .i64 m) (.int .i64 i') (.string no))
  obtain ⟨w1pp, hw1pp⟩ : ∃ w1pp, put3 w1p (w.heap.size + 1) (.int .i64 m) (.int .i64 i') (.string no) = w1pp := ⟨_, rfl⟩
  rw [hw1pp] at B1p ca cb
  unfold put3 at hw1pp
  have caw1pp00 := ca.out.1.1
  have caw1pp01 := ca.out.1.2.1
  have caw1pp02 := ca.out.1.2.2
  have cbw1pp00 := cb.out.1.1
  have cbw1pp01 := cb.out.1.2.1
  have cbw1pp02 := cb.out.1.2.2
  have qca20 := cell_regrown ca.out.1.1
  have qca21 := cell_regrown ca.out.1.2.1
  have qca22 := cell_regrown ca.out.1.2.2
  have qcb20 := cell_regrown cb.out.1.1
  have qcb21 := cell_regrown cb.out.1.2.1
  have qcb22 := cell_regrown cb.out.1.2.2
  have k20 := fun d' os => Calls.regrown_of (H1.out (grow (redrawn w1pp d') os))
  have k21 := fun d' os => Calls.regrown_of (H2.out (grow (redrawn w1pp d') os))
  go_wp2_with fail
  refine wp_region_quiet_below (by kernel_rfl) (by kernel_rfl) ?_
  repeat (go_big_quiet_step (first | (with_reducible exact k20 _ _) | (with_reducible exact k21 _ _)))
  refine wpQuiet_nil ?_
  intro w2 hw2
  have hb2 : Below (w1pp).heap.size w1pp w2 := by obtain ⟨⟨dq, osq⟩, hq⟩ := hw2; rw [hq]; exact below_regrown _ dq osq
  clear hw2 qca20 qca21 qca22 qcb20 qcb21 qcb22 k20 k21
  clear caw100
  clear caw101
  clear caw102
  clear caw10f
  clear cbw1p00
  clear cbw1p01
  clear cbw1p02
  clear cbw1p0f
  clear caw1pp00
  clear caw1pp01
  clear caw1pp02
  clear cbw1pp00
  clear cbw1pp01
  clear cbw1pp02
  have B2 := hide (next (B1p.out) hb2)
  replace ca := hide (ca.out.keep hb2)
  replace cb := hide (cb.out.keep hb2)
  have caw200 := ca.out.1.1
  have caw201 := ca.out.1.2.1
  have caw202 := ca.out.1.2.2
  have cbw200 := cb.out.1.1
  have cbw201 := cb.out.1.2.1
  have cbw202 := cb.out.1.2.2
  go_wp2_with fail
  go_ret
  exact ⟨rfl, B2.out⟩
set_option maxHeartbeats 2000000 in
theorem rcmp_n_tlt (k m : Int) (t t' : ByteArray) (x : Int) (h1 : (k == 0) = false) (h2 : (m == 0) = false) (hc : Op.bytesLess t.toList t'.toList = true) (x0 x1 : Int) (x2 : ByteArray) (y0 y1 : Int) (y2 : ByteArray) (HA : CallIs 146 #[vV x0 x1 x2] (vV k 0 t)) (HB : CallIs 146 #[vV y0 y1 y2] (vV m 0 t')) (H1 : CallIs 150 #[vV k 0 t] (.int .i64 x)) (H2 : CallIs 150 #[vV m 0 t'] (.int .i64 x)) : CallIs 57 #[vV x0 x1 x2, vV y0 y1 y2] (.int .i64 (-1)) := by
  intro w
  go_enter Tryz.func57, Tryz.ntmps57
  try simp only [List.append]
  have ca : Hid (O3 ((w.alloc (vO x0 x1 x2)).alloc (vO y0 y1 y2)) (w.heap.size) (.int .i64 x0) (.int .i64 x1) (.string x2)) := hide (by have h0 := ((O3.new w (.int .i64 x0) (.int .i64 x1) (.string x2) 26).alloc (vO y0 y1 y2)); exact h0)
  have cb : Hid (O3 ((w.alloc (vO x0 x1 x2)).alloc (vO y0 y1 y2)) (w.heap.size + 1) (.int .i64 y0) (.int .i64 y1) (.string y2)) := hide (by have h0 := (O3.new (w.alloc (vO x0 x1 x2)) (.int .i64 y0) (.int .i64 y1) (.string y2) 26); simp only [World.size_alloc] at h0; exact h0)
  have qca10 := cell_regrown ca.out.1.1
  have qca11 := cell_regrown ca.out.1.2.1
  have qca12 := cell_regrown ca.out.1.2.2
  have qcb10 := cell_regrown cb.out.1.1
  have qcb11 := cell_regrown cb.out.1.2.1
  have qcb12 := cell_regrown cb.out.1.2.2
  have k10 := fun d' os => Calls.regrown_of (HA.out (grow (redrawn ((w.alloc (vO x0 x1 x2)).alloc (vO y0 y1 y2)) d') os))
  have k11 := fun d' os => Calls.regrown_of (HB.out (grow (redrawn ((w.alloc (vO x0 x1 x2)).alloc (vO y0 y1 y2)) d') os))
  go_wp2_with fail
  refine quiet_tail 4 (by kernel_rfl) (by kernel_rfl) ?_
  simp only [List.take_succ_cons, List.take_zero, List.drop_succ_cons, List.drop_zero]
  repeat (go_big_quiet_step (first | (with_reducible exact k10 _ _) | (with_reducible exact k11 _ _)))
  refine wpQuiet_nil ?_
  intro w1 hw1
  have hb1 : Below (((w.alloc (vO x0 x1 x2)).alloc (vO y0 y1 y2))).heap.size ((w.alloc (vO x0 x1 x2)).alloc (vO y0 y1 y2)) w1 := by obtain ⟨⟨dq, osq⟩, hq⟩ := hw1; rw [hq]; exact below_regrown _ dq osq
  clear hw1 qca10 qca11 qca12 qcb10 qcb11 qcb12 k10 k11
  have B1 := hide (next (step (step (Below.refl w.heap.size w) _) _) hb1)
  replace ca := hide (ca.out.keep hb1)
  replace cb := hide (cb.out.keep hb1)
  have caw100 := ca.out.1.1
  have caw101 := ca.out.1.2.1
  have caw102 := ca.out.1.2.2
  have caw10f := ca.out.2
  have B1p := hide (below_put3 (b := w.heap.size) (B1.out) (by omega) (.int .i64 k) (.int .i64 0) (.string t))
  replace ca := hide (ca.out.put (.int .i64 k) (.int .i64 0) (.string t))
  replace cb := hide (O3.other (b := w.heap.size) (u0 := .int .i64 k) (u1 := .int .i64 0) (u2 := .string t) cb.out (by omega))
  obtain ⟨w1p, hw1p⟩ : ∃ w1p, put3 w1 (w.heap.size) (.int .i64 k) (.int .i64 0) (.string t) = w1p := ⟨_, rfl⟩
  rw [hw1p] at B1p ca cb
  unfold put3 at hw1p
  have cbw1p00 := cb.out.1.1
  have cbw1p01 := cb.out.1.2.1
  have cbw1p02 := cb.out.1.2.2
  have cbw1p0f := cb.out.2
  have B1p := hide (below_put3 (b := w.heap.size + 1) (B1p.out) (by omega) (.int .i64 m) (.int .i64 0) (.string t'))
  replace ca := hide (O3.other (b := w.heap.size + 1) (u0 := .int .i64 m) (u1 := .int .i64 0) (u2 := .string t') ca.out (by omega))
  replace cb := hide (cb.out.put (.int .i64 m) (.int .i64 0) (.string t'))
  obtain ⟨w1pp, hw1pp⟩ : ∃ w1pp, put3 w1p (w.heap.size + 1) (.int .i64 m) (.int .i64 0) (.string t') = w1pp := ⟨_, rfl⟩
  rw [hw1pp] at B1p ca cb
  unfold put3 at hw1pp
  have caw1pp00 := ca.out.1.1
  have caw1pp01 := ca.out.1.2.1
  have caw1pp02 := ca.out.1.2.2
  have cbw1pp00 := cb.out.1.1
  have cbw1pp01 := cb.out.1.2.1
  have cbw1pp02 := cb.out.1.2.2
  have qca20 := cell_regrown ca.out.1.1
  have qca21 := cell_regrown ca.out.1.2.1
  have qca22 := cell_regrown ca.out.1.2.2
  have qcb20 := cell_regrown cb.out.1.1
  have qcb21 := cell_regrown cb.out.1.2.1
  have qcb22 := cell_regrown cb.out.1.2.2
  have k20 := fun d' os => Calls.regrown_of (H1.out (grow (redrawn w1pp d') os))
  have k21 := fun d' os => Calls.regrown_of (H2.out (grow (redrawn w1pp d') os))
  go_wp2_with fail
  refine wp_region_quiet_below (by kernel_rfl) (by kernel_rfl) ?_
  repeat (go_big_quiet_step (first | (with_reducible exact k20 _ _) | (with_reducible exact k21 _ _)))
  refine wpQuiet_nil ?_
  intro w2 hw2
  have hb2 : Below (w1pp).heap.size w1pp w2 := by obtain ⟨⟨dq, osq⟩, hq⟩ := hw2; rw [hq]; exact below_regrown _ dq osq
  clear hw2 qca20 qca21 qca22 qcb20 qcb21 qcb22 k20 k21
  clear caw100
  clear caw101
  clear caw102
  clear caw10f
  clear cbw1p00
  clear cbw1p01
  clear cbw1p02
  clear cbw1p0f
  clear caw1pp00
  clear caw1pp01
  clear caw1pp02
  clear cbw1pp00
  clear cbw1pp01
  clear cbw1pp02
  have B2 := hide (next (B1p.out) hb2)
  replace ca := hide (ca.out.keep hb2)
  replace cb := hide (cb.out.keep hb2)
  have caw200 := ca.out.1.1
  have caw201 := ca.out.1.2.1
  have caw202 := ca.out.1.2.2
  have cbw200 := cb.out.1.1
  have cbw201 := cb.out.1.2.1
  have cbw202 := cb.out.1.2.2
  go_wp2_with fail
  go_ret
  exact ⟨rfl, B2.out⟩
set_option maxHeartbeats 2000000 in
theorem rcmp_n_tgt (k m : Int) (t t' : ByteArray) (x : Int) (h1 : (k == 0) = false) (h2 : (m == 0) = false) (hc : Op.bytesLess t.toList t'.toList = false) (hd : (t.toList == t'.toList) = false) (x0 x1 : Int) (x2 : ByteArray) (y0 y1 : Int) (y2 : ByteArray) (HA : CallIs 146 #[vV x0 x1 x2] (vV k 0 t)) (HB : CallIs 146 #[vV y0 y1 y2] (vV m 0 t')) (H1 : CallIs 150 #[vV k 0 t] (.int .i64 x)) (H2 : CallIs 150 #[vV m 0 t'] (.int .i64 x)) : CallIs 57 #[vV x0 x1 x2, vV y0 y1 y2] (.int .i64 1) := by
  intro w
  go_enter Tryz.func57, Tryz.ntmps57
  try simp only [List.append]
  have ca : Hid (O3 ((w.alloc (vO x0 x1 x2)).alloc (vO y0 y1 y2)) (w.heap.size) (.int .i64 x0) (.int .i64 x1) (.string x2)) := hide (by have h0 := ((O3.new w (.int .i64 x0) (.int .i64 x1) (.string x2) 26).alloc (vO y0 y1 y2)); exact h0)
  have cb : Hid (O3 ((w.alloc (vO x0 x1 x2)).alloc (vO y0 y1 y2)) (w.heap.size + 1) (.int .i64 y0) (.int .i64 y1) (.string y2)) := hide (by have h0 := (O3.new (w.alloc (vO x0 x1 x2)) (.int .i64 y0) (.int .i64 y1) (.string y2) 26); simp only [World.size_alloc] at h0; exact h0)
  have qca10 := cell_regrown ca.out.1.1
  have qca11 := cell_regrown ca.out.1.2.1
  have qca12 := cell_regrown ca.out.1.2.2
  have qcb10 := cell_regrown cb.out.1.1
  have qcb11 := cell_regrown cb.out.1.2.1
  have qcb12 := cell_regrown cb.out.1.2.2
  have k10 := fun d' os => Calls.regrown_of (HA.out (grow (redrawn ((w.alloc (vO x0 x1 x2)).alloc (vO y0 y1 y2)) d') os))
  have k11 := fun d' os => Calls.regrown_of (HB.out (grow (redrawn ((w.alloc (vO x0 x1 x2)).alloc (vO y0 y1 y2)) d') os))
  go_wp2_with fail
  refine quiet_tail 4 (by kernel_rfl) (by kernel_rfl) ?_
  simp only [List.take_succ_cons, List.take_zero, List.drop_succ_cons, List.drop_zero]
  repeat (go_big_quiet_step (first | (with_reducible exact k10 _ _) | (with_reducible exact k11 _ _)))
  refine wpQuiet_nil ?_
  intro w1 hw1
  have hb1 : Below (((w.alloc (vO x0 x1 x2)).alloc (vO y0 y1 y2))).heap.size ((w.alloc (vO x0 x1 x2)).alloc (vO y0 y1 y2)) w1 := by obtain ⟨⟨dq, osq⟩, hq⟩ := hw1; rw [hq]; exact below_regrown _ dq osq
  clear hw1 qca10 qca11 qca12 qcb10 qcb11 qcb12 k10 k11
  have B1 := hide (next (step (step (Below.refl w.heap.size w) _) _) hb1)
  replace ca := hide (ca.out.keep hb1)
  replace cb := hide (cb.out.keep hb1)
  have caw100 := ca.out.1.1
  have caw101 := ca.out.1.2.1
  have caw102 := ca.out.1.2.2
  have caw10f := ca.out.2
  have B1p := hide (below_put3 (b := w.heap.size) (B1.out) (by omega) (.int .i64 k) (.int .i64 0) (.string t))
  replace ca := hide (ca.out.put (.int .i64 k) (.int .i64 0) (.string t))
  replace cb := hide (O3.other (b := w.heap.size) (u0 := .int .i64 k) (u1 := .int .i64 0) (u2 := .string t) cb.out (by omega))
  obtain ⟨w1p, hw1p⟩ : ∃ w1p, put3 w1 (w.heap.size) (.int .i64 k) (.int .i64 0) (.string t) = w1p := ⟨_, rfl⟩
  rw [hw1p] at B1p ca cb
  unfold put3 at hw1p
  have cbw1p00 := cb.out.1.1
  have cbw1p01 := cb.out.1.2.1
  have cbw1p02 := cb.out.1.2.2
  have cbw1p0f := cb.out.2
  have B1p := hide (below_put3 (b := w.heap.size + 1) (B1p.out) (by omega) (.int .i64 m) (.int .i64 0) (.string t'))
  replace ca := hide (O3.other (b := w.heap.size + 1) (u0 := .int .i64 m) (u1 := .int .i64 0) (u2 := .string t') ca.out (by omega))
  replace cb := hide (cb.out.put (.int .i64 m) (.int .i64 0) (.string t'))
  obtain ⟨w1pp, hw1pp⟩ : ∃ w1pp, put3 w1p (w.heap.size + 1) (.int .i64 m) (.int .i64 0) (.string t') = w1pp := ⟨_, rfl⟩
  rw [hw1pp] at B1p ca cb
  unfold put3 at hw1pp
  have caw1pp00 := ca.out.1.1
  have caw1pp01 := ca.out.1.2.1
  have caw1pp02 := ca.out.1.2.2
  have cbw1pp00 := cb.out.1.1
  have cbw1pp01 := cb.out.1.2.1
  have cbw1pp02 := cb.out.1.2.2
  have qca20 := cell_regrown ca.out.1.1
  have qca21 := cell_regrown ca.out.1.2.1
  have qca22 := cell_regrown ca.out.1.2.2
  have qcb20 := cell_regrown cb.out.1.1
  have qcb21 := cell_regrown cb.out.1.2.1
  have qcb22 := cell_regrown cb.out.1.2.2
  have k20 := fun d' os => Calls.regrown_of (H1.out (grow (redrawn w1pp d') os))
  have k21 := fun d' os => Calls.regrown_of (H2.out (grow (redrawn w1pp d') os))
  go_wp2_with fail
  refine wp_region_quiet_below (by kernel_rfl) (by kernel_rfl) ?_
  repeat (go_big_quiet_step (first | (with_reducible exact k20 _ _) | (with_reducible exact k21 _ _)))
  refine wpQuiet_nil ?_
  intro w2 hw2
  have hb2 : Below (w1pp).heap.size w1pp w2 := by obtain ⟨⟨dq, osq⟩, hq⟩ := hw2; rw [hq]; exact below_regrown _ dq osq
  clear hw2 qca20 qca21 qca22 qcb20 qcb21 qcb22 k20 k21
  clear caw100
  clear caw101
  clear caw102
  clear caw10f
  clear cbw1p00
  clear cbw1p01
  clear cbw1p02
  clear cbw1p0f
  clear caw1pp00
  clear caw1pp01
  clear caw1pp02
  clear cbw1pp00
  clear cbw1pp01
  clear cbw1pp02
  have B2 := hide (next (B1p.out) hb2)
  replace ca := hide (ca.out.keep hb2)
  replace cb := hide (cb.out.keep hb2)
  have caw200 := ca.out.1.1
  have caw201 := ca.out.1.2.1
  have caw202 := ca.out.1.2.2
  have cbw200 := cb.out.1.1
  have cbw201 := cb.out.1.2.1
  have cbw202 := cb.out.1.2.2
  go_wp2_with fail
  go_ret
  exact ⟨rfl, B2.out⟩
set_option maxHeartbeats 2000000 in
theorem rcmp_n_eq (k m : Int) (i : Int) (t : ByteArray) (x : Int) (h1 : (k == 0) = false) (h2 : (m == 0) = false) (hc : Op.bytesLess t.toList t.toList = false) (x0 x1 : Int) (x2 : ByteArray) (y0 y1 : Int) (y2 : ByteArray) (HA : CallIs 146 #[vV x0 x1 x2] (vV k i t)) (HB : CallIs 146 #[vV y0 y1 y2] (vV m i t)) (H1 : CallIs 150 #[vV k i t] (.int .i64 x)) (H2 : CallIs 150 #[vV m i t] (.int .i64 x)) : CallIs 57 #[vV x0 x1 x2, vV y0 y1 y2] (.int .i64 0) := by
  intro w
  go_enter Tryz.func57, Tryz.ntmps57
  try simp only [List.append]
  have ca : Hid (O3 ((w.alloc (vO x0 x1 x2)).alloc (vO y0 y1 y2)) (w.heap.size) (.int .i64 x0) (.int .i64 x1) (.string x2)) := hide (by have h0 := ((O3.new w (.int .i64 x0) (.int .i64 x1) (.string x2) 26).alloc (vO y0 y1 y2)); exact h0)
  have cb : Hid (O3 ((w.alloc (vO x0 x1 x2)).alloc (vO y0 y1 y2)) (w.heap.size + 1) (.int .i64 y0) (.int .i64 y1) (.string y2)) := hide (by have h0 := (O3.new (w.alloc (vO x0 x1 x2)) (.int .i64 y0) (.int .i64 y1) (.string y2) 26); simp only [World.size_alloc] at h0; exact h0)
  have qca10 := cell_regrown ca.out.1.1
  have qca11 := cell_regrown ca.out.1.2.1
  have qca12 := cell_regrown ca.out.1.2.2
  have qcb10 := cell_regrown cb.out.1.1
  have qcb11 := cell_regrown cb.out.1.2.1
  have qcb12 := cell_regrown cb.out.1.2.2
  have k10 := fun d' os => Calls.regrown_of (HA.out (grow (redrawn ((w.alloc (vO x0 x1 x2)).alloc (vO y0 y1 y2)) d') os))
  have k11 := fun d' os => Calls.regrown_of (HB.out (grow (redrawn ((w.alloc (vO x0 x1 x2)).alloc (vO y0 y1 y2)) d') os))
  go_wp2_with fail
  refine quiet_tail 4 (by kernel_rfl) (by kernel_rfl) ?_
  simp only [List.take_succ_cons, List.take_zero, List.drop_succ_cons, List.drop_zero]
  repeat (go_big_quiet_step (first | (with_reducible exact k10 _ _) | (with_reducible exact k11 _ _)))
  refine wpQuiet_nil ?_
  intro w1 hw1
  have hb1 : Below (((w.alloc (vO x0 x1 x2)).alloc (vO y0 y1 y2))).heap.size ((w.alloc (vO x0 x1 x2)).alloc (vO y0 y1 y2)) w1 := by obtain ⟨⟨dq, osq⟩, hq⟩ := hw1; rw [hq]; exact below_regrown _ dq osq
  clear hw1 qca10 qca11 qca12 qcb10 qcb11 qcb12 k10 k11
  have B1 := hide (next (step (step (Below.refl w.heap.size w) _) _) hb1)
  replace ca := hide (ca.out.keep hb1)
  replace cb := hide (cb.out.keep hb1)
  have caw100 := ca.out.1.1
  have caw101 := ca.out.1.2.1
  have caw102 := ca.out.1.2.2
  have caw10f := ca.out.2
  have B1p := hide (below_put3 (b := w.heap.size) (B1.out) (by omega) (.int .i64 k) (.int .i64 i) (.string t))
  replace ca := hide (ca.out.put (.int .i64 k) (.int .i64 i) (.string t))
  replace cb := hide (O3.other (b := w.heap.size) (u0 := .int .i64 k) (u1 := .int .i64 i) (u2 := .string t) cb.out (by omega))
  obtain ⟨w1p, hw1p⟩ : ∃ w1p, put3 w1 (w.heap.size) (.int .i64 k) (.int .i64 i) (.string t) = w1p := ⟨_, rfl⟩
  rw [hw1p] at B1p ca cb
  unfold put3 at hw1p
  have cbw1p00 := cb.out.1.1
  have cbw1p01 := cb.out.1.2.1
  have cbw1p02 := cb.out.1.2.2
  have cbw1p0f := cb.out.2
  have B1p := hide (below_put3 (b := w.heap.size + 1) (B1p.out) (by omega) (.int .i64 m) (.int .i64 i) (.string t))
  replace ca := hide (O3.other (b := w.heap.size + 1) (u0 := .int .i64 m) (u1 := .int .i64 i) (u2 := .string t) ca.out (by omega))
  replace cb := hide (cb.out.put (.int .i64 m) (.int .i64 i) (.string t))
  obtain ⟨w1pp, hw1pp⟩ : ∃ w1pp, put3 w1p (w.heap.size + 1) (.int .i64 m) (.int .i64 i) (.string t) = w1pp := ⟨_, rfl⟩
  rw [hw1pp] at B1p ca cb
  unfold put3 at hw1pp
  have caw1pp00 := ca.out.1.1
  have caw1pp01 := ca.out.1.2.1
  have caw1pp02 := ca.out.1.2.2
  have cbw1pp00 := cb.out.1.1
  have cbw1pp01 := cb.out.1.2.1
  have cbw1pp02 := cb.out.1.2.2
  have qca20 := cell_regrown ca.out.1.1
  have qca21 := cell_regrown ca.out.1.2.1
  have qca22 := cell_regrown ca.out.1.2.2
  have qcb20 := cell_regrown cb.out.1.1
  have qcb21 := cell_regrown cb.out.1.2.1
  have qcb22 := cell_regrown cb.out.1.2.2
  have k20 := fun d' os => Calls.regrown_of (H1.out (grow (redrawn w1pp d') os))
  have k21 := fun d' os => Calls.regrown_of (H2.out (grow (redrawn w1pp d') os))
  go_wp2_with fail
  refine wp_region_quiet_below (by kernel_rfl) (by kernel_rfl) ?_
  repeat (go_big_quiet_step (first | (with_reducible exact k20 _ _) | (with_reducible exact k21 _ _)))
  refine wpQuiet_nil ?_
  intro w2 hw2
  have hb2 : Below (w1pp).heap.size w1pp w2 := by obtain ⟨⟨dq, osq⟩, hq⟩ := hw2; rw [hq]; exact below_regrown _ dq osq
  clear hw2 qca20 qca21 qca22 qcb20 qcb21 qcb22 k20 k21
  clear caw100
  clear caw101
  clear caw102
  clear caw10f
  clear cbw1p00
  clear cbw1p01
  clear cbw1p02
  clear cbw1p0f
  clear caw1pp00
  clear caw1pp01
  clear caw1pp02
  clear cbw1pp00
  clear cbw1pp01
  clear cbw1pp02
  have B2 := hide (next (B1p.out) hb2)
  replace ca := hide (ca.out.keep hb2)
  replace cb := hide (cb.out.keep hb2)
  have caw200 := ca.out.1.1
  have caw201 := ca.out.1.2.1
  have caw202 := ca.out.1.2.2
  have cbw200 := cb.out.1.1
  have cbw201 := cb.out.1.2.1
  have cbw202 := cb.out.1.2.2
  go_wp2_with fail
  go_ret
  exact ⟨rfl, B2.out⟩
end Go.Proofs.YtfhgljepnieigaaGreatDoor
