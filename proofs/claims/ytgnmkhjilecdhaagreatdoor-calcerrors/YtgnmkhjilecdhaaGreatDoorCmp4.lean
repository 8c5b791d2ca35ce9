/- What value.Compare answers: by ranks, by texts, by numbers; what a blank is beside another value. Proved of the Go text. -/
import Derived.Test.YtgnmkhjilecdhaaGreatDoorNums4
namespace Go.Proofs.YtgnmkhjilecdhaaGreatDoor
open Go.RowKit Go.Sort
set_option linter.unusedVariables false

def ord1 (x y : Int) : Int := if x < y then -1 else if y < x then 1 else 0
theorem ord1_lt {x y : Int} (h : x < y) : ord1 x y = -1 := if_pos h
theorem ord1_gt {x y : Int} (h : y < x) : ord1 x y = 1 := by unfold ord1; rw [if_neg (by omega), if_pos h]
theorem ord1_eq {x y : Int} (h : x = y) : ord1 x y = 0 := by unfold ord1; rw [if_neg (by omega), if_neg (by omega)]
set_option maxHeartbeats 400000 in
theorem cmpI_is (x y : Int) : CallIs 102 #[.int .i64 x, .int .i64 y] (.int .i64 (ord1 x y)) := by
  intro w
  by_cases h1 : x < y
  · have HE := hide (ord1_lt h1)
    go_enter Tryz.func102, Tryz.ntmps102
    go_wp2
    go_ret
    rw [HE.out]; exact ⟨rfl, by go_grown⟩
  · by_cases h2 : y < x
    · have HE := hide (ord1_gt h2)
      go_enter Tryz.func102, Tryz.ntmps102
      go_wp2
      go_ret
      rw [HE.out]; exact ⟨rfl, by go_grown⟩
    · have HE := hide (ord1_eq (show x = y by omega))
      go_enter Tryz.func102, Tryz.ntmps102
      go_wp2
      go_ret
      rw [HE.out]; exact ⟨rfl, by go_grown⟩
set_option maxHeartbeats 400000 in
theorem cmpL_is (x y : Int) : CallIs 34 #[.int .i64 x, .int .i64 y] (.int .i64 (ord1 x y)) := by
  intro w
  by_cases h1 : x < y
  · have HE := hide (ord1_lt h1)
    go_enter Tryz.func34, Tryz.ntmps34
    go_wp2
    go_ret
    rw [HE.out]; exact ⟨rfl, by go_grown⟩
  · by_cases h2 : y < x
    · have HE := hide (ord1_gt h2)
      go_enter Tryz.func34, Tryz.ntmps34
      go_wp2
      go_ret
      rw [HE.out]; exact ⟨rfl, by go_grown⟩
    · have HE := hide (ord1_eq (show x = y by omega))
      go_enter Tryz.func34, Tryz.ntmps34
      go_wp2
      go_ret
      rw [HE.out]; exact ⟨rfl, by go_grown⟩
theorem cmpS_is (a b : ByteArray) : CallIs 104 #[.string a, .string b] (.int .i64 (Lib.compareBytes a.data.toList b.data.toList)) := fun w => below_same (Tryz.strings_Compare a b w)
set_option maxHeartbeats 400000 in
theorem rank0  : CallIs 103 #[.int .i64 0] (.int .i64 0) := by
  intro w
  go_enter Tryz.func103, Tryz.ntmps103
  go_wp2_with fail
  go_ret
  exact ⟨rfl, by go_grown⟩
set_option maxHeartbeats 400000 in
theorem rank1  : CallIs 103 #[.int .i64 1] (.int .i64 1) := by
  intro w
  go_enter Tryz.func103, Tryz.ntmps103
  go_wp2_with fail
  go_ret
  exact ⟨rfl, by go_grown⟩
set_option maxHeartbeats 400000 in
theorem rank2  : CallIs 103 #[.int .i64 2] (.int .i64 3) := by
  intro w
  go_enter Tryz.func103, Tryz.ntmps103
  go_wp2_with fail
  go_ret
  exact ⟨rfl, by go_grown⟩
set_option maxHeartbeats 400000 in
theorem rank3  : CallIs 103 #[.int .i64 3] (.int .i64 2) := by
  intro w
  go_enter Tryz.func103, Tryz.ntmps103
  go_wp2_with fail
  go_ret
  exact ⟨rfl, by go_grown⟩
set_option maxHeartbeats 400000 in
theorem rank4  : CallIs 103 #[.int .i64 4] (.int .i64 4) := by
  intro w
  go_enter Tryz.func103, Tryz.ntmps103
  go_wp2_with fail
  go_ret
  exact ⟨rfl, by go_grown⟩
set_option maxHeartbeats 400000 in
theorem beside_self (k i k2 i2 : Int) (t t2 : ByteArray) (h : (k != 0) = true) : CallIs 101 #[vV k i t, vV k2 i2 t2] (vV k i t) := by
  intro w
  go_enter Tryz.func101, Tryz.ntmps101
  go_wp2_with fail
  go_returns
  exact ⟨rfl, by go_grown⟩
set_option maxHeartbeats 400000 in
theorem beside_err (i i2 : Int) (t t2 : ByteArray) : CallIs 101 #[vV 0 i t, vV 4 i2 t2] (vV 0 i t) := by
  intro w
  go_enter Tryz.func101, Tryz.ntmps101
  go_wp2_with fail
  go_returns
  exact ⟨rfl, by go_grown⟩
set_option maxHeartbeats 400000 in
theorem beside_kind (i k2 i2 : Int) (t t2 : ByteArray) (h : (k2 == 4) = false) : CallIs 101 #[vV 0 i t, vV k2 i2 t2] (vV k2 0 no) := by
  intro w
  go_enter Tryz.func101, Tryz.ntmps101
  go_wp2_with fail
  go_returns
  exact ⟨rfl, by go_grown⟩
set_option maxHeartbeats 2000000 in
theorem vcmp_diff (a0 a1 : Int) (a2 : ByteArray) (b0 b1 : Int) (b2 : ByteArray) (c0 c1 : Int) (c2 : ByteArray) (d0 d1 : Int) (d2 : ByteArray) (r1 r2 v : Int) (hk : (c0 != d0) = true) (x0 x1 : Int) (x2 : ByteArray) (y0 y1 : Int) (y2 : ByteArray) (HA : CallIs 95 #[vV x0 x1 x2] (vV a0 a1 a2)) (HB : CallIs 95 #[vV y0 y1 y2] (vV b0 b1 b2)) (HX : CallIs 101 #[vV a0 a1 a2, vV b0 b1 b2] (vV c0 c1 c2)) (HY : CallIs 101 #[vV b0 b1 b2, vV a0 a1 a2] (vV d0 d1 d2)) (H1 : CallIs 103 #[.int .i64 c0] (.int .i64 r1)) (H2 : CallIs 103 #[.int .i64 d0] (.int .i64 r2)) (H3 : CallIs 102 #[.int .i64 r1, .int .i64 r2] (.int .i64 v)) : CallIs 31 #[vV x0 x1 x2, vV y0 y1 y2] (.int .i64 v) := by
  intro w
  go_enter Tryz.func31, Tryz.ntmps31
  try simp only [List.append]
  have ca : Hid (O3 ((w.alloc (vO x0 x1 x2)).alloc (vO y0 y1 y2)) (w.heap.size) (.int .i64 x0) (.int .i64 x1) (.string x2)) := hide (by have h0 := ((O3.new w (.int .i64 x0) (.int .i64 x1) (.string x2) 30).alloc (vO y0 y1 y2)); exact h0)
  have cb : Hid (O3 ((w.alloc (vO x0 x1 x2)).alloc (vO y0 y1 y2)) (w.heap.size + 1) (.int .i64 y0) (.int .i64 y1) (.string y2)) := hide (by have h0 := (O3.new (w.alloc (vO x0 x1 x2)) (.int .i64 y0) (.int .i64 y1) (.string y2) 30); simp only [World.size_alloc] at h0; exact h0)
  have qca10 := cell_regrown ca.out.1.1
  have qca11 := cell_regrown ca.out.1.2.1
  have qca12 := cell_regrown ca.out.1.2.2
  have qcb10 := cell_regrown cb.out.1.1
  have qcb11 := cell_regrown cb.out.1.2.1
  have qcb12 := cell_regrown cb.out.1.2.2
  have k10 := fun d' os => Calls.regrown_of (HA.out (grow (redrawn ((w.alloc (vO x0 x1 x2)).alloc (vO y0 y1 y2)) d') os))
  have k11 := fun d' os => Calls.regrown_of (HB.out (grow (redrawn ((w.alloc (vO x0 x1 x2)).alloc (vO y0 y1 y2)) d') os))
  go_wp2_with fail
  refine quiet_tail 4 (by kernel_rfl) (by kernel_rfl) ?_
  simp only [List.take_succ_cons, List.take_zero, List.drop_succ_cons, List.drop_zero]
  repeat (go_big_quiet_step (first | (with_reducible exact k10 _ _) | (with_reducible exact k11 _ _)))
  refine wpQuiet_nil ?_
  intro w1 hw1
  have hb1 : Below (((w.alloc (vO x0 x1 x2)).alloc (vO y0 y1 y2))).heap.size ((w.alloc (vO x0 x1 x2)).alloc (vO y0 y1 y2)) w1 := by obtain ⟨⟨dq, osq⟩, hq⟩ := hw1; rw [hq]; exact below_regrown _ dq osq
  clear hw1 qca10 qca11 qca12 qcb10 qcb11 qcb12 k10 k11
  have B1 := hide (next (step (step (Below.refl w.heap.size w) _) _) hb1)
  replace ca := hide (ca.out.keep hb1)
  replace cb := hide (cb.out.keep hb1)
  have caw100 := ca.out.1.1
  have caw101 := ca.out.1.2.1
  have caw102 := ca.out.1.2.2
  have caw10f := ca.out.2
  have B1p := hide (below_put3 (b := w.heap.size) (B1.out) (by omega) (.int .i64 a0) (.int .i64 a1) (.string a2))
  replace ca := hide (ca.out.put (.int .i64 a0) (.int .i64 a1) (.string a2))
  replace cb := hide (O3.other (b := w.heap.size) (u0 := .int .i64 a0) (u1 := .int .i64 a1) (u2 := .string a2) cb.out (by omega))
  obtain ⟨w1p, hw1p⟩ : ∃ w1p, put3 w1 (w.heap.size) (.int .i64 a0) (.int .i64 a1) (.string a2) = w1p := ⟨_, rfl⟩
  rw [hw1p] at B1p ca cb
  unfold put3 at hw1p
  have cbw1p00 := cb.out.1.1
  have cbw1p01 := cb.out.1.2.1
  have cbw1p02 := cb.out.1.2.2
  have cbw1p0f := cb.out.2
  have B1p := hide (below_put3 (b := w.heap.size + 1) (B1p.out) (by omega) (.int .i64 b0) (.int .i64 b1) (.string b2))
  replace ca := hide (O3.other (b := w.heap.size + 1) (u0 := .int .i64 b0) (u1 := .int .i64 b1) (u2 := .string b2) ca.out (by omega))
  replace cb := hide (cb.out.put (.int .i64 b0) (.int .i64 b1) (.string b2))
  obtain ⟨w1pp, hw1pp⟩ : ∃ w1pp, put3 w1p (w.heap.size + 1) (.int .i64 b0) (.int .i64 b1) (.string b2) = w1pp := ⟨_, rfl⟩
  rw [hw1pp] at B1p ca cb
  unfold put3 at hw1pp
  have qca20 := cell_regrown ca.out.1.1
  have qca21 := cell_regrown ca.out.1.2.1
  have qca22 := cell_regrown ca.out.1.2.2
  have qcb20 := cell_regrown cb.out.1.1
  have qcb21 := cell_regrown cb.out.1.2.1
  have qcb22 := cell_regrown cb.out.1.2.2
  have k20 := fun d' os => Calls.regrown_of (HX.out (grow (redrawn w1pp d') os))
  have k21 := fun d' os => Calls.regrown_of (HY.out (grow (redrawn w1pp d') os))
  go_wp2_with fail
  refine quiet_tail 6 (by kernel_rfl) (by kernel_rfl) ?_
  simp only [List.take_succ_cons, List.take_zero, List.drop_succ_cons, List.drop_zero]
  repeat (go_big_quiet_step (first | (with_reducible exact k20 _ _) | (with_reducible exact k21 _ _)))
  refine wpQuiet_nil ?_
  intro w2 hw2
  have hb2 : Below (w1pp).heap.size w1pp w2 := by obtain ⟨⟨dq, osq⟩, hq⟩ := hw2; rw [hq]; exact below_regrown _ dq osq
  clear hw2 qca20 qca21 qca22 qcb20 qcb21 qcb22 k20 k21
  clear caw100
  clear caw101
  clear caw102
  clear caw10f
  clear cbw1p00
  clear cbw1p01
  clear cbw1p02
  clear cbw1p0f
  have B2 := hide (next (B1p.out) hb2)
  replace ca := hide (ca.out.keep hb2)
  replace cb := hide (cb.out.keep hb2)
  have caw200 := ca.out.1.1
  have caw201 := ca.out.1.2.1
  have caw202 := ca.out.1.2.2
  have caw20f := ca.out.2
  have B2p := hide (below_put3 (b := w.heap.size) (B2.out) (by omega) (.int .i64 c0) (.int .i64 c1) (.string c2))
  replace ca := hide (ca.out.put (.int .i64 c0) (.int .i64 c1) (.string c2))
  replace cb := hide (O3.other (b := w.heap.size) (u0 := .int .i64 c0) (u1 := .int .i64 c1) (u2 := .string c2) cb.out (by omega))
  obtain ⟨w2p, hw2p⟩ : ∃ w2p, put3 w2 (w.heap.size) (.int .i64 c0) (.int .i64 c1) (.string c2) = w2p := ⟨_, rfl⟩
  rw [hw2p] at B2p ca cb
  unfold put3 at hw2p
  have cbw2p00 := cb.out.1.1
  have cbw2p01 := cb.out.1.2.1
  have cbw2p02 := cb.out.1.2.2
  have cbw2p0f := cb.out.2
  have B2p := hide (below_put3 (b := w.heap.size + 1) (B2p.out) (by omega) (.int .i64 d0) (.int .i64 d1) (.string d2))
  replace ca := hide (O3.other (b := w.heap.size + 1) (u0 := .int .i64 d0) (u1 := .int .i64 d1) (u2 := .string d2) ca.out (by omega))
  replace cb := hide (cb.out.put (.int .i64 d0) (.int .i64 d1) (.string d2))
  obtain ⟨w2pp, hw2pp⟩ : ∃ w2pp, put3 w2p (w.heap.size + 1) (.int .i64 d0) (.int .i64 d1) (.string d2) = w2pp := ⟨_, rfl⟩
  rw [hw2pp] at B2p ca cb
  unfold put3 at hw2pp
  have caw2pp00 := ca.out.1.1
  have caw2pp01 := ca.out.1.2.1
  have caw2pp02 := ca.out.1.2.2
  have cbw2pp00 := cb.out.1.1
  have cbw2pp01 := cb.out.1.2.1
  have cbw2pp02 := cb.out.1.2.2
  have qca30 := cell_regrown ca.out.1.1
  have qca31 := cell_regrown ca.out.1.2.1
  have qca32 := cell_regrown ca.out.1.2.2
  have qcb30 := cell_regrown cb.out.1.1
  have qcb31 := cell_regrown cb.out.1.2.1
  have qcb32 := cell_regrown cb.out.1.2.2
  have k30 := fun d' os => Calls.regrown_of (H1.out (grow (redrawn w2pp d') os))
  have k31 := fun d' os => Calls.regrown_of (H2.out (grow (redrawn w2pp d') os))
  have k32 := fun d' os => Calls.regrown_of (H3.out (grow (redrawn w2pp d') os))
  go_wp2_with fail
  refine wp_region_quiet_below (by kernel_rfl) (by kernel_rfl) ?_
  repeat (go_big_quiet_step (first | (with_reducible exact k30 _ _) | (with_reducible exact k31 _ _) | (with_reducible exact k32 _ _)))
  refine wpQuiet_nil ?_
  intro w3 hw3
  have hb3 : Below (w2pp).heap.size w2pp w3 := by obtain ⟨⟨dq, osq⟩, hq⟩ := hw3; rw [hq]; exact below_regrown _ dq osq
  clear hw3 qca30 qca31 qca32 qcb30 qcb31 qcb32 k30 k31 k32
  clear caw200
  clear caw201
  clear caw202
  clear caw20f
  clear cbw2p00
  clear cbw2p01
  clear cbw2p02
  clear cbw2p0f
  clear caw2pp00
  clear caw2pp01
  clear caw2pp02
  clear cbw2pp00
  clear cbw2pp01
  clear cbw2pp02
  have B3 := hide (next (B2p.out) hb3)
  replace ca := hide (ca.out.keep hb3)
  replace cb := hide (cb.out.keep hb3)
  go_wp2_with fail
  go_ret
  exact ⟨rfl, B3.out⟩
set_option maxHeartbeats 2000000 in
theorem vcmp_text (a0 a1 : Int) (a2 : ByteArray) (b0 b1 : Int) (b2 : ByteArray) (c1 : Int) (c2 : ByteArray) (d1 : Int) (d2 : ByteArray) (v : Int) (x0 x1 : Int) (x2 : ByteArray) (y0 y1 : Int) (y2 : ByteArray) (HA : CallIs 95 #[vV x0 x1 x2] (vV a0 a1 a2)) (HB : CallIs 95 #[vV y0 y1 y2] (vV b0 b1 b2)) (HX : CallIs 101 #[vV a0 a1 a2, vV b0 b1 b2] (vV 3 c1 c2)) (HY : CallIs 101 #[vV b0 b1 b2, vV a0 a1 a2] (vV 3 d1 d2)) (H1 : CallIs 104 #[.string c2, .string d2] (.int .i64 v)) : CallIs 31 #[vV x0 x1 x2, vV y0 y1 y2] (.int .i64 v) := by
  intro w
  go_enter Tryz.func31, Tryz.ntmps31
  try simp only [List.append]
  have ca : Hid (O3 ((w.alloc (vO x0 x1 x2)).alloc (vO y0 y1 y2)) (w.heap.size) (.int .i64 x0) (.int .i64 x1) (.string x2)) := hide (by have h0 := ((O3.new w (.int .i64 x0) (.int .i64 x1) (.string x2) 30).alloc (vO y0 y1 y2)); exact h0)
  have cb : Hid (O3 ((w.alloc (vO x0 x1 x2)).alloc (vO y0 y1 y2)) (w.heap.size + 1) (.int .i64 y0) (.int .i64 y1) (.string y2)) := hide (by have h0 := (O3.new (w.alloc (vO x0 x1 x2)) (.int .i64 y0) (.int .i64 y1) (.string y2) 30); simp only [World.size_alloc] at h0; exact h0)
  have qca10 := cell_regrown ca.out.1.1
  have qca11 := cell_regrown ca.out.1.2.1
  have qca12 := cell_regrown ca.out.1.2.2
  have qcb10 := cell_regrown cb.out.1.1
  have qcb11 := cell_regrown cb.out.1.2.1
  have qcb12 := cell_regrown cb.out.1.2.2
  have k10 := fun d' os => Calls.regrown_of (HA.out (grow (redrawn ((w.alloc (vO x0 x1 x2)).alloc (vO y0 y1 y2)) d') os))
  have k11 := fun d' os => Calls.regrown_of (HB.out (grow (redrawn ((w.alloc (vO x0 x1 x2)).alloc (vO y0 y1 y2)) d') os))
  go_wp2_with fail
  refine quiet_tail 4 (by kernel_rfl) (by kernel_rfl) ?_
  simp only [List.take_succ_cons, List.take_zero, List.drop_succ_cons, List.drop_zero]
  repeat (go_big_quiet_step (first | (with_reducible exact k10 _ _) | (with_reducible exact k11 _ _)))
  refine wpQuiet_nil ?_
  intro w1 hw1
  have hb1 : Below (((w.alloc (vO x0 x1 x2)).alloc (vO y0 y1 y2))).heap.size ((w.alloc (vO x0 x1 x2)).alloc (vO y0 y1 y2)) w1 := by obtain ⟨⟨dq, osq⟩, hq⟩ := hw1; rw [hq]; exact below_regrown _ dq osq
  clear hw1 qca10 qca11 qca12 qcb10 qcb11 qcb12 k10 k11
  have B1 := hide (next (step (step (Below.refl w.heap.size w) _) _) hb1)
  replace ca := hide (ca.out.keep hb1)
  replace cb := hide (cb.out.keep hb1)
  have caw100 := ca.out.1.1
  have caw101 := ca.out.1.2.1
  have caw102 := ca.out.1.2.2
  have caw10f := ca.out.2
  have B1p := hide (below_put3 (b := w.heap.size) (B1.out) (by omega) (.int .i64 a0) (.int .i64 a1) (.string a2))
  replace ca := hide (ca.out.put (.int .i64 a0) (.int .i64 a1) (.string a2))
  replace cb := hide (O3.other (b := w.heap.size) (u0 := .int .i64 a0) (u1 := .int .i64 a1) (u2 := .string a2) cb.out (by omega))
  obtain ⟨w1p, hw1p⟩ : ∃ w1p, put3 w1 (w.heap.size) (.int .i64 a0) (.int .i64 a1) (.string a2) = w1p := ⟨_, rfl⟩
  rw [hw1p] at B1p ca cb
  unfold put3 at hw1p
  have cbw1p00 := cb.out.1.1
  have cbw1p01 := cb.out.1.2.1
  have cbw1p02 := cb.out.1.2.2
  have cbw1p0f := cb.out.2
  have B1p := hide (below_put3 (b := w.heap.size + 1) (B1p.out) (by omega) (.int .i64 b0) (.int .i64 b1) (.string b2))
  replace ca := hide (O3.other (b := w.heap.size + 1) (u0 := .int .i64 b0) (u1 := .int .i64 b1) (u2 := .string b2) ca.out (by omega))
  replace cb := hide (cb.out.put (.int .i64 b0) (.int .i64 b1) (.string b2))
  obtain ⟨w1pp, hw1pp⟩ : ∃ w1pp, put3 w1p (w.heap.size + 1) (.int .i64 b0) (.int .i64 b1) (.string b2) = w1pp := ⟨_, rfl⟩
  rw [hw1pp] at B1p ca cb
  unfold put3 at hw1pp
  have qca20 := cell_regrown ca.out.1.1
  have qca21 := cell_regrown ca.out.1.2.1
  have qca22 := cell_regrown ca.out.1.2.2
  have qcb20 := cell_regrown cb.out.1.1
  have qcb21 := cell_regrown cb.out.1.2.1
  have qcb22 := cell_regrown cb.out.1.2.2
  have k20 := fun d' os => Calls.regrown_of (HX.out (grow (redrawn w1pp d') os))
  have k21 := fun d' os => Calls.regrown_of (HY.out (grow (redrawn w1pp d') os))
  go_wp2_with fail
  refine quiet_tail 6 (by kernel_rfl) (by kernel_rfl) ?_
  simp only [List.take_succ_cons, List.take_zero, List.drop_succ_cons, List.drop_zero]
  repeat (go_big_quiet_step (first | (with_reducible exact k20 _ _) | (with_reducible exact k21 _ _)))
  refine wpQuiet_nil ?_
  intro w2 hw2
  have hb2 : Below (w1pp).heap.size w1pp w2 := by obtain ⟨⟨dq, osq⟩, hq⟩ := hw2; rw [hq]; exact below_regrown _ dq osq
  clear hw2 qca20 qca21 qca22 qcb20 qcb21 qcb22 k20 k21
  clear caw100
  clear caw101
  clear caw102
  clear caw10f
  clear cbw1p00
  clear cbw1p01
  clear cbw1p02
  clear cbw1p0f
  have B2 := hide (next (B1p.out) hb2)
  replace ca := hide (ca.out.keep hb2)
  replace cb := hide (cb.out.keep hb2)
  have caw200 := ca.out.1.1
  have caw201 := ca.out.1.2.1
  have caw202 := ca.out.1.2.2
  have caw20f := ca.out.2
  have B2p := hide (below_put3 (b := w.heap.size) (B2.out) (by omega) (.int .i64 3) (.int .i64 c1) (.string c2))
  replace ca := hide (ca.out.put (.int .i64 3) (.int .i64 c1) (.string c2))
  replace cb := hide (O3.other (b := w.heap.size) (u0 := .int .i64 3) (u1 := .int .i64 c1) (u2 := .string c2) cb.out (by omega))
  obtain ⟨w2p, hw2p⟩ : ∃ w2p, put3 w2 (w.heap.size) (.int .i64 3) (.int .i64 c1) (.string c2) = w2p := ⟨_, rfl⟩
  rw [hw2p] at B2p ca cb
  unfold put3 at hw2p
  have cbw2p00 := cb.out.1.1
  have cbw2p01 := cb.out.1.2.1
  have cbw2p02 := cb.out.1.2.2
  have cbw2p0f := cb.out.2
  have B2p := hide (below_put3 (b := w.heap.size + 1) (B2p.out) (by omega) (.int .i64 3) (.int .i64 d1) (.string d2))
  replace ca := hide (O3.other (b := w.heap.size + 1) (u0 := .int .i64 3) (u1 := .int .i64 d1) (u2 := .string d2) ca.out (by omega))
  replace cb := hide (cb.out.put (.int .i64 3) (.int .i64 d1) (.string d2))
  obtain ⟨w2pp, hw2pp⟩ : ∃ w2pp, put3 w2p (w.heap.size + 1) (.int .i64 3) (.int .i64 d1) (.string d2) = w2pp := ⟨_, rfl⟩
  rw [hw2pp] at B2p ca cb
  unfold put3 at hw2pp
  have caw2pp00 := ca.out.1.1
  have caw2pp01 := ca.out.1.2.1
  have caw2pp02 := ca.out.1.2.2
  have cbw2pp00 := cb.out.1.1
  have cbw2pp01 := cb.out.1.2.1
  have cbw2pp02 := cb.out.1.2.2
  go_wp2_with fail
  refine (H1.out _).mono ?_
  rintro e w3 ⟨rfl, hb3⟩
  clear caw200
  clear caw201
  clear caw202
  clear caw20f
  clear cbw2p00
  clear cbw2p01
  clear cbw2p02
  clear cbw2p0f
  clear caw2pp00
  clear caw2pp01
  clear caw2pp02
  clear cbw2pp00
  clear cbw2pp01
  clear cbw2pp02
  have B3 := hide (next (B2p.out) hb3)
  replace ca := hide (ca.out.keep hb3)
  replace cb := hide (cb.out.keep hb3)
  go_wp2_with fail
  go_ret
  exact ⟨rfl, B3.out⟩
set_option maxHeartbeats 2000000 in
theorem vcmp_int (a0 a1 : Int) (a2 : ByteArray) (b0 b1 : Int) (b2 : ByteArray) (c0 c1 : Int) (c2 : ByteArray) (d1 : Int) (d2 : ByteArray) (v : Int) (hk : (c0 == 3) = false) (x0 x1 : Int) (x2 : ByteArray) (y0 y1 : Int) (y2 : ByteArray) (HA : CallIs 95 #[vV x0 x1 x2] (vV a0 a1 a2)) (HB : CallIs 95 #[vV y0 y1 y2] (vV b0 b1 b2)) (HX : CallIs 101 #[vV a0 a1 a2, vV b0 b1 b2] (vV c0 c1 c2)) (HY : CallIs 101 #[vV b0 b1 b2, vV a0 a1 a2] (vV c0 d1 d2)) (H1 : CallIs 34 #[.int .i64 c1, .int .i64 d1] (.int .i64 v)) : CallIs 31 #[vV x0 x1 x2, vV y0 y1 y2] (.int .i64 v) := by
  intro w
  go_enter Tryz.func31, Tryz.ntmps31
  try simp only [List.append]
  have ca : Hid (O3 ((w.alloc (vO x0 x1 x2)).alloc (vO y0 y1 y2)) (w.heap.size) (.int .i64 x0) (.int .i64 x1) (.string x2)) := hide (by have h0 := ((O3.new w (.int .i64 x0) (.int .i64 x1) (.string x2) 30).alloc (vO y0 y1 y2)); exact h0)
  have cb : Hid (O3 ((w.alloc (vO x0 x1 x2)).alloc (vO y0 y1 y2)) (w.heap.size + 1) (.int .i64 y0) (.int .i64 y1) (.string y2)) := hide (by have h0 := (O3.new (w.alloc (vO x0 x1 x2)) (.int .i64 y0) (.int .i64 y1) (.string y2) 30); simp only [World.size_alloc] at h0; exact h0)
  have qca10 := cell_regrown ca.out.1.1
  have qca11 := cell_regrown ca.out.1.2.1
  have qca12 := cell_regrown ca.out.1.2.2
  have qcb10 := cell_regrown cb.out.1.1
  have qcb11 := cell_regrown cb.out.1.2.1
  have qcb12 := cell_regrown cb.out.1.2.2
  have k10 := fun d' os => Calls.regrown_of (HA.out (grow (redrawn ((w.alloc (vO x0 x1 x2)).alloc (vO y0 y1 y2)) d') os))
  have k11 := fun d' os => Calls.regrown_of (HB.out (grow (redrawn ((w.alloc (vO x0 x1 x2)).alloc (vO y0 y1 y2)) d') os))
  go_wp2_with fail
  refine quiet_tail 4 (by kernel_rfl) (by kernel_rfl) ?_
  simp only [List.take_succ_cons, List.take_zero, List.drop_succ_cons, List.drop_zero]
  repeat (go_big_quiet_step (first | (with_reducible exact k10 _ _) | (with_reducible exact k11 _ _)))
  refine wpQuiet_nil ?_
  intro w1 hw1
  have hb1 : Below (((w.alloc (vO x0 x1 x2)).alloc (vO y0 y1 y2))).heap.size ((w.alloc (vO x0 x1 x2)).alloc (vO y0 y1 y2)) w1 := by obtain ⟨⟨dq, osq⟩, hq⟩ := hw1; rw [hq]; exact below_regrown _ dq osq
  clear hw1 qca10 qca11 qca12 qcb10 qcb11 qcb12 k10 k11
  have B1 := hide (next (step (step (Below.refl w.heap.size w) _) _) hb1)
  replace ca := hide (ca.out.keep hb1)
  replace cb := hide (cb.out.keep hb1)
  have caw100 := ca.out.1.1
  have caw101 := ca.out.1.2.1
  have caw102 := ca.out.1.2.2
  have caw10f := ca.out.2
  have B1p := hide (below_put3 (b := w.heap.size) (B1.out) (by omega) (.int .i64 a0) (.int .i64 a1) (.string a2))
  replace ca := hide (ca.out.put (.int .i64 a0) (.int .i64 a1) (.string a2))
  replace cb := hide (O3.other (b := w.heap.size) (u0 := .int .i64 a0) (u1 := .int .i64 a1) (u2 := .string a2) cb.out (by omega))
  obtain ⟨w1p, hw1p⟩ : ∃ w1p, put3 w1 (w.heap.size) (.int .i64 a0) (.int .i64 a1) (.string a2) = w1p := ⟨_, rfl⟩
  rw [hw1p] at B1p ca cb
  unfold put3 at hw1p
  have cbw1p00 := cb.out.1.1
  have cbw1p01 := cb.out.1.2.1
  have cbw1p02 := cb.out.1.2.2
  have cbw1p0f := cb.out.2
  have B1p := hide (below_put3 (b := w.heap.size + 1) (B1p.out) (by omega) (.int .i64 b0) (.int .i64 b1) (.string b2))
  replace ca := hide (O3.other (b := w.heap.size + 1) (u0 := .int .i64 b0) (u1 := .int .i64 b1) (u2 := .string b2) ca.out (by omega))
  replace cb := hide (cb.out.put (.int .i64 b0) (.int .i64 b1) (.string b2))
  obtain ⟨w1pp, hw1pp⟩ : ∃ w1pp, put3 w1p (w.heap.size + 1) (.int .i64 b0) (.int .i64 b1) (.string b2) = w1pp := ⟨_, rfl⟩
  rw [hw1pp] at B1p ca cb
  unfold put3 at hw1pp
  have qca20 := cell_regrown ca.out.1.1
  have qca21 := cell_regrown ca.out.1.2.1
  have qca22 := cell_regrown ca.out.1.2.2
  have qcb20 := cell_regrown cb.out.1.1
  have qcb21 := cell_regrown cb.out.1.2.1
  have qcb22 := cell_regrown cb.out.1.2.2
  have k20 := fun d' os => Calls.regrown_of (HX.out (grow (redrawn w1pp d') os))
  have k21 := fun d' os => Calls.regrown_of (HY.out (grow (redrawn w1pp d') os))
  go_wp2_with fail
  refine quiet_tail 6 (by kernel_rfl) (by kernel_rfl) ?_
  simp only [List.take_succ_cons, List.take_zero, List.drop_succ_cons, List.drop_zero]
  repeat (go_big_quiet_step (first | (with_reducible exact k20 _ _) | (with_reducible exact k21 _ _)))
  refine wpQuiet_nil ?_
  intro w2 hw2
  have hb2 : Below (w1pp).heap.size w1pp w2 := by obtain ⟨⟨dq, osq⟩, hq⟩ := hw2; rw [hq]; exact below_regrown _ dq osq
  clear hw2 qca20 qca21 qca22 qcb20 qcb21 qcb22 k20 k21
  clear caw100
  clear caw101
  clear caw102
  clear caw10f
  clear cbw1p00
  clear cbw1p01
  clear cbw1p02
  clear cbw1p0f
  have B2 := hide (next (B1p.out) hb2)
  replace ca := hide (ca.out.keep hb2)
  replace cb := hide (cb.out.keep hb2)
  have caw200 := ca.out.1.1
  have caw201 := ca.out.1.2.1
  have caw202 := ca.out.1.2.2
  have caw20f := ca.out.2
  have B2p := hide (below_put3 (b := w.heap.size) (B2.out) (by omega) (.int .i64 c0) (.int .i64 c1) (.string c2))
  replace ca := hide (ca.out.put (.int .i64 c0) (.int .i64 c1) (.string c2))
  replace cb := hide (O3.other (b := w.heap.size) (u0 := .int .i64 c0) (u1 := .int .i64 c1) (u2 := .string c2) cb.out (by omega))
  obtain ⟨w2p, hw2p⟩ : ∃ w2p, put3 w2 (w.heap.size) (.int .i64 c0) (.int .i64 c1) (.string c2) = w2p := ⟨_, rfl⟩
  rw [hw2p] at B2p ca cb
  unfold put3 at hw2p
  have cbw2p00 := cb.out.1.1
  have cbw2p01 := cb.out.1.2.1
  have cbw2p02 := cb.out.1.2.2
  have cbw2p0f := cb.out.2
  have B2p := hide (below_put3 (b := w.heap.size + 1) (B2p.out) (by omega) (.int .i64 c0) (.int .i64 d1) (.string d2))
  replace ca := hide (O3.other (b := w.heap.size + 1) (u0 := .int .i64 c0) (u1 := .int .i64 d1) (u2 := .string d2) ca.out (by omega))
  replace cb := hide (cb.out.put (.int .i64 c0) (.int .i64 d1) (.string d2))
  obtain ⟨w2pp, hw2pp⟩ : ∃ w2pp, put3 w2p (w.heap.size + 1) (.int .i64 c0) (.int .i64 d1) (.string d2) = w2pp := ⟨_, rfl⟩
  rw [hw2pp] at B2p ca cb
  unfold put3 at hw2pp
  have caw2pp00 := ca.out.1.1
  have caw2pp01 := ca.out.1.2.1
  have caw2pp02 := ca.out.1.2.2
  have cbw2pp00 := cb.out.1.1
  have cbw2pp01 := cb.out.1.2.1
  have cbw2pp02 := cb.out.1.2.2
  go_wp2_with fail
  refine (H1.out _).mono ?_
  rintro e w3 ⟨rfl, hb3⟩
  clear caw200
  clear caw201
  clear caw202
  clear caw20f
  clear cbw2p00
  clear cbw2p01
  clear cbw2p02
  clear cbw2p0f
  clear caw2pp00
  clear caw2pp01
  clear caw2pp02
  clear cbw2pp00
  clear cbw2pp01
  clear cbw2pp02
  have B3 := hide (next (B2p.out) hb3)
  replace ca := hide (ca.out.keep hb3)
  replace cb := hide (cb.out.keep hb3)
  go_wp2_with fail
  go_ret
  exact ⟨rfl, B3.out⟩
end Go.Proofs.YtgnmkhjilecdhaaGreatDoor
