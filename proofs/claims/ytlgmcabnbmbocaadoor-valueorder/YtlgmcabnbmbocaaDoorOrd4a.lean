/- The law ValueOrder, way by way. Proved of the Go text. -/
import Derived.Test.YtlgmcabnbmbocaaDoorBegun4
namespace Go.Proofs.YtlgmcabnbmbocaaDoor
open Go.RowKit Go.Sort
set_option linter.unusedVariables false

set_option maxHeartbeats 4000000 in
set_option maxRecDepth 100000 in
theorem ord_m_may1 (a0 a1 : Int) (a2 : ByteArray) (b0 b1 : Int) (b2 : ByteArray) (c0 c1 : Int) (c2 : ByteArray) (y z : Int) (HG : CallT 7 #[] (.bool true)) (H1 : CallIs 15 #[vV a0 a1 a2, vV b0 b1 b2] (.int .i64 (-1))) (H2 : CallIs 15 #[vV b0 b1 b2, vV c0 c1 c2] (.int .i64 y)) (H3 : CallIs 15 #[vV a0 a1 a2, vV c0 c1 c2] (.int .i64 z)) (H4 : CallIs 15 #[vV b0 b1 b2, vV a0 a1 a2] (.int .i64 1)) (H5 : CallIs 15 #[vV a0 a1 a2, vV a0 a1 a2] (.int .i64 0)) (M0 : CallIs 10 #[vV a0 a1 a2] (.bool false)) : CallT 6 #[vV a0 a1 a2, vV b0 b1 b2, vV c0 c1 c2] (.bool true) := by
  intro w ht
  have HT := hide ht
  clear ht
  go_enter Tryd.func6, Tryd.ntmps6
  try simp only [List.append]
  go_wp2_with fail
  refine (HG.out _ (tab_below HT.out (step (step (step (Below.refl w.heap.size w) _) _) _))).mono ?_
  rintro e w1 ⟨rfl, hb1⟩
  have B1 := hide (next (step (step (step (Below.refl w.heap.size w) _) _) _) hb1)
  have ca := hide ((((O3.new w (.int .i64 a0) (.int .i64 a1) (.string a2) 26).alloc _).alloc _).keep hb1)
  have cb := hide (((O3.new (w.alloc (vO a0 a1 a2)) (.int .i64 b0) (.int .i64 b1) (.string b2) 26).alloc _).keep hb1)
  simp only [World.size_alloc] at cb
  have cc := hide ((O3.new ((w.alloc (vO a0 a1 a2)).alloc (vO b0 b1 b2)) (.int .i64 c0) (.int .i64 c1) (.string c2) 26).keep hb1)
  simp only [World.size_alloc] at cc
  have qca20 := cell_regrown ca.out.1.1
  have qca21 := cell_regrown ca.out.1.2.1
  have qca22 := cell_regrown ca.out.1.2.2
  have qcb20 := cell_regrown cb.out.1.1
  have qcb21 := cell_regrown cb.out.1.2.1
  have qcb22 := cell_regrown cb.out.1.2.2
  have qcc20 := cell_regrown cc.out.1.1
  have qcc21 := cell_regrown cc.out.1.2.1
  have qcc22 := cell_regrown cc.out.1.2.2
  have k20 := fun d' os => Calls.regrown_of (H1.out (grow (redrawn w1 d') os))
  have k21 := fun d' os => Calls.regrown_of (H2.out (grow (redrawn w1 d') os))
  have k22 := fun d' os => Calls.regrown_of (H3.out (grow (redrawn w1 d') os))
  go_wp2_with fail
  refine wp_region_quiet_below (by kernel_rfl) (by kernel_rfl) ?_
  repeat (go_big_quiet_step (first | (with_reducible exact k20 _ _) | (with_reducible exact k21 _ _) | (with_reducible exact k22 _ _)))
  refine wpQuiet_nil ?_
  intro w2 hw2
  have hb2 : Below (w1).heap.size w1 w2 := by obtain ⟨⟨dq, osq⟩, hq⟩ := hw2; rw [hq]; exact below_regrown _ dq osq
  clear hw2 qca20 qca21 qca22 qcb20 qcb21 qcb22 qcc20 qcc21 qcc22 k20 k21 k22
  have B2 := hide (next (B1.out) hb2)
  replace ca := hide (ca.out.keep hb2)
  replace cb := hide (cb.out.keep hb2)
  replace cc := hide (cc.out.keep hb2)
  have caw200 := ca.out.1.1
  have caw201 := ca.out.1.2.1
  have caw202 := ca.out.1.2.2
  have cbw200 := cb.out.1.1
  have cbw201 := cb.out.1.2.1
  have cbw202 := cb.out.1.2.2
  go_wp2_with fail
  refine (H4.out _).mono ?_
  rintro e w3 ⟨rfl, hb3⟩
  clear caw200
  clear caw201
  clear caw202
  clear cbw200
  clear cbw201
  clear cbw202
  have B3 := hide (next (B2.out) hb3)
  replace ca := hide (ca.out.keep hb3)
  replace cb := hide (cb.out.keep hb3)
  replace cc := hide (cc.out.keep hb3)
  have caw300 := ca.out.1.1
  have caw301 := ca.out.1.2.1
  have caw302 := ca.out.1.2.2
  go_wp2_with fail
  refine (H5.out _).mono ?_
  rintro e w4 ⟨rfl, hb4⟩
  clear caw300
  clear caw301
  clear caw302
  have B4 := hide (next (B3.out) hb4)
  replace ca := hide (ca.out.keep hb4)
  replace cb := hide (cb.out.keep hb4)
  replace cc := hide (cc.out.keep hb4)
  have caw400 := ca.out.1.1
  have caw401 := ca.out.1.2.1
  have caw402 := ca.out.1.2.2
  go_wp2_with fail
  refine (M0.out _).mono ?_
  rintro e w5 ⟨rfl, hb5⟩
  clear caw400
  clear caw401
  clear caw402
  have B5 := hide (next (B4.out) hb5)
  replace ca := hide (ca.out.keep hb5)
  replace cb := hide (cb.out.keep hb5)
  replace cc := hide (cc.out.keep hb5)
  have caw500 := ca.out.1.1
  have caw501 := ca.out.1.2.1
  have caw502 := ca.out.1.2.2
  have cbw500 := cb.out.1.1
  have cbw501 := cb.out.1.2.1
  have cbw502 := cb.out.1.2.2
  have ccw500 := cc.out.1.1
  have ccw501 := cc.out.1.2.1
  have ccw502 := cc.out.1.2.2
  go_wp2_with fail
  go_ret
  exact ⟨rfl, B5.out⟩
set_option maxHeartbeats 4000000 in
set_option maxRecDepth 100000 in
theorem ord_m_may2 (a0 a1 : Int) (a2 : ByteArray) (b0 b1 : Int) (b2 : ByteArray) (c0 c1 : Int) (c2 : ByteArray) (y z : Int) (HG : CallT 7 #[] (.bool true)) (H1 : CallIs 15 #[vV a0 a1 a2, vV b0 b1 b2] (.int .i64 (-1))) (H2 : CallIs 15 #[vV b0 b1 b2, vV c0 c1 c2] (.int .i64 y)) (H3 : CallIs 15 #[vV a0 a1 a2, vV c0 c1 c2] (.int .i64 z)) (H4 : CallIs 15 #[vV b0 b1 b2, vV a0 a1 a2] (.int .i64 1)) (H5 : CallIs 15 #[vV a0 a1 a2, vV a0 a1 a2] (.int .i64 0)) (M0 : CallIs 10 #[vV a0 a1 a2] (.bool true)) (M1 : CallIs 10 #[vV b0 b1 b2] (.bool false)) : CallT 6 #[vV a0 a1 a2, vV b0 b1 b2, vV c0 c1 c2] (.bool true) := by
  intro w ht
  have HT := hide ht
  clear ht
  go_enter Tryd.func6, Tryd.ntmps6
  try simp only [List.append]
  go_wp2_with fail
  refine (HG.out _ (tab_below HT.out (step (step (step (Below.refl w.heap.size w) _) _) _))).mono ?_
  rintro e w1 ⟨rfl, hb1⟩
  have B1 := hide (next (step (step (step (Below.refl w.heap.size w) _) _) _) hb1)
  have ca := hide ((((O3.new w (.int .i64 a0) (.int .i64 a1) (.string a2) 26).alloc _).alloc _).keep hb1)
  have cb := hide (((O3.new (w.alloc (vO a0 a1 a2)) (.int .i64 b0) (.int .i64 b1) (.string b2) 26).alloc _).keep hb1)
  simp only [World.size_alloc] at cb
  have cc := hide ((O3.new ((w.alloc (vO a0 a1 a2)).alloc (vO b0 b1 b2)) (.int .i64 c0) (.int .i64 c1) (.string c2) 26).keep hb1)
  simp only [World.size_alloc] at cc
  have qca20 := cell_regrown ca.out.1.1
  have qca21 := cell_regrown ca.out.1.2.1
  have qca22 := cell_regrown ca.out.1.2.2
  have qcb20 := cell_regrown cb.out.1.1
  have qcb21 := cell_regrown cb.out.1.2.1
  have qcb22 := cell_regrown cb.out.1.2.2
  have qcc20 := cell_regrown cc.out.1.1
  have qcc21 := cell_regrown cc.out.1.2.1
  have qcc22 := cell_regrown cc.out.1.2.2
  have k20 := fun d' os => Calls.regrown_of (H1.out (grow (redrawn w1 d') os))
  have k21 := fun d' os => Calls.regrown_of (H2.out (grow (redrawn w1 d') os))
  have k22 := fun d' os => Calls.regrown_of (H3.out (grow (redrawn w1 d') os))
  go_wp2_with fail
  refine wp_region_quiet_below (by kernel_rfl) (by kernel_rfl) ?_
  repeat (go_big_quiet_step (first | (with_reducible exact k20 _ _) | (with_reducible exact k21 _ _) | (with_reducible exact k22 _ _)))
  refine wpQuiet_nil ?_
  intro w2 hw2
  have hb2 : Below (w1).heap.size w1 w2 := by obtain ⟨⟨dq, osq⟩, hq⟩ := hw2; rw [hq]; exact below_regrown _ dq osq
  clear hw2 qca20 qca21 qca22 qcb20 qcb21 qcb22 qcc20 qcc21 qcc22 k20 k21 k22
  have B2 := hide (next (B1.out) hb2)
  replace ca := hide (ca.out.keep hb2)
  replace cb := hide (cb.out.keep hb2)
  replace cc := hide (cc.out.keep hb2)
  have caw200 := ca.out.1.1
  have caw201 := ca.out.1.2.1
  have caw202 := ca.out.1.2.2
  have cbw200 := cb.out.1.1
  have cbw201 := cb.out.1.2.1
  have cbw202 := cb.out.1.2.2
  go_wp2_with fail
  refine (H4.out _).mono ?_
  rintro e w3 ⟨rfl, hb3⟩
  clear caw200
  clear caw201
  clear caw202
  clear cbw200
  clear cbw201
  clear cbw202
  have B3 := hide (next (B2.out) hb3)
  replace ca := hide (ca.out.keep hb3)
  replace cb := hide (cb.out.keep hb3)
  replace cc := hide (cc.out.keep hb3)
  have caw300 := ca.out.1.1
  have caw301 := ca.out.1.2.1
  have caw302 := ca.out.1.2.2
  go_wp2_with fail
  refine (H5.out _).mono ?_
  rintro e w4 ⟨rfl, hb4⟩
  clear caw300
  clear caw301
  clear caw302
  have B4 := hide (next (B3.out) hb4)
  replace ca := hide (ca.out.keep hb4)
  replace cb := hide (cb.out.keep hb4)
  replace cc := hide (cc.out.keep hb4)
  have caw400 := ca.out.1.1
  have caw401 := ca.out.1.2.1
  have caw402 := ca.out.1.2.2
  go_wp2_with fail
  refine (M0.out _).mono ?_
  rintro e w5 ⟨rfl, hb5⟩
  clear caw400
  clear caw401
  clear caw402
  have B5 := hide (next (B4.out) hb5)
  replace ca := hide (ca.out.keep hb5)
  replace cb := hide (cb.out.keep hb5)
  replace cc := hide (cc.out.keep hb5)
  have cbw500 := cb.out.1.1
  have cbw501 := cb.out.1.2.1
  have cbw502 := cb.out.1.2.2
  go_wp2_with fail
  refine (M1.out _).mono ?_
  rintro e w6 ⟨rfl, hb6⟩
  clear cbw500
  clear cbw501
  clear cbw502
  have B6 := hide (next (B5.out) hb6)
  replace ca := hide (ca.out.keep hb6)
  replace cb := hide (cb.out.keep hb6)
  replace cc := hide (cc.out.keep hb6)
  have caw600 := ca.out.1.1
  have caw601 := ca.out.1.2.1
  have caw602 := ca.out.1.2.2
  have cbw600 := cb.out.1.1
  have cbw601 := cb.out.1.2.1
  have cbw602 := cb.out.1.2.2
  have ccw600 := cc.out.1.1
  have ccw601 := cc.out.1.2.1
  have ccw602 := cc.out.1.2.2
  go_wp2_with fail
  go_ret
  exact ⟨rfl, B6.out⟩
set_option maxHeartbeats 4000000 in
set_option maxRecDepth 100000 in
theorem ord_m_may3 (a0 a1 : Int) (a2 : ByteArray) (b0 b1 : Int) (b2 : ByteArray) (c0 c1 : Int) (c2 : ByteArray) (y z : Int) (HG : CallT 7 #[] (.bool true)) (H1 : CallIs 15 #[vV a0 a1 a2, vV b0 b1 b2] (.int .i64 (-1))) (H2 : CallIs 15 #[vV b0 b1 b2, vV c0 c1 c2] (.int .i64 y)) (H3 : CallIs 15 #[vV a0 a1 a2, vV c0 c1 c2] (.int .i64 z)) (H4 : CallIs 15 #[vV b0 b1 b2, vV a0 a1 a2] (.int .i64 1)) (H5 : CallIs 15 #[vV a0 a1 a2, vV a0 a1 a2] (.int .i64 0)) (M0 : CallIs 10 #[vV a0 a1 a2] (.bool true)) (M1 : CallIs 10 #[vV b0 b1 b2] (.bool true)) (M2 : CallIs 10 #[vV c0 c1 c2] (.bool false)) : CallT 6 #[vV a0 a1 a2, vV b0 b1 b2, vV c0 c1 c2] (.bool true) := by
  intro w ht
  have HT := hide ht
  clear ht
  go_enter Tryd.func6, Tryd.ntmps6
  try simp only [List.append]
  go_wp2_with fail
  refine (HG.out _ (tab_below HT.out (step (step (step (Below.refl w.heap.size w) _) _) _))).mono ?_
  rintro e w1 ⟨rfl, hb1⟩
  have B1 := hide (next (step (step (step (Below.refl w.heap.size w) _) _) _) hb1)
  have ca := hide ((((O3.new w (.int .i64 a0) (.int .i64 a1) (.string a2) 26).alloc _).alloc _).keep hb1)
  have cb := hide (((O3.new (w.alloc (vO a0 a1 a2)) (.int .i64 b0) (.int .i64 b1) (.string b2) 26).alloc _).keep hb1)
  simp only [World.size_alloc] at cb
  have cc := hide ((O3.new ((w.alloc (vO a0 a1 a2)).alloc (vO b0 b1 b2)) (.int .i64 c0) (.int .i64 c1) (.string c2) 26).keep hb1)
  simp only [World.size_alloc] at cc
  have qca20 := cell_regrown ca.out.1.1
  have qca21 := cell_regrown ca.out.1.2.1
  have qca22 := cell_regrown ca.out.1.2.2
  have qcb20 := cell_regrown cb.out.1.1
  have qcb21 := cell_regrown cb.out.1.2.1
  have qcb22 := cell_regrown cb.out.1.2.2
  have qcc20 := cell_regrown cc.out.1.1
  have qcc21 := cell_regrown cc.out.1.2.1
  have qcc22 := cell_regrown cc.out.1.2.2
  have k20 := fun d' os => Calls.regrown_of (H1.out (grow (redrawn w1 d') os))
  have k21 := fun d' os => Calls.regrown_of (H2.out (grow (redrawn w1 d') os))
  have k22 := fun d' os => Calls.regrown_of (H3.out (grow (redrawn w1 d') os))
  go_wp2_with fail
  refine wp_region_quiet_below (by kernel_rfl) (by kernel_rfl) ?_
  repeat (go_big_quiet_step (first | (with_reducible exact k20 _ _) | (with_reducible exact k21 _ _) | (with_reducible exact k22 _ _)))
  refine wpQuiet_nil ?_
  intro w2 hw2
  have hb2 : Below (w1).heap.size w1 w2 := by obtain ⟨⟨dq, osq⟩, hq⟩ := hw2; rw [hq]; exact below_regrown _ dq osq
  clear hw2 qca20 qca21 qca22 qcb20 qcb21 qcb22 qcc20 qcc21 qcc22 k20 k21 k22
  have B2 := hide (next (B1.out) hb2)
  replace ca := hide (ca.out.keep hb2)
  replace cb := hide (cb.out.keep hb2)
  replace cc := hide (cc.out.keep hb2)
  have caw200 := ca.out.1.1
  have caw201 := ca.out.1.2.1
  have caw202 := ca.out.1.2.2
  have cbw200 := cb.out.1.1
  have cbw201 := cb.out.1.2.1
  have cbw202 := cb.out.1.2.2
  go_wp2_with fail
  refine (H4.out _).mono ?_
  rintro e w3 ⟨rfl, hb3⟩
  clear caw200
  clear caw201
  clear caw202
  clear cbw200
  clear cbw201
  clear cbw202
  have B3 := hide (next (B2.out) hb3)
  replace ca := hide (ca.out.keep hb3)
  replace cb := hide (cb.out.keep hb3)
  replace cc := hide (cc.out.keep hb3)
  have caw300 := ca.out.1.1
  have caw301 := ca.out.1.2.1
  have caw302 := ca.out.1.2.2
  go_wp2_with fail
  refine (H5.out _).mono ?_
  rintro e w4 ⟨rfl, hb4⟩
  clear caw300
  clear caw301
  clear caw302
  have B4 := hide (next (B3.out) hb4)
  replace ca := hide (ca.out.keep hb4)
  replace cb := hide (cb.out.keep hb4)
  replace cc := hide (cc.out.keep hb4)
  have caw400 := ca.out.1.1
  have caw401 := ca.out.1.2.1
  have caw402 := ca.out.1.2.2
  go_wp2_with fail
  refine (M0.out _).mono ?_
  rintro e w5 ⟨rfl, hb5⟩
  clear caw400
  clear caw401
  clear caw402
  have B5 := hide (next (B4.out) hb5)
  replace ca := hide (ca.out.keep hb5)
  replace cb := hide (cb.out.keep hb5)
  replace cc := hide (cc.out.keep hb5)
  have cbw500 := cb.out.1.1
  have cbw501 := cb.out.1.2.1
  have cbw502 := cb.out.1.2.2
  go_wp2_with fail
  refine (M1.out _).mono ?_
  rintro e w6 ⟨rfl, hb6⟩
  clear cbw500
  clear cbw501
  clear cbw502
  have B6 := hide (next (B5.out) hb6)
  replace ca := hide (ca.out.keep hb6)
  replace cb := hide (cb.out.keep hb6)
  replace cc := hide (cc.out.keep hb6)
  have ccw600 := cc.out.1.1
  have ccw601 := cc.out.1.2.1
  have ccw602 := cc.out.1.2.2
  go_wp2_with fail
  refine (M2.out _).mono ?_
  rintro e w7 ⟨rfl, hb7⟩
  clear ccw600
  clear ccw601
  clear ccw602
  have B7 := hide (next (B6.out) hb7)
  replace ca := hide (ca.out.keep hb7)
  replace cb := hide (cb.out.keep hb7)
  replace cc := hide (cc.out.keep hb7)
  have caw700 := ca.out.1.1
  have caw701 := ca.out.1.2.1
  have caw702 := ca.out.1.2.2
  have cbw700 := cb.out.1.1
  have cbw701 := cb.out.1.2.1
  have cbw702 := cb.out.1.2.2
  have ccw700 := cc.out.1.1
  have ccw701 := cc.out.1.2.1
  have ccw702 := cc.out.1.2.2
  go_wp2_with fail
  go_ret
  exact ⟨rfl, B7.out⟩
set_option maxHeartbeats 4000000 in
set_option maxRecDepth 100000 in
theorem ord_m_blank (b0 b1 : Int) (b2 : ByteArray) (c0 c1 : Int) (c2 : ByteArray) (y z : Int) (q4 : (b0 != 4) = true) (q0 : (b0 != 0) = true) (HG : CallT 7 #[] (.bool true)) (H1 : CallIs 15 #[vV 0 0 no, vV b0 b1 b2] (.int .i64 (-1))) (H2 : CallIs 15 #[vV b0 b1 b2, vV c0 c1 c2] (.int .i64 y)) (H3 : CallIs 15 #[vV 0 0 no, vV c0 c1 c2] (.int .i64 z)) (H4 : CallIs 15 #[vV b0 b1 b2, vV 0 0 no] (.int .i64 1)) (H5 : CallIs 15 #[vV 0 0 no, vV 0 0 no] (.int .i64 0)) (M0 : CallIs 10 #[vV 0 0 no] (.bool true)) (M1 : CallIs 10 #[vV b0 b1 b2] (.bool true)) (M2 : CallIs 10 #[vV c0 c1 c2] (.bool true)) (H6 : CallIs 15 #[vV b0 0 no, vV b0 b1 b2] (.int .i64 (-1))) : CallT 6 #[vV 0 0 no, vV b0 b1 b2, vV c0 c1 c2] (.bool true) := by
  intro w ht
  have HT := hide ht
  clear ht
  go_enter Tryd.func6, Tryd.ntmps6
  try simp only [List.append]
  go_wp2_with fail
  refine (HG.out _ (tab_below HT.out (step (step (step (Below.refl w.heap.size w) _) _) _))).mono ?_
  rintro e w1 ⟨rfl, hb1⟩
  have B1 := hide (next (step (step (step (Below.refl w.heap.size w) _) _) _) hb1)
  have ca := hide ((((O3.new w (.int .i64 0) (.int .i64 0) (.string no) 26).alloc _).alloc _).keep hb1)
  have cb := hide (((O3.new (w.alloc (vO 0 0 no)) (.int .i64 b0) (.int .i64 b1) (.string b2) 26).alloc _).keep hb1)
  simp only [World.size_alloc] at cb
  have cc := hide ((O3.new ((w.alloc (vO 0 0 no)).alloc (vO b0 b1 b2)) (.int .i64 c0) (.int .i64 c1) (.string c2) 26).keep hb1)
  simp only [World.size_alloc] at cc
  have qca20 := cell_regrown ca.out.1.1
  have qca21 := cell_regrown ca.out.1.2.1
  have qca22 := cell_regrown ca.out.1.2.2
  have qcb20 := cell_regrown cb.out.1.1
  have qcb21 := cell_regrown cb.out.1.2.1
  have qcb22 := cell_regrown cb.out.1.2.2
  have qcc20 := cell_regrown cc.out.1.1
  have qcc21 := cell_regrown cc.out.1.2.1
  have qcc22 := cell_regrown cc.out.1.2.2
  have k20 := fun d' os => Calls.regrown_of (H1.out (grow (redrawn w1 d') os))
  have k21 := fun d' os => Calls.regrown_of (H2.out (grow (redrawn w1 d') os))
  have k22 := fun d' os => Calls.regrown_of (H3.out (grow (redrawn w1 d') os))
  go_wp2_with fail
  refine wp_region_quiet_below (by kernel_rfl) (by kernel_rfl) ?_
  repeat (go_big_quiet_step (first | (with_reducible exact k20 _ _) | (with_reducible exact k21 _ _) | (with_reducible exact k22 _ _)))
  refine wpQuiet_nil ?_
  intro w2 hw2
  have hb2 : Below (w1).heap.size w1 w2 := by obtain ⟨⟨dq, osq⟩, hq⟩ := hw2; rw [hq]; exact below_regrown _ dq osq
  clear hw2 qca20 qca21 qca22 qcb20 qcb21 qcb22 qcc20 qcc21 qcc22 k20 k21 k22
  have B2 := hide (next (B1.out) hb2)
  replace ca := hide (ca.out.keep hb2)
  replace cb := hide (cb.out.keep hb2)
  replace cc := hide (cc.out.keep hb2)
  have caw200 := ca.out.1.1
  have caw201 := ca.out.1.2.1
  have caw202 := ca.out.1.2.2
  have cbw200 := cb.out.1.1
  have cbw201 := cb.out.1.2.1
  have cbw202 := cb.out.1.2.2
  go_wp2_with fail
  refine (H4.out _).mono ?_
  rintro e w3 ⟨rfl, hb3⟩
  clear caw200
  clear caw201
  clear caw202
  clear cbw200
  clear cbw201
  clear cbw202
  have B3 := hide (next (B2.out) hb3)
  replace ca := hide (ca.out.keep hb3)
  replace cb := hide (cb.out.keep hb3)
  replace cc := hide (cc.out.keep hb3)
  have caw300 := ca.out.1.1
  have caw301 := ca.out.1.2.1
  have caw302 := ca.out.1.2.2
  go_wp2_with fail
  refine (H5.out _).mono ?_
  rintro e w4 ⟨rfl, hb4⟩
  clear caw300
  clear caw301
  clear caw302
  have B4 := hide (next (B3.out) hb4)
  replace ca := hide (ca.out.keep hb4)
  replace cb := hide (cb.out.keep hb4)
  replace cc := hide (cc.out.keep hb4)
  have caw400 := ca.out.1.1
  have caw401 := ca.out.1.2.1
  have caw402 := ca.out.1.2.2
  go_wp2_with fail
  refine (M0.out _).mono ?_
  rintro e w5 ⟨rfl, hb5⟩
  clear caw400
  clear caw401
  clear caw402
  have B5 := hide (next (B4.out) hb5)
  replace ca := hide (ca.out.keep hb5)
  replace cb := hide (cb.out.keep hb5)
  replace cc := hide (cc.out.keep hb5)
  have cbw500 := cb.out.1.1
  have cbw501 := cb.out.1.2.1
  have cbw502 := cb.out.1.2.2
  go_wp2_with fail
  refine (M1.out _).mono ?_
  rintro e w6 ⟨rfl, hb6⟩
  clear cbw500
  clear cbw501
  clear cbw502
  have B6 := hide (next (B5.out) hb6)
  replace ca := hide (ca.out.keep hb6)
  replace cb := hide (cb.out.keep hb6)
  replace cc := hide (cc.out.keep hb6)
  have ccw600 := cc.out.1.1
  have ccw601 := cc.out.1.2.1
  have ccw602 := cc.out.1.2.2
  go_wp2_with fail
  refine (M2.out _).mono ?_
  rintro e w7 ⟨rfl, hb7⟩
  clear ccw600
  clear ccw601
  clear ccw602
  have B7 := hide (next (B6.out) hb7)
  replace ca := hide (ca.out.keep hb7)
  replace cb := hide (cb.out.keep hb7)
  replace cc := hide (cc.out.keep hb7)
  have caw700 := ca.out.1.1
  have caw701 := ca.out.1.2.1
  have caw702 := ca.out.1.2.2
  have cbw700 := cb.out.1.1
  have cbw701 := cb.out.1.2.1
  have cbw702 := cb.out.1.2.2
  have ccw700 := cc.out.1.1
  have ccw701 := cc.out.1.2.1
  have ccw702 := cc.out.1.2.2
  go_wp2_with fail
  refine (H6.out _).mono ?_
  rintro e w8 ⟨rfl, hb8⟩
  clear caw700
  clear caw701
  clear caw702
  clear cbw700
  clear cbw701
  clear cbw702
  clear ccw700
  clear ccw701
  clear ccw702
  have B8 := hide (next (B7.out) hb8)
  replace ca := hide (ca.out.keep hb8)
  replace cb := hide (cb.out.keep hb8)
  replace cc := hide (cc.out.keep hb8)
  go_wp2_with fail
  go_ret
  exact ⟨rfl, B8.out⟩
set_option maxHeartbeats 4000000 in
set_option maxRecDepth 100000 in
theorem ord_m_b0 (b1 : Int) (b2 : ByteArray) (c0 c1 : Int) (c2 : ByteArray) (y z : Int) (HG : CallT 7 #[] (.bool true)) (H1 : CallIs 15 #[vV 0 0 no, vV 0 b1 b2] (.int .i64 (-1))) (H2 : CallIs 15 #[vV 0 b1 b2, vV c0 c1 c2] (.int .i64 y)) (H3 : CallIs 15 #[vV 0 0 no, vV c0 c1 c2] (.int .i64 z)) (H4 : CallIs 15 #[vV 0 b1 b2, vV 0 0 no] (.int .i64 1)) (H5 : CallIs 15 #[vV 0 0 no, vV 0 0 no] (.int .i64 0)) (M0 : CallIs 10 #[vV 0 0 no] (.bool true)) (M1 : CallIs 10 #[vV 0 b1 b2] (.bool true)) (M2 : CallIs 10 #[vV c0 c1 c2] (.bool true)) : CallT 6 #[vV 0 0 no, vV 0 b1 b2, vV c0 c1 c2] (.bool true) := by
  intro w ht
  have HT := hide ht
  clear ht
  go_enter Tryd.func6, Tryd.ntmps6
  try simp only [List.append]
  go_wp2_with fail
  refine (HG.out _ (tab_below HT.out (step (step (step (Below.refl w.heap.size w) _) _) _))).mono ?_
  rintro e w1 ⟨rfl, hb1⟩
  have B1 := hide (next (step (step (step (Below.refl w.heap.size w) _) _) _) hb1)
  have ca := hide ((((O3.new w (.int .i64 0) (.int .i64 0) (.string no) 26).alloc _).alloc _).keep hb1)
  have cb := hide (((O3.new (w.alloc (vO 0 0 no)) (.int .i64 0) (.int .i64 b1) (.string b2) 26).alloc _).keep hb1)
  simp only [World.size_alloc] at cb
  have cc := hide ((O3.new ((w.alloc (vO 0 0 no)).alloc (vO 0 b1 b2)) (.int .i64 c0) (.int .i64 c1) (.string c2) 26).keep hb1)
  simp only [World.size_alloc] at cc
  have qca20 := cell_regrown ca.out.1.1
  have qca21 := cell_regrown ca.out.1.2.1
  have qca22 := cell_regrown ca.out.1.2.2
  have qcb20 := cell_regrown cb.out.1.1
  have qcb21 := cell_regrown cb.out.1.2.1
  have qcb22 := cell_regrown cb.out.1.2.2
  have qcc20 := cell_regrown cc.out.1.1
  have qcc21 := cell_regrown cc.out.1.2.1
  have qcc22 := cell_regrown cc.out.1.2.2
  have k20 := fun d' os => Calls.regrown_of (H1.out (grow (redrawn w1 d') os))
  have k21 := fun d' os => Calls.regrown_of (H2.out (grow (redrawn w1 d') os))
  have k22 := fun d' os => Calls.regrown_of (H3.out (grow (redrawn w1 d') os))
  go_wp2_with fail
  refine wp_region_quiet_below (by kernel_rfl) (by kernel_rfl) ?_
  repeat (go_big_quiet_step (first | (with_reducible exact k20 _ _) | (with_reducible exact k21 _ _) | (with_reducible exact k22 _ _)))
  refine wpQuiet_nil ?_
  intro w2 hw2
  have hb2 : Below (w1).heap.size w1 w2 := by obtain ⟨⟨dq, osq⟩, hq⟩ := hw2; rw [hq]; exact below_regrown _ dq osq
  clear hw2 qca20 qca21 qca22 qcb20 qcb21 qcb22 qcc20 qcc21 qcc22 k20 k21 k22
  have B2 := hide (next (B1.out) hb2)
  replace ca := hide (ca.out.keep hb2)
  replace cb := hide (cb.out.keep hb2)
  replace cc := hide (cc.out.keep hb2)
  have caw200 := ca.out.1.1
  have caw201 := ca.out.1.2.1
  have caw202 := ca.out.1.2.2
  have cbw200 := cb.out.1.1
  have cbw201 := cb.out.1.2.1
  have cbw202 := cb.out.1.2.2
  go_wp2_with fail
  refine (H4.out _).mono ?_
  rintro e w3 ⟨rfl, hb3⟩
  clear caw200
  clear caw201
  clear caw202
  clear cbw200
  clear cbw201
  clear cbw202
  have B3 := hide (next (B2.out) hb3)
  replace ca := hide (ca.out.keep hb3)
  replace cb := hide (cb.out.keep hb3)
  replace cc := hide (cc.out.keep hb3)
  have caw300 := ca.out.1.1
  have caw301 := ca.out.1.2.1
  have caw302 := ca.out.1.2.2
  go_wp2_with fail
  refine (H5.out _).mono ?_
  rintro e w4 ⟨rfl, hb4⟩
  clear caw300
  clear caw301
  clear caw302
  have B4 := hide (next (B3.out) hb4)
  replace ca := hide (ca.out.keep hb4)
  replace cb := hide (cb.out.keep hb4)
  replace cc := hide (cc.out.keep hb4)
  have caw400 := ca.out.1.1
  have caw401 := ca.out.1.2.1
  have caw402 := ca.out.1.2.2
  go_wp2_with fail
  refine (M0.out _).mono ?_
  rintro e w5 ⟨rfl, hb5⟩
  clear caw400
  clear caw401
  clear caw402
  have B5 := hide (next (B4.out) hb5)
  replace ca := hide (ca.out.keep hb5)
  replace cb := hide (cb.out.keep hb5)
  replace cc := hide (cc.out.keep hb5)
  have cbw500 := cb.out.1.1
  have cbw501 := cb.out.1.2.1
  have cbw502 := cb.out.1.2.2
  go_wp2_with fail
  refine (M1.out _).mono ?_
  rintro e w6 ⟨rfl, hb6⟩
  clear cbw500
  clear cbw501
  clear cbw502
  have B6 := hide (next (B5.out) hb6)
  replace ca := hide (ca.out.keep hb6)
  replace cb := hide (cb.out.keep hb6)
  replace cc := hide (cc.out.keep hb6)
  have ccw600 := cc.out.1.1
  have ccw601 := cc.out.1.2.1
  have ccw602 := cc.out.1.2.2
  go_wp2_with fail
  refine (M2.out _).mono ?_
  rintro e w7 ⟨rfl, hb7⟩
  clear ccw600
  clear ccw601
  clear ccw602
  have B7 := hide (next (B6.out) hb7)
  replace ca := hide (ca.out.keep hb7)
  replace cb := hide (cb.out.keep hb7)
  replace cc := hide (cc.out.keep hb7)
  have caw700 := ca.out.1.1
  have caw701 := ca.out.1.2.1
  have caw702 := ca.out.1.2.2
  have cbw700 := cb.out.1.1
  have cbw701 := cb.out.1.2.1
  have cbw702 := cb.out.1.2.2
  have ccw700 := cc.out.1.1
  have ccw701 := cc.out.1.2.1
  have ccw702 := cc.out.1.2.2
  go_wp2_with fail
  go_ret
  exact ⟨rfl, B7.out⟩
set_option maxHeartbeats 4000000 in
set_option maxRecDepth 100000 in
theorem ord_m_b4 (b1 : Int) (b2 : ByteArray) (c0 c1 : Int) (c2 : ByteArray) (y z : Int) (HG : CallT 7 #[] (.bool true)) (H1 : CallIs 15 #[vV 0 0 no, vV 4 b1 b2] (.int .i64 (-1))) (H2 : CallIs 15 #[vV 4 b1 b2, vV c0 c1 c2] (.int .i64 y)) (H3 : CallIs 15 #[vV 0 0 no, vV c0 c1 c2] (.int .i64 z)) (H4 : CallIs 15 #[vV 4 b1 b2, vV 0 0 no] (.int .i64 1)) (H5 : CallIs 15 #[vV 0 0 no, vV 0 0 no] (.int .i64 0)) (M0 : CallIs 10 #[vV 0 0 no] (.bool true)) (M1 : CallIs 10 #[vV 4 b1 b2] (.bool true)) (M2 : CallIs 10 #[vV c0 c1 c2] (.bool true)) : CallT 6 #[vV 0 0 no, vV 4 b1 b2, vV c0 c1 c2] (.bool true) := by
  intro w ht
  have HT := hide ht
  clear ht
  go_enter Tryd.func6, Tryd.ntmps6
  try simp only [List.append]
  go_wp2_with fail
  refine (HG.out _ (tab_below HT.out (step (step (step (Below.refl w.heap.size w) _) _) _))).mono ?_
  rintro e w1 ⟨rfl, hb1⟩
  have B1 := hide (next (step (step (step (Below.refl w.heap.size w) _) _) _) hb1)
  have ca := hide ((((O3.new w (.int .i64 0) (.int .i64 0) (.string no) 26).alloc _).alloc _).keep hb1)
  have cb := hide (((O3.new (w.alloc (vO 0 0 no)) (.int .i64 4) (.int .i64 b1) (.string b2) 26).alloc _).keep hb1)
  simp only [World.size_alloc] at cb
  have cc := hide ((O3.new ((w.alloc (vO 0 0 no)).alloc (vO 4 b1 b2)) (.int .i64 c0) (.int .i64 c1) (.string c2) 26).keep hb1)
  simp only [World.size_alloc] at cc
  have qca20 := cell_regrown ca.out.1.1
  have qca21 := cell_regrown ca.out.1.2.1
  have qca22 := cell_regrown ca.out.1.2.2
  have qcb20 := cell_regrown cb.out.1.1
  have qcb21 := cell_regrown cb.out.1.2.1
  have qcb22 := cell_regrown cb.out.1.2.2
  have qcc20 := cell_regrown cc.out.1.1
  have qcc21 := cell_regrown cc.out.1.2.1
  have qcc22 := cell_regrown cc.out.1.2.2
  have k20 := fun d' os => Calls.regrown_of (H1.out (grow (redrawn w1 d') os))
  have k21 := fun d' os => Calls.regrown_of (H2.out (grow (redrawn w1 d') os))
  have k22 := fun d' os => Calls.regrown_of (H3.out (grow (redrawn w1 d') os))
  go_wp2_with fail
  refine wp_region_quiet_below (by kernel_rfl) (by kernel_rfl) ?_
  repeat (go_big_quiet_step (first | (with_reducible exact k20 _ _) | (with_reducible exact k21 _ _) | (with_reducible exact k22 _ _)))
  refine wpQuiet_nil ?_
  intro w2 hw2
  have hb2 : Below (w1).heap.size w1 w2 := by obtain ⟨⟨dq, osq⟩, hq⟩ := hw2; rw [hq]; exact below_regrown _ dq osq
  clear hw2 qca20 qca21 qca22 qcb20 qcb21 qcb22 qcc20 qcc21 qcc22 k20 k21 k22
  have B2 := hide (next (B1.out) hb2)
  replace ca := hide (ca.out.keep hb2)
  replace cb := hide (cb.out.keep hb2)
  replace cc := hide (cc.out.keep hb2)
  have caw200 := ca.out.1.1
  have caw201 := ca.out.1.2.1
  have caw202 := ca.out.1.2.2
  have cbw200 := cb.out.1.1
  have cbw201 := cb.out.1.2.1
  have cbw202 := cb.out.1.2.2
  go_wp2_with fail
  refine (H4.out _).mono ?_
  rintro e w3 ⟨rfl, hb3⟩
  clear caw200
  clear caw201
  clear caw202
  clear cbw200
  clear cbw201
  clear cbw202
  have B3 := hide (next (B2.out) hb3)
  replace ca := hide (ca.out.keep hb3)
  replace cb := hide (cb.out.keep hb3)
  replace cc := hide (cc.out.keep hb3)
  have caw300 := ca.out.1.1
  have caw301 := ca.out.1.2.1
  have caw302 := ca.out.1.2.2
  go_wp2_with fail
  refine (H5.out _).mono ?_
  rintro e w4 ⟨rfl, hb4⟩
  clear caw300
  clear caw301
  clear caw302
  have B4 := hide (next (B3.out) hb4)
  replace ca := hide (ca.out.keep hb4)
  replace cb := hide (cb.out.keep hb4)
  replace cc := hide (cc.out.keep hb4)
  have caw400 := ca.out.1.1
  have caw401 := ca.out.1.2.1
  have caw402 := ca.out.1.2.2
  go_wp2_with fail
  refine (M0.out _).mono ?_
  rintro e w5 ⟨rfl, hb5⟩
  clear caw400
  clear caw401
  clear caw402
  have B5 := hide (next (B4.out) hb5)
  replace ca := hide (ca.out.keep hb5)
  replace cb := hide (cb.out.keep hb5)
  replace cc := hide (cc.out.keep hb5)
  have cbw500 := cb.out.1.1
  have cbw501 := cb.out.1.2.1
  have cbw502 := cb.out.1.2.2
  go_wp2_with fail
  refine (M1.out _).mono ?_
  rintro e w6 ⟨rfl, hb6⟩
  clear cbw500
  clear cbw501
  clear cbw502
  have B6 := hide (next (B5.out) hb6)
  replace ca := hide (ca.out.keep hb6)
  replace cb := hide (cb.out.keep hb6)
  replace cc := hide (cc.out.keep hb6)
  have ccw600 := cc.out.1.1
  have ccw601 := cc.out.1.2.1
  have ccw602 := cc.out.1.2.2
  go_wp2_with fail
  refine (M2.out _).mono ?_
  rintro e w7 ⟨rfl, hb7⟩
  clear ccw600
  clear ccw601
  clear ccw602
  have B7 := hide (next (B6.out) hb7)
  replace ca := hide (ca.out.keep hb7)
  replace cb := hide (cb.out.keep hb7)
  replace cc := hide (cc.out.keep hb7)
  have caw700 := ca.out.1.1
  have caw701 := ca.out.1.2.1
  have caw702 := ca.out.1.2.2
  have cbw700 := cb.out.1.1
  have cbw701 := cb.out.1.2.1
  have cbw702 := cb.out.1.2.2
  have ccw700 := cc.out.1.1
  have ccw701 := cc.out.1.2.1
  have ccw702 := cc.out.1.2.2
  go_wp2_with fail
  go_ret
  exact ⟨rfl, B7.out⟩
set_option maxHeartbeats 4000000 in
set_option maxRecDepth 100000 in
theorem ord_m_ab (a0 a1 : Int) (a2 : ByteArray) (b1 : Int) (b2 : ByteArray) (c0 c1 : Int) (c2 : ByteArray) (y z : Int) (qa0 : (a0 == 0) = false) (HG : CallT 7 #[] (.bool true)) (H1 : CallIs 15 #[vV a0 a1 a2, vV 0 b1 b2] (.int .i64 (-1))) (H2 : CallIs 15 #[vV 0 b1 b2, vV c0 c1 c2] (.int .i64 y)) (H3 : CallIs 15 #[vV a0 a1 a2, vV c0 c1 c2] (.int .i64 z)) (H4 : CallIs 15 #[vV 0 b1 b2, vV a0 a1 a2] (.int .i64 1)) (H5 : CallIs 15 #[vV a0 a1 a2, vV a0 a1 a2] (.int .i64 0)) (M0 : CallIs 10 #[vV a0 a1 a2] (.bool true)) (M1 : CallIs 10 #[vV 0 b1 b2] (.bool true)) (M2 : CallIs 10 #[vV c0 c1 c2] (.bool true)) : CallT 6 #[vV a0 a1 a2, vV 0 b1 b2, vV c0 c1 c2] (.bool true) := by
  intro w ht
  have HT := hide ht
  clear ht
  go_enter Tryd.func6, Tryd.ntmps6
  try simp only [List.append]
  go_wp2_with fail
  refine (HG.out _ (tab_below HT.out (step (step (step (Below.refl w.heap.size w) _) _) _))).mono ?_
  rintro e w1 ⟨rfl, hb1⟩
  have B1 := hide (next (step (step (step (Below.refl w.heap.size w) _) _) _) hb1)
  have ca := hide ((((O3.new w (.int .i64 a0) (.int .i64 a1) (.string a2) 26).alloc _).alloc _).keep hb1)
  have cb := hide (((O3.new (w.alloc (vO a0 a1 a2)) (.int .i64 0) (.int .i64 b1) (.string b2) 26).alloc _).keep hb1)
  simp only [World.size_alloc] at cb
  have cc := hide ((O3.new ((w.alloc (vO a0 a1 a2)).alloc (vO 0 b1 b2)) (.int .i64 c0) (.int .i64 c1) (.string c2) 26).keep hb1)
  simp only [World.size_alloc] at cc
  have qca20 := cell_regrown ca.out.1.1
  have qca21 := cell_regrown ca.out.1.2.1
  have qca22 := cell_regrown ca.out.1.2.2
  have qcb20 := cell_regrown cb.out.1.1
  have qcb21 := cell_regrown cb.out.1.2.1
  have qcb22 := cell_regrown cb.out.1.2.2
  have qcc20 := cell_regrown cc.out.1.1
  have qcc21 := cell_regrown cc.out.1.2.1
  have qcc22 := cell_regrown cc.out.1.2.2
  have k20 := fun d' os => Calls.regrown_of (H1.out (grow (redrawn w1 d') os))
  have k21 := fun d' os => Calls.regrown_of (H2.out (grow (redrawn w1 d') os))
  have k22 := fun d' os => Calls.regrown_of (H3.out (grow (redrawn w1 d') os))
  go_wp2_with fail
  refine wp_region_quiet_below (by kernel_rfl) (by kernel_rfl) ?_
  repeat (go_big_quiet_step (first | (with_reducible exact k20 _ _) | (with_reducible exact k21 _ _) | (with_reducible exact k22 _ _)))
  refine wpQuiet_nil ?_
  intro w2 hw2
  have hb2 : Below (w1).heap.size w1 w2 := by obtain ⟨⟨dq, osq⟩, hq⟩ := hw2; rw [hq]; exact below_regrown _ dq osq
  clear hw2 qca20 qca21 qca22 qcb20 qcb21 qcb22 qcc20 qcc21 qcc22 k20 k21 k22
  have B2 := hide (next (B1.out) hb2)
  replace ca := hide (ca.out.keep hb2)
  replace cb := hide (cb.out.keep hb2)
  replace cc := hide (cc.out.keep hb2)
  have caw200 := ca.out.1.1
  have caw201 := ca.out.1.2.1
  have caw202 := ca.out.1.2.2
  have cbw200 := cb.out.1.1
  have cbw201 := cb.out.1.2.1
  have cbw202 := cb.out.1.2.2
  go_wp2_with fail
  refine (H4.out _).mono ?_
  rintro e w3 ⟨rfl, hb3⟩
  clear caw200
  clear caw201
  clear caw202
  clear cbw200
  clear cbw201
  clear cbw202
  have B3 := hide (next (B2.out) hb3)
  replace ca := hide (ca.out.keep hb3)
  replace cb := hide (cb.out.keep hb3)
  replace cc := hide (cc.out.keep hb3)
  have caw300 := ca.out.1.1
  have caw301 := ca.out.1.2.1
  have caw302 := ca.out.1.2.2
  go_wp2_with fail
  refine (H5.out _).mono ?_
  rintro e w4 ⟨rfl, hb4⟩
  clear caw300
  clear caw301
  clear caw302
  have B4 := hide (next (B3.out) hb4)
  replace ca := hide (ca.out.keep hb4)
  replace cb := hide (cb.out.keep hb4)
  replace cc := hide (cc.out.keep hb4)
  have caw400 := ca.out.1.1
  have caw401 := ca.out.1.2.1
  have caw402 := ca.out.1.2.2
  go_wp2_with fail
  refine (M0.out _).mono ?_
  rintro e w5 ⟨rfl, hb5⟩
  clear caw400
  clear caw401
  clear caw402
  have B5 := hide (next (B4.out) hb5)
  replace ca := hide (ca.out.keep hb5)
  replace cb := hide (cb.out.keep hb5)
  replace cc := hide (cc.out.keep hb5)
  have cbw500 := cb.out.1.1
  have cbw501 := cb.out.1.2.1
  have cbw502 := cb.out.1.2.2
  go_wp2_with fail
  refine (M1.out _).mono ?_
  rintro e w6 ⟨rfl, hb6⟩
  clear cbw500
  clear cbw501
  clear cbw502
  have B6 := hide (next (B5.out) hb6)
  replace ca := hide (ca.out.keep hb6)
  replace cb := hide (cb.out.keep hb6)
  replace cc := hide (cc.out.keep hb6)
  have ccw600 := cc.out.1.1
  have ccw601 := cc.out.1.2.1
  have ccw602 := cc.out.1.2.2
  go_wp2_with fail
  refine (M2.out _).mono ?_
  rintro e w7 ⟨rfl, hb7⟩
  clear ccw600
  clear ccw601
  clear ccw602
  have B7 := hide (next (B6.out) hb7)
  replace ca := hide (ca.out.keep hb7)
  replace cb := hide (cb.out.keep hb7)
  replace cc := hide (cc.out.keep hb7)
  have caw700 := ca.out.1.1
  have caw701 := ca.out.1.2.1
  have caw702 := ca.out.1.2.2
  have cbw700 := cb.out.1.1
  have cbw701 := cb.out.1.2.1
  have cbw702 := cb.out.1.2.2
  have ccw700 := cc.out.1.1
  have ccw701 := cc.out.1.2.1
  have ccw702 := cc.out.1.2.2
  go_wp2_with fail
  go_ret
  exact ⟨rfl, B7.out⟩
set_option maxHeartbeats 4000000 in
set_option maxRecDepth 100000 in
theorem ord_m_abc (a0 a1 : Int) (a2 : ByteArray) (b0 b1 : Int) (b2 : ByteArray) (c1 : Int) (c2 : ByteArray) (y z : Int) (qa0 : (a0 == 0) = false) (qb0 : (b0 == 0) = false) (HG : CallT 7 #[] (.bool true)) (H1 : CallIs 15 #[vV a0 a1 a2, vV b0 b1 b2] (.int .i64 (-1))) (H2 : CallIs 15 #[vV b0 b1 b2, vV 0 c1 c2] (.int .i64 y)) (H3 : CallIs 15 #[vV a0 a1 a2, vV 0 c1 c2] (.int .i64 z)) (H4 : CallIs 15 #[vV b0 b1 b2, vV a0 a1 a2] (.int .i64 1)) (H5 : CallIs 15 #[vV a0 a1 a2, vV a0 a1 a2] (.int .i64 0)) (M0 : CallIs 10 #[vV a0 a1 a2] (.bool true)) (M1 : CallIs 10 #[vV b0 b1 b2] (.bool true)) (M2 : CallIs 10 #[vV 0 c1 c2] (.bool true)) : CallT 6 #[vV a0 a1 a2, vV b0 b1 b2, vV 0 c1 c2] (.bool true) := by
  intro w ht
  have HT := hide ht
  clear ht
  go_enter Tryd.func6, Tryd.ntmps6
  try simp only [List.append]
  go_wp2_with fail
  refine (HG.out _ (tab_below HT.out (step (step (step (Below.refl w.heap.size w) _) _) _))).mono ?_
  rintro e w1 ⟨rfl, hb1⟩
  have B1 := hide (next (step (step (step (Below.refl w.heap.size w) _) _) _) hb1)
  have ca := hide ((((O3.new w (.int .i64 a0) (.int .i64 a1) (.string a2) 26).alloc _).alloc _).keep hb1)
  have cb := hide (((O3.new (w.alloc (vO a0 a1 a2)) (.int .i64 b0) (.int .i64 b1) (.string b2) 26).alloc _).keep hb1)
  simp only [World.size_alloc] at cb
  have cc := hide ((O3.new ((w.alloc (vO a0 a1 a2)).alloc (vO b0 b1 b2)) (.int .i64 0) (.int .i64 c1) (.string c2) 26).keep hb1)
  simp only [World.size_alloc] at cc
  have qca20 := cell_regrown ca.out.1.1
  have qca21 := cell_regrown ca.out.1.2.1
  have qca22 := cell_regrown ca.out.1.2.2
  have qcb20 := cell_regrown cb.out.1.1
  have qcb21 := cell_regrown cb.out.1.2.1
  have qcb22 := cell_regrown cb.out.1.2.2
  have qcc20 := cell_regrown cc.out.1.1
  have qcc21 := cell_regrown cc.out.1.2.1
  have qcc22 := cell_regrown cc.out.1.2.2
  have k20 := fun d' os => Calls.regrown_of (H1.out (grow (redrawn w1 d') os))
  have k21 := fun d' os => Calls.regrown_of (H2.out (grow (redrawn w1 d') os))
  have k22 := fun d' os => Calls.regrown_of (H3.out (grow (redrawn w1 d') os))
  go_wp2_with fail
  refine wp_region_quiet_below (by kernel_rfl) (by kernel_rfl) ?_
  repeat (go_big_quiet_step (first | (with_reducible exact k20 _ _) | (with_reducible exact k21 _ _) | (with_reducible exact k22 _ _)))
  refine wpQuiet_nil ?_
  intro w2 hw2
  have hb2 : Below (w1).heap.size w1 w2 := by obtain ⟨⟨dq, osq⟩, hq⟩ := hw2; rw [hq]; exact below_regrown _ dq osq
  clear hw2 qca20 qca21 qca22 qcb20 qcb21 qcb22 qcc20 qcc21 qcc22 k20 k21 k22
  have B2 := hide (next (B1.out) hb2)
  replace ca := hide (ca.out.keep hb2)
  replace cb := hide (cb.out.keep hb2)
  replace cc := hide (cc.out.keep hb2)
  have caw200 := ca.out.1.1
  have caw201 := ca.out.1.2.1
  have caw202 := ca.out.1.2.2
  have cbw200 := cb.out.1.1
  have cbw201 := cb.out.1.2.1
  have cbw202 := cb.out.1.2.2
  go_wp2_with fail
  refine (H4.out _).mono ?_
  rintro e w3 ⟨rfl, hb3⟩
  clear caw200
  clear caw201
  clear caw202
  clear cbw200
  clear cbw201
  clear cbw202
  have B3 := hide (next (B2.out) hb3)
  replace ca := hide (ca.out.keep hb3)
  replace cb := hide (cb.out.keep hb3)
  replace cc := hide (cc.out.keep hb3)
  have caw300 := ca.out.1.1
  have caw301 := ca.out.1.2.1
  have caw302 := ca.out.1.2.2
  go_wp2_with fail
  refine (H5.out _).mono ?_
  rintro e w4 ⟨rfl, hb4⟩
  clear caw300
  clear caw301
  clear caw302
  have B4 := hide (next (B3.out) hb4)
  replace ca := hide (ca.out.keep hb4)
  replace cb := hide (cb.out.keep hb4)
  replace cc := hide (cc.out.keep hb4)
  have caw400 := ca.out.1.1
  have caw401 := ca.out.1.2.1
  have caw402 := ca.out.1.2.2
  go_wp2_with fail
  refine (M0.out _).mono ?_
  rintro e w5 ⟨rfl, hb5⟩
  clear caw400
  clear caw401
  clear caw402
  have B5 := hide (next (B4.out) hb5)
  replace ca := hide (ca.out.keep hb5)
  replace cb := hide (cb.out.keep hb5)
  replace cc := hide (cc.out.keep hb5)
  have cbw500 := cb.out.1.1
  have cbw501 := cb.out.1.2.1
  have cbw502 := cb.out.1.2.2
  go_wp2_with fail
  refine (M1.out _).mono ?_
  rintro e w6 ⟨rfl, hb6⟩
  clear cbw500
  clear cbw501
  clear cbw502
  have B6 := hide (next (B5.out) hb6)
  replace ca := hide (ca.out.keep hb6)
  replace cb := hide (cb.out.keep hb6)
  replace cc := hide (cc.out.keep hb6)
  have ccw600 := cc.out.1.1
  have ccw601 := cc.out.1.2.1
  have ccw602 := cc.out.1.2.2
  go_wp2_with fail
  refine (M2.out _).mono ?_
  rintro e w7 ⟨rfl, hb7⟩
  clear ccw600
  clear ccw601
  clear ccw602
  have B7 := hide (next (B6.out) hb7)
  replace ca := hide (ca.out.keep hb7)
  replace cb := hide (cb.out.keep hb7)
  replace cc := hide (cc.out.keep hb7)
  have caw700 := ca.out.1.1
  have caw701 := ca.out.1.2.1
  have caw702 := ca.out.1.2.2
  have cbw700 := cb.out.1.1
  have cbw701 := cb.out.1.2.1
  have cbw702 := cb.out.1.2.2
  have ccw700 := cc.out.1.1
  have ccw701 := cc.out.1.2.1
  have ccw702 := cc.out.1.2.2
  go_wp2_with fail
  go_ret
  exact ⟨rfl, B7.out⟩
set_option maxHeartbeats 4000000 in
set_option maxRecDepth 100000 in
theorem ord_m_km (a0 a1 : Int) (a2 : ByteArray) (b0 b1 : Int) (b2 : ByteArray) (d : (a0 == b0) = false) (qb0 : (b0 == 0) = false) (c0 c1 : Int) (c2 : ByteArray) (qa0 : (a0 == 0) = false) (qc0 : (c0 == 0) = false) (HG : CallT 7 #[] (.bool true)) (H1 : CallIs 15 #[vV a0 a1 a2, vV b0 b1 b2] (.int .i64 (-1))) (H2 : CallIs 15 #[vV b0 b1 b2, vV c0 c1 c2] (.int .i64 (-1))) (H3 : CallIs 15 #[vV a0 a1 a2, vV c0 c1 c2] (.int .i64 (-1))) (H4 : CallIs 15 #[vV b0 b1 b2, vV a0 a1 a2] (.int .i64 1)) (H5 : CallIs 15 #[vV a0 a1 a2, vV a0 a1 a2] (.int .i64 0)) (M0 : CallIs 10 #[vV a0 a1 a2] (.bool true)) (M1 : CallIs 10 #[vV b0 b1 b2] (.bool true)) (M2 : CallIs 10 #[vV c0 c1 c2] (.bool true)) (HS : CallIs 16 #[vV a0 a1 a2, vV b0 b1 b2] (.bool false)) : CallT 6 #[vV a0 a1 a2, vV b0 b1 b2, vV c0 c1 c2] (.bool true) := by
  intro w ht
  have HT := hide ht
  clear ht
  go_enter Tryd.func6, Tryd.ntmps6
  try simp only [List.append]
  go_wp2_with fail
  refine (HG.out _ (tab_below HT.out (step (step (step (Below.refl w.heap.size w) _) _) _))).mono ?_
  rintro e w1 ⟨rfl, hb1⟩
  have B1 := hide (next (step (step (step (Below.refl w.heap.size w) _) _) _) hb1)
  have ca := hide ((((O3.new w (.int .i64 a0) (.int .i64 a1) (.string a2) 26).alloc _).alloc _).keep hb1)
  have cb := hide (((O3.new (w.alloc (vO a0 a1 a2)) (.int .i64 b0) (.int .i64 b1) (.string b2) 26).alloc _).keep hb1)
  simp only [World.size_alloc] at cb
  have cc := hide ((O3.new ((w.alloc (vO a0 a1 a2)).alloc (vO b0 b1 b2)) (.int .i64 c0) (.int .i64 c1) (.string c2) 26).keep hb1)
  simp only [World.size_alloc] at cc
  have qca20 := cell_regrown ca.out.1.1
  have qca21 := cell_regrown ca.out.1.2.1
  have qca22 := cell_regrown ca.out.1.2.2
  have qcb20 := cell_regrown cb.out.1.1
  have qcb21 := cell_regrown cb.out.1.2.1
  have qcb22 := cell_regrown cb.out.1.2.2
  have qcc20 := cell_regrown cc.out.1.1
  have qcc21 := cell_regrown cc.out.1.2.1
  have qcc22 := cell_regrown cc.out.1.2.2
  have k20 := fun d' os => Calls.regrown_of (H1.out (grow (redrawn w1 d') os))
  have k21 := fun d' os => Calls.regrown_of (H2.out (grow (redrawn w1 d') os))
  have k22 := fun d' os => Calls.regrown_of (H3.out (grow (redrawn w1 d') os))
  go_wp2_with fail
  refine wp_region_quiet_below (by kernel_rfl) (by kernel_rfl) ?_
  repeat (go_big_quiet_step (first | (with_reducible exact k20 _ _) | (with_reducible exact k21 _ _) | (with_reducible exact k22 _ _)))
  refine wpQuiet_nil ?_
  intro w2 hw2
  have hb2 : Below (w1).heap.size w1 w2 := by obtain ⟨⟨dq, osq⟩, hq⟩ := hw2; rw [hq]; exact below_regrown _ dq osq
  clear hw2 qca20 qca21 qca22 qcb20 qcb21 qcb22 qcc20 qcc21 qcc22 k20 k21 k22
  have B2 := hide (next (B1.out) hb2)
  replace ca := hide (ca.out.keep hb2)
  replace cb := hide (cb.out.keep hb2)
  replace cc := hide (cc.out.keep hb2)
  have caw200 := ca.out.1.1
  have caw201 := ca.out.1.2.1
  have caw202 := ca.out.1.2.2
  have cbw200 := cb.out.1.1
  have cbw201 := cb.out.1.2.1
  have cbw202 := cb.out.1.2.2
  go_wp2_with fail
  refine (H4.out _).mono ?_
  rintro e w3 ⟨rfl, hb3⟩
  clear caw200
  clear caw201
  clear caw202
  clear cbw200
  clear cbw201
  clear cbw202
  have B3 := hide (next (B2.out) hb3)
  replace ca := hide (ca.out.keep hb3)
  replace cb := hide (cb.out.keep hb3)
  replace cc := hide (cc.out.keep hb3)
  have caw300 := ca.out.1.1
  have caw301 := ca.out.1.2.1
  have caw302 := ca.out.1.2.2
  go_wp2_with fail
  refine (H5.out _).mono ?_
  rintro e w4 ⟨rfl, hb4⟩
  clear caw300
  clear caw301
  clear caw302
  have B4 := hide (next (B3.out) hb4)
  replace ca := hide (ca.out.keep hb4)
  replace cb := hide (cb.out.keep hb4)
  replace cc := hide (cc.out.keep hb4)
  have caw400 := ca.out.1.1
  have caw401 := ca.out.1.2.1
  have caw402 := ca.out.1.2.2
  go_wp2_with fail
  refine (M0.out _).mono ?_
  rintro e w5 ⟨rfl, hb5⟩
  clear caw400
  clear caw401
  clear caw402
  have B5 := hide (next (B4.out) hb5)
  replace ca := hide (ca.out.keep hb5)
  replace cb := hide (cb.out.keep hb5)
  replace cc := hide (cc.out.keep hb5)
  have cbw500 := cb.out.1.1
  have cbw501 := cb.out.1.2.1
  have cbw502 := cb.out.1.2.2
  go_wp2_with fail
  refine (M1.out _).mono ?_
  rintro e w6 ⟨rfl, hb6⟩
  clear cbw500
  clear cbw501
  clear cbw502
  have B6 := hide (next (B5.out) hb6)
  replace ca := hide (ca.out.keep hb6)
  replace cb := hide (cb.out.keep hb6)
  replace cc := hide (cc.out.keep hb6)
  have ccw600 := cc.out.1.1
  have ccw601 := cc.out.1.2.1
  have ccw602 := cc.out.1.2.2
  go_wp2_with fail
  refine (M2.out _).mono ?_
  rintro e w7 ⟨rfl, hb7⟩
  clear ccw600
  clear ccw601
  clear ccw602
  have B7 := hide (next (B6.out) hb7)
  replace ca := hide (ca.out.keep hb7)
  replace cb := hide (cb.out.keep hb7)
  replace cc := hide (cc.out.keep hb7)
  have caw700 := ca.out.1.1
  have caw701 := ca.out.1.2.1
  have caw702 := ca.out.1.2.2
  have cbw700 := cb.out.1.1
  have cbw701 := cb.out.1.2.1
  have cbw702 := cb.out.1.2.2
  have ccw700 := cc.out.1.1
  have ccw701 := cc.out.1.2.1
  have ccw702 := cc.out.1.2.2
  have qca80 := cell_regrown ca.out.1.1
  have qca81 := cell_regrown ca.out.1.2.1
  have qca82 := cell_regrown ca.out.1.2.2
  have qcb80 := cell_regrown cb.out.1.1
  have qcb81 := cell_regrown cb.out.1.2.1
  have qcb82 := cell_regrown cb.out.1.2.2
  have k80 := fun d' os => Calls.regrown_of (HS.out (grow (redrawn w7 d') os))
  go_wp2_with fail
  refine wp_region_quiet_below (by kernel_rfl) (by kernel_rfl) ?_
  repeat (go_big_quiet_step (first | (with_reducible exact k80 _ _)))
  refine wpQuiet_nil ?_
  intro w8 hw8
  have hb8 : Below (w7).heap.size w7 w8 := by obtain ⟨⟨dq, osq⟩, hq⟩ := hw8; rw [hq]; exact below_regrown _ dq osq
  clear hw8 qca80 qca81 qca82 qcb80 qcb81 qcb82 k80
  clear caw700
  clear caw701
  clear caw702
  clear cbw700
  clear cbw701
  clear cbw702
  clear ccw700
  clear ccw701
  clear ccw702
  have B8 := hide (next (B7.out) hb8)
  replace ca := hide (ca.out.keep hb8)
  replace cb := hide (cb.out.keep hb8)
  replace cc := hide (cc.out.keep hb8)
  go_wp2_with fail
  go_ret
  exact ⟨rfl, B8.out⟩
set_option maxHeartbeats 4000000 in
set_option maxRecDepth 100000 in
theorem ord_m_kz (a0 a1 : Int) (a2 : ByteArray) (b0 b1 : Int) (b2 : ByteArray) (d : (a0 == b0) = false) (qb0 : (b0 == 0) = false) (c0 c1 : Int) (c2 : ByteArray) (qa0 : (a0 == 0) = false) (qc0 : (c0 == 0) = false) (HG : CallT 7 #[] (.bool true)) (H1 : CallIs 15 #[vV a0 a1 a2, vV b0 b1 b2] (.int .i64 (-1))) (H2 : CallIs 15 #[vV b0 b1 b2, vV c0 c1 c2] (.int .i64 0)) (H3 : CallIs 15 #[vV a0 a1 a2, vV c0 c1 c2] (.int .i64 (-1))) (H4 : CallIs 15 #[vV b0 b1 b2, vV a0 a1 a2] (.int .i64 1)) (H5 : CallIs 15 #[vV a0 a1 a2, vV a0 a1 a2] (.int .i64 0)) (M0 : CallIs 10 #[vV a0 a1 a2] (.bool true)) (M1 : CallIs 10 #[vV b0 b1 b2] (.bool true)) (M2 : CallIs 10 #[vV c0 c1 c2] (.bool true)) (HS : CallIs 16 #[vV a0 a1 a2, vV b0 b1 b2] (.bool false)) : CallT 6 #[vV a0 a1 a2, vV b0 b1 b2, vV c0 c1 c2] (.bool true) := by
  intro w ht
  have HT := hide ht
  clear ht
  go_enter Tryd.func6, Tryd.ntmps6
  try simp only [List.append]
  go_wp2_with fail
  refine (HG.out _ (tab_below HT.out (step (step (step (Below.refl w.heap.size w) _) _) _))).mono ?_
  rintro e w1 ⟨rfl, hb1⟩
  have B1 := hide (next (step (step (step (Below.refl w.heap.size w) _) _) _) hb1)
  have ca := hide ((((O3.new w (.int .i64 a0) (.int .i64 a1) (.string a2) 26).alloc _).alloc _).keep hb1)
  have cb := hide (((O3.new (w.alloc (vO a0 a1 a2)) (.int .i64 b0) (.int .i64 b1) (.string b2) 26).alloc _).keep hb1)
  simp only [World.size_alloc] at cb
  have cc := hide ((O3.new ((w.alloc (vO a0 a1 a2)).alloc (vO b0 b1 b2)) (.int .i64 c0) (.int .i64 c1) (.string c2) 26).keep hb1)
  simp only [World.size_alloc] at cc
  have qca20 := cell_regrown ca.out.1.1
  have qca21 := cell_regrown ca.out.1.2.1
  have qca22 := cell_regrown ca.out.1.2.2
  have qcb20 := cell_regrown cb.out.1.1
  have qcb21 := cell_regrown cb.out.1.2.1
  have qcb22 := cell_regrown cb.out.1.2.2
  have qcc20 := cell_regrown cc.out.1.1
  have qcc21 := cell_regrown cc.out.1.2.1
  have qcc22 := cell_regrown cc.out.1.2.2
  have k20 := fun d' os => Calls.regrown_of (H1.out (grow (redrawn w1 d') os))
  have k21 := fun d' os => Calls.regrown_of (H2.out (grow (redrawn w1 d') os))
  have k22 := fun d' os => Calls.regrown_of (H3.out (grow (redrawn w1 d') os))
  go_wp2_with fail
  refine wp_region_quiet_below (by kernel_rfl) (by kernel_rfl) ?_
  repeat (go_big_quiet_step (first | (with_reducible exact k20 _ _) | (with_reducible exact k21 _ _) | (with_reducible exact k22 _ _)))
  refine wpQuiet_nil ?_
  intro w2 hw2
  have hb2 : Below (w1).heap.size w1 w2 := by obtain ⟨⟨dq, osq⟩, hq⟩ := hw2; rw [hq]; exact below_regrown _ dq osq
  clear hw2 qca20 qca21 qca22 qcb20 qcb21 qcb22 qcc20 qcc21 qcc22 k20 k21 k22
  have B2 := hide (next (B1.out) hb2)
  replace ca := hide (ca.out.keep hb2)
  replace cb := hide (cb.out.keep hb2)
  replace cc := hide (cc.out.keep hb2)
  have caw200 := ca.out.1.1
  have caw201 := ca.out.1.2.1
  have caw202 := ca.out.1.2.2
  have cbw200 := cb.out.1.1
  have cbw201 := cb.out.1.2.1
  have cbw202 := cb.out.1.2.2
  go_wp2_with fail
  refine (H4.out _).mono ?_
  rintro e w3 ⟨rfl, hb3⟩
  clear caw200
  clear caw201
  clear caw202
  clear cbw200
  clear cbw201
  clear cbw202
  have B3 := hide (next (B2.out) hb3)
  replace ca := hide (ca.out.keep hb3)
  replace cb := hide (cb.out.keep hb3)
  replace cc := hide (cc.out.keep hb3)
  have caw300 := ca.out.1.1
  have caw301 := ca.out.1.2.1
  have caw302 := ca.out.1.2.2
  go_wp2_with fail
  refine (H5.out _).mono ?_
  rintro e w4 ⟨rfl, hb4⟩
  clear caw300
  clear caw301
  clear caw302
  have B4 := hide (next (B3.out) hb4)
  replace ca := hide (ca.out.keep hb4)
  replace cb := hide (cb.out.keep hb4)
  replace cc := hide (cc.out.keep hb4)
  have caw400 := ca.out.1.1
  have caw401 := ca.out.1.2.1
  have caw402 := ca.out.1.2.2
  go_wp2_with fail
  refine (M0.out _).mono ?_
  rintro e w5 ⟨rfl, hb5⟩
  clear caw400
  clear caw401
  clear caw402
  have B5 := hide (next (B4.out) hb5)
  replace ca := hide (ca.out.keep hb5)
  replace cb := hide (cb.out.keep hb5)
  replace cc := hide (cc.out.keep hb5)
  have cbw500 := cb.out.1.1
  have cbw501 := cb.out.1.2.1
  have cbw502 := cb.out.1.2.2
  go_wp2_with fail
  refine (M1.out _).mono ?_
  rintro e w6 ⟨rfl, hb6⟩
  clear cbw500
  clear cbw501
  clear cbw502
  have B6 := hide (next (B5.out) hb6)
  replace ca := hide (ca.out.keep hb6)
  replace cb := hide (cb.out.keep hb6)
  replace cc := hide (cc.out.keep hb6)
  have ccw600 := cc.out.1.1
  have ccw601 := cc.out.1.2.1
  have ccw602 := cc.out.1.2.2
  go_wp2_with fail
  refine (M2.out _).mono ?_
  rintro e w7 ⟨rfl, hb7⟩
  clear ccw600
  clear ccw601
  clear ccw602
  have B7 := hide (next (B6.out) hb7)
  replace ca := hide (ca.out.keep hb7)
  replace cb := hide (cb.out.keep hb7)
  replace cc := hide (cc.out.keep hb7)
  have caw700 := ca.out.1.1
  have caw701 := ca.out.1.2.1
  have caw702 := ca.out.1.2.2
  have cbw700 := cb.out.1.1
  have cbw701 := cb.out.1.2.1
  have cbw702 := cb.out.1.2.2
  have ccw700 := cc.out.1.1
  have ccw701 := cc.out.1.2.1
  have ccw702 := cc.out.1.2.2
  have qca80 := cell_regrown ca.out.1.1
  have qca81 := cell_regrown ca.out.1.2.1
  have qca82 := cell_regrown ca.out.1.2.2
  have qcb80 := cell_regrown cb.out.1.1
  have qcb81 := cell_regrown cb.out.1.2.1
  have qcb82 := cell_regrown cb.out.1.2.2
  have k80 := fun d' os => Calls.regrown_of (HS.out (grow (redrawn w7 d') os))
  go_wp2_with fail
  refine wp_region_quiet_below (by kernel_rfl) (by kernel_rfl) ?_
  repeat (go_big_quiet_step (first | (with_reducible exact k80 _ _)))
  refine wpQuiet_nil ?_
  intro w8 hw8
  have hb8 : Below (w7).heap.size w7 w8 := by obtain ⟨⟨dq, osq⟩, hq⟩ := hw8; rw [hq]; exact below_regrown _ dq osq
  clear hw8 qca80 qca81 qca82 qcb80 qcb81 qcb82 k80
  clear caw700
  clear caw701
  clear caw702
  clear cbw700
  clear cbw701
  clear cbw702
  clear ccw700
  clear ccw701
  clear ccw702
  have B8 := hide (next (B7.out) hb8)
  replace ca := hide (ca.out.keep hb8)
  replace cb := hide (cb.out.keep hb8)
  replace cc := hide (cc.out.keep hb8)
  go_wp2_with fail
  go_ret
  exact ⟨rfl, B8.out⟩
set_option maxHeartbeats 4000000 in
set_option maxRecDepth 100000 in
theorem ord_m_kp (a0 a1 : Int) (a2 : ByteArray) (b0 b1 : Int) (b2 : ByteArray) (d : (a0 == b0) = false) (qb0 : (b0 == 0) = false) (c0 c1 : Int) (c2 : ByteArray) (z : Int) (qa0 : (a0 == 0) = false) (qc0 : (c0 == 0) = false) (HG : CallT 7 #[] (.bool true)) (H1 : CallIs 15 #[vV a0 a1 a2, vV b0 b1 b2] (.int .i64 (-1))) (H2 : CallIs 15 #[vV b0 b1 b2, vV c0 c1 c2] (.int .i64 1)) (H3 : CallIs 15 #[vV a0 a1 a2, vV c0 c1 c2] (.int .i64 z)) (H4 : CallIs 15 #[vV b0 b1 b2, vV a0 a1 a2] (.int .i64 1)) (H5 : CallIs 15 #[vV a0 a1 a2, vV a0 a1 a2] (.int .i64 0)) (M0 : CallIs 10 #[vV a0 a1 a2] (.bool true)) (M1 : CallIs 10 #[vV b0 b1 b2] (.bool true)) (M2 : CallIs 10 #[vV c0 c1 c2] (.bool true)) (HS : CallIs 16 #[vV a0 a1 a2, vV b0 b1 b2] (.bool false)) : CallT 6 #[vV a0 a1 a2, vV b0 b1 b2, vV c0 c1 c2] (.bool true) := by
  intro w ht
  have HT := hide ht
  clear ht
  go_enter Tryd.func6, Tryd.ntmps6
  try simp only [List.append]
  go_wp2_with fail
  refine (HG.out _ (tab_below HT.out (step (step (step (Below.refl w.heap.size w) _) _) _))).mono ?_
  rintro e w1 ⟨rfl, hb1⟩
  have B1 := hide (next (step (step (step (Below.refl w.heap.size w) _) _) _) hb1)
  have ca := hide ((((O3.new w (.int .i64 a0) (.int .i64 a1) (.string a2) 26).alloc _).alloc _).keep hb1)
  have cb := hide (((O3.new (w.alloc (vO a0 a1 a2)) (.int .i64 b0) (.int .i64 b1) (.string b2) 26).alloc _).keep hb1)
  simp only [World.size_alloc] at cb
  have cc := hide ((O3.new ((w.alloc (vO a0 a1 a2)).alloc (vO b0 b1 b2)) (.int .i64 c0) (.int .i64 c1) (.string c2) 26).keep hb1)
  simp only [World.size_alloc] at cc
  have qca20 := cell_regrown ca.out.1.1
  have qca21 := cell_regrown ca.out.1.2.1
  have qca22 := cell_regrown ca.out.1.2.2
  have qcb20 := cell_regrown cb.out.1.1
  have qcb21 := cell_regrown cb.out.1.2.1
  have qcb22 := cell_regrown cb.out.1.2.2
  have qcc20 := cell_regrown cc.out.1.1
  have qcc21 := cell_regrown cc.out.1.2.1
  have qcc22 := cell_regrown cc.out.1.2.2
  have k20 := fun d' os => Calls.regrown_of (H1.out (grow (redrawn w1 d') os))
  have k21 := fun d' os => Calls.regrown_of (H2.out (grow (redrawn w1 d') os))
  have k22 := fun d' os => Calls.regrown_of (H3.out (grow (redrawn w1 d') os))
  go_wp2_with fail
  refine wp_region_quiet_below (by kernel_rfl) (by kernel_rfl) ?_
  repeat (go_big_quiet_step (first | (with_reducible exact k20 _ _) | (with_reducible exact k21 _ _) | (with_reducible exact k22 _ _)))
  refine wpQuiet_nil ?_
  intro w2 hw2
  have hb2 : Below (w1).heap.size w1 w2 := by obtain ⟨⟨dq, osq⟩, hq⟩ := hw2; rw [hq]; exact below_regrown _ dq osq
  clear hw2 qca20 qca21 qca22 qcb20 qcb21 qcb22 qcc20 qcc21 qcc22 k20 k21 k22
  have B2 := hide (next (B1.out) hb2)
  replace ca := hide (ca.out.keep hb2)
  replace cb := hide (cb.out.keep hb2)
  replace cc := hide (cc.out.keep hb2)
  have caw200 := ca.out.1.1
  have caw201 := ca.out.1.2.1
  have caw202 := ca.out.1.2.2
  have cbw200 := cb.out.1.1
  have cbw201 := cb.out.1.2.1
  have cbw202 := cb.out.1.2.2
  go_wp2_with fail
  refine (H4.out _).mono ?_
  rintro e w3 ⟨rfl, hb3⟩
  clear caw200
  clear caw201
  clear caw202
  clear cbw200
  clear cbw201
  clear cbw202
  have B3 := hide (next (B2.out) hb3)
  replace ca := hide (ca.out.keep hb3)
  replace cb := hide (cb.out.keep hb3)
  replace cc := hide (cc.out.keep hb3)
  have caw300 := ca.out.1.1
  have caw301 := ca.out.1.2.1
  have caw302 := ca.out.1.2.2
  go_wp2_with fail
  refine (H5.out _).mono ?_
  rintro e w4 ⟨rfl, hb4⟩
  clear caw300
  clear caw301
  clear caw302
  have B4 := hide (next (B3.out) hb4)
  replace ca := hide (ca.out.keep hb4)
  replace cb := hide (cb.out.keep hb4)
  replace cc := hide (cc.out.keep hb4)
  have caw400 := ca.out.1.1
  have caw401 := ca.out.1.2.1
  have caw402 := ca.out.1.2.2
  go_wp2_with fail
  refine (M0.out _).mono ?_
  rintro e w5 ⟨rfl, hb5⟩
  clear caw400
  clear caw401
  clear caw402
  have B5 := hide (next (B4.out) hb5)
  replace ca := hide (ca.out.keep hb5)
  replace cb := hide (cb.out.keep hb5)
  replace cc := hide (cc.out.keep hb5)
  have cbw500 := cb.out.1.1
  have cbw501 := cb.out.1.2.1
  have cbw502 := cb.out.1.2.2
  go_wp2_with fail
  refine (M1.out _).mono ?_
  rintro e w6 ⟨rfl, hb6⟩
  clear cbw500
  clear cbw501
  clear cbw502
  have B6 := hide (next (B5.out) hb6)
  replace ca := hide (ca.out.keep hb6)
  replace cb := hide (cb.out.keep hb6)
  replace cc := hide (cc.out.keep hb6)
  have ccw600 := cc.out.1.1
  have ccw601 := cc.out.1.2.1
  have ccw602 := cc.out.1.2.2
  go_wp2_with fail
  refine (M2.out _).mono ?_
  rintro e w7 ⟨rfl, hb7⟩
  clear ccw600
  clear ccw601
  clear ccw602
  have B7 := hide (next (B6.out) hb7)
  replace ca := hide (ca.out.keep hb7)
  replace cb := hide (cb.out.keep hb7)
  replace cc := hide (cc.out.keep hb7)
  have caw700 := ca.out.1.1
  have caw701 := ca.out.1.2.1
  have caw702 := ca.out.1.2.2
  have cbw700 := cb.out.1.1
  have cbw701 := cb.out.1.2.1
  have cbw702 := cb.out.1.2.2
  have ccw700 := cc.out.1.1
  have ccw701 := cc.out.1.2.1
  have ccw702 := cc.out.1.2.2
  have qca80 := cell_regrown ca.out.1.1
  have qca81 := cell_regrown ca.out.1.2.1
  have qca82 := cell_regrown ca.out.1.2.2
  have qcb80 := cell_regrown cb.out.1.1
  have qcb81 := cell_regrown cb.out.1.2.1
  have qcb82 := cell_regrown cb.out.1.2.2
  have k80 := fun d' os => Calls.regrown_of (HS.out (grow (redrawn w7 d') os))
  go_wp2_with fail
  refine wp_region_quiet_below (by kernel_rfl) (by kernel_rfl) ?_
  repeat (go_big_quiet_step (first | (with_reducible exact k80 _ _)))
  refine wpQuiet_nil ?_
  intro w8 hw8
  have hb8 : Below (w7).heap.size w7 w8 := by obtain ⟨⟨dq, osq⟩, hq⟩ := hw8; rw [hq]; exact below_regrown _ dq osq
  clear hw8 qca80 qca81 qca82 qcb80 qcb81 qcb82 k80
  clear caw700
  clear caw701
  clear caw702
  clear cbw700
  clear cbw701
  clear cbw702
  clear ccw700
  clear ccw701
  clear ccw702
  have B8 := hide (next (B7.out) hb8)
  replace ca := hide (ca.out.keep hb8)
  replace cb := hide (cb.out.keep hb8)
  replace cc := hide (cc.out.keep hb8)
  go_wp2_with fail
  go_ret
  exact ⟨rfl, B8.out⟩
set_option maxHeartbeats 4000000 in
set_option maxRecDepth 100000 in
theorem ord_m_im (a0 a1 : Int) (a2 : ByteArray) (b1 : Int) (b2 : ByteArray) (d : (a1 == b1) = false) (c0 c1 : Int) (c2 : ByteArray) (qa0 : (a0 == 0) = false) (qc0 : (c0 == 0) = false) (HG : CallT 7 #[] (.bool true)) (H1 : CallIs 15 #[vV a0 a1 a2, vV a0 b1 b2] (.int .i64 (-1))) (H2 : CallIs 15 #[vV a0 b1 b2, vV c0 c1 c2] (.int .i64 (-1))) (H3 : CallIs 15 #[vV a0 a1 a2, vV c0 c1 c2] (.int .i64 (-1))) (H4 : CallIs 15 #[vV a0 b1 b2, vV a0 a1 a2] (.int .i64 1)) (H5 : CallIs 15 #[vV a0 a1 a2, vV a0 a1 a2] (.int .i64 0)) (M0 : CallIs 10 #[vV a0 a1 a2] (.bool true)) (M1 : CallIs 10 #[vV a0 b1 b2] (.bool true)) (M2 : CallIs 10 #[vV c0 c1 c2] (.bool true)) (HS : CallIs 16 #[vV a0 a1 a2, vV a0 b1 b2] (.bool false)) : CallT 6 #[vV a0 a1 a2, vV a0 b1 b2, vV c0 c1 c2] (.bool true) := by
  intro w ht
  have HT := hide ht
  clear ht
  go_enter Tryd.func6, Tryd.ntmps6
  try simp only [List.append]
  go_wp2_with fail
  refine (HG.out _ (tab_below HT.out (step (step (step (Below.refl w.heap.size w) _) _) _))).mono ?_
  rintro e w1 ⟨rfl, hb1⟩
  have B1 := hide (next (step (step (step (Below.refl w.heap.size w) _) _) _) hb1)
  have ca := hide ((((O3.new w (.int .i64 a0) (.int .i64 a1) (.string a2) 26).alloc _).alloc _).keep hb1)
  have cb := hide (((O3.new (w.alloc (vO a0 a1 a2)) (.int .i64 a0) (.int .i64 b1) (.string b2) 26).alloc _).keep hb1)
  simp only [World.size_alloc] at cb
  have cc := hide ((O3.new ((w.alloc (vO a0 a1 a2)).alloc (vO a0 b1 b2)) (.int .i64 c0) (.int .i64 c1) (.string c2) 26).keep hb1)
  simp only [World.size_alloc] at cc
  have qca20 := cell_regrown ca.out.1.1
  have qca21 := cell_regrown ca.out.1.2.1
  have qca22 := cell_regrown ca.out.1.2.2
  have qcb20 := cell_regrown cb.out.1.1
  have qcb21 := cell_regrown cb.out.1.2.1
  have qcb22 := cell_regrown cb.out.1.2.2
  have qcc20 := cell_regrown cc.out.1.1
  have qcc21 := cell_regrown cc.out.1.2.1
  have qcc22 := cell_regrown cc.out.1.2.2
  have k20 := fun d' os => Calls.regrown_of (H1.out (grow (redrawn w1 d') os))
  have k21 := fun d' os => Calls.regrown_of (H2.out (grow (redrawn w1 d') os))
  have k22 := fun d' os => Calls.regrown_of (H3.out (grow (redrawn w1 d') os))
  go_wp2_with fail
  refine wp_region_quiet_below (by kernel_rfl) (by kernel_rfl) ?_
  repeat (go_big_quiet_step (first | (with_reducible exact k20 _ _) | (with_reducible exact k21 _ _) | (with_reducible exact k22 _ _)))
  refine wpQuiet_nil ?_
  intro w2 hw2
  have hb2 : Below (w1).heap.size w1 w2 := by obtain ⟨⟨dq, osq⟩, hq⟩ := hw2; rw [hq]; exact below_regrown _ dq osq
  clear hw2 qca20 qca21 qca22 qcb20 qcb21 qcb22 qcc20 qcc21 qcc22 k20 k21 k22
  have B2 := hide (next (B1.out) hb2)
  replace ca := hide (ca.out.keep hb2)
  replace cb := hide (cb.out.keep hb2)
  replace cc := hide (cc.out.keep hb2)
  have caw200 := ca.out.1.1
  have caw201 := ca.out.1.2.1
  have caw202 := ca.out.1.2.2
  have cbw200 := cb.out.1.1
  have cbw201 := cb.out.1.2.1
  have cbw202 := cb.out.1.2.2
  go_wp2_with fail
  refine (H4.out _).mono ?_
  rintro e w3 ⟨rfl, hb3⟩
  clear caw200
  clear caw201
  clear caw202
  clear cbw200
  clear cbw201
  clear cbw202
  have B3 := hide (next (B2.out) hb3)
  replace ca := hide (ca.out.keep hb3)
  replace cb := hide (cb.out.keep hb3)
  replace cc := hide (cc.out.keep hb3)
  have caw300 := ca.out.1.1
  have caw301 := ca.out.1.2.1
  have caw302 := ca.out.1.2.2
  go_wp2_with fail
  refine (H5.out _).mono ?_
  rintro e w4 ⟨rfl, hb4⟩
  clear caw300
  clear caw301
  clear caw302
  have B4 := hide (next (B3.out) hb4)
  replace ca := hide (ca.out.keep hb4)
  replace cb := hide (cb.out.keep hb4)
  replace cc := hide (cc.out.keep hb4)
  have caw400 := ca.out.1.1
  have caw401 := ca.out.1.2.1
  have caw402 := ca.out.1.2.2
  go_wp2_with fail
  refine (M0.out _).mono ?_
  rintro e w5 ⟨rfl, hb5⟩
  clear caw400
  clear caw401
  clear caw402
  have B5 := hide (next (B4.out) hb5)
  replace ca := hide (ca.out.keep hb5)
  replace cb := hide (cb.out.keep hb5)
  replace cc := hide (cc.out.keep hb5)
  have cbw500 := cb.out.1.1
  have cbw501 := cb.out.1.2.1
  have cbw502 := cb.out.1.2.2
  go_wp2_with fail
  refine (M1.out _).mono ?_
  rintro e w6 ⟨rfl, hb6⟩
  clear cbw500
  clear cbw501
  clear cbw502
  have B6 := hide (next (B5.out) hb6)
  replace ca := hide (ca.out.keep hb6)
  replace cb := hide (cb.out.keep hb6)
  replace cc := hide (cc.out.keep hb6)
  have ccw600 := cc.out.1.1
  have ccw601 := cc.out.1.2.1
  have ccw602 := cc.out.1.2.2
  go_wp2_with fail
  refine (M2.out _).mono ?_
  rintro e w7 ⟨rfl, hb7⟩
  clear ccw600
  clear ccw601
  clear ccw602
  have B7 := hide (next (B6.out) hb7)
  replace ca := hide (ca.out.keep hb7)
  replace cb := hide (cb.out.keep hb7)
  replace cc := hide (cc.out.keep hb7)
  have caw700 := ca.out.1.1
  have caw701 := ca.out.1.2.1
  have caw702 := ca.out.1.2.2
  have cbw700 := cb.out.1.1
  have cbw701 := cb.out.1.2.1
  have cbw702 := cb.out.1.2.2
  have ccw700 := cc.out.1.1
  have ccw701 := cc.out.1.2.1
  have ccw702 := cc.out.1.2.2
  have qca80 := cell_regrown ca.out.1.1
  have qca81 := cell_regrown ca.out.1.2.1
  have qca82 := cell_regrown ca.out.1.2.2
  have qcb80 := cell_regrown cb.out.1.1
  have qcb81 := cell_regrown cb.out.1.2.1
  have qcb82 := cell_regrown cb.out.1.2.2
  have k80 := fun d' os => Calls.regrown_of (HS.out (grow (redrawn w7 d') os))
  go_wp2_with fail
  refine wp_region_quiet_below (by kernel_rfl) (by kernel_rfl) ?_
  repeat (go_big_quiet_step (first | (with_reducible exact k80 _ _)))
  refine wpQuiet_nil ?_
  intro w8 hw8
  have hb8 : Below (w7).heap.size w7 w8 := by obtain ⟨⟨dq, osq⟩, hq⟩ := hw8; rw [hq]; exact below_regrown _ dq osq
  clear hw8 qca80 qca81 qca82 qcb80 qcb81 qcb82 k80
  clear caw700
  clear caw701
  clear caw702
  clear cbw700
  clear cbw701
  clear cbw702
  clear ccw700
  clear ccw701
  clear ccw702
  have B8 := hide (next (B7.out) hb8)
  replace ca := hide (ca.out.keep hb8)
  replace cb := hide (cb.out.keep hb8)
  replace cc := hide (cc.out.keep hb8)
  go_wp2_with fail
  go_ret
  exact ⟨rfl, B8.out⟩
set_option maxHeartbeats 4000000 in
set_option maxRecDepth 100000 in
theorem ord_m_iz (a0 a1 : Int) (a2 : ByteArray) (b1 : Int) (b2 : ByteArray) (d : (a1 == b1) = false) (c0 c1 : Int) (c2 : ByteArray) (qa0 : (a0 == 0) = false) (qc0 : (c0 == 0) = false) (HG : CallT 7 #[] (.bool true)) (H1 : CallIs 15 #[vV a0 a1 a2, vV a0 b1 b2] (.int .i64 (-1))) (H2 : CallIs 15 #[vV a0 b1 b2, vV c0 c1 c2] (.int .i64 0)) (H3 : CallIs 15 #[vV a0 a1 a2, vV c0 c1 c2] (.int .i64 (-1))) (H4 : CallIs 15 #[vV a0 b1 b2, vV a0 a1 a2] (.int .i64 1)) (H5 : CallIs 15 #[vV a0 a1 a2, vV a0 a1 a2] (.int .i64 0)) (M0 : CallIs 10 #[vV a0 a1 a2] (.bool true)) (M1 : CallIs 10 #[vV a0 b1 b2] (.bool true)) (M2 : CallIs 10 #[vV c0 c1 c2] (.bool true)) (HS : CallIs 16 #[vV a0 a1 a2, vV a0 b1 b2] (.bool false)) : CallT 6 #[vV a0 a1 a2, vV a0 b1 b2, vV c0 c1 c2] (.bool true) := by
  intro w ht
  have HT := hide ht
  clear ht
  go_enter Tryd.func6, Tryd.ntmps6
  try simp only [List.append]
  go_wp2_with fail
  refine (HG.out _ (tab_below HT.out (step (step (step (Below.refl w.heap.size w) _) _) _))).mono ?_
  rintro e w1 ⟨rfl, hb1⟩
  have B1 := hide (next (step (step (step (Below.refl w.heap.size w) _) _) _) hb1)
  have ca := hide ((((O3.new w (.int .i64 a0) (.int .i64 a1) (.string a2) 26).alloc _).alloc _).keep hb1)
  have cb := hide (((O3.new (w.alloc (vO a0 a1 a2)) (.int .i64 a0) (.int .i64 b1) (.string b2) 26).alloc _).keep hb1)
  simp only [World.size_alloc] at cb
  have cc := hide ((O3.new ((w.alloc (vO a0 a1 a2)).alloc (vO a0 b1 b2)) (.int .i64 c0) (.int .i64 c1) (.string c2) 26).keep hb1)
  simp only [World.size_alloc] at cc
  have qca20 := cell_regrown ca.out.1.1
  have qca21 := cell_regrown ca.out.1.2.1
  have qca22 := cell_regrown ca.out.1.2.2
  have qcb20 := cell_regrown cb.out.1.1
  have qcb21 := cell_regrown cb.out.1.2.1
  have qcb22 := cell_regrown cb.out.1.2.2
  have qcc20 := cell_regrown cc.out.1.1
  have qcc21 := cell_regrown cc.out.1.2.1
  have qcc22 := cell_regrown cc.out.1.2.2
  have k20 := fun d' os => Calls.regrown_of (H1.out (grow (redrawn w1 d') os))
  have k21 := fun d' os => Calls.regrown_of (H2.out (grow (redrawn w1 d') os))
  have k22 := fun d' os => Calls.regrown_of (H3.out (grow (redrawn w1 d') os))
  go_wp2_with fail
  refine wp_region_quiet_below (by kernel_rfl) (by kernel_rfl) ?_
  repeat (go_big_quiet_step (first | (with_reducible exact k20 _ _) | (with_reducible exact k21 _ _) | (with_reducible exact k22 _ _)))
  refine wpQuiet_nil ?_
  intro w2 hw2
  have hb2 : Below (w1).heap.size w1 w2 := by obtain ⟨⟨dq, osq⟩, hq⟩ := hw2; rw [hq]; exact below_regrown _ dq osq
  clear hw2 qca20 qca21 qca22 qcb20 qcb21 qcb22 qcc20 qcc21 qcc22 k20 k21 k22
  have B2 := hide (next (B1.out) hb2)
  replace ca := hide (ca.out.keep hb2)
  replace cb := hide (cb.out.keep hb2)
  replace cc := hide (cc.out.keep hb2)
  have caw200 := ca.out.1.1
  have caw201 := ca.out.1.2.1
  have caw202 := ca.out.1.2.2
  have cbw200 := cb.out.1.1
  have cbw201 := cb.out.1.2.1
  have cbw202 := cb.out.1.2.2
  go_wp2_with fail
  refine (H4.out _).mono ?_
  rintro e w3 ⟨rfl, hb3⟩
  clear caw200
  clear caw201
  clear caw202
  clear cbw200
  clear cbw201
  clear cbw202
  have B3 := hide (next (B2.out) hb3)
  replace ca := hide (ca.out.keep hb3)
  replace cb := hide (cb.out.keep hb3)
  replace cc := hide (cc.out.keep hb3)
  have caw300 := ca.out.1.1
  have caw301 := ca.out.1.2.1
  have caw302 := ca.out.1.2.2
  go_wp2_with fail
  refine (H5.out _).mono ?_
  rintro e w4 ⟨rfl, hb4⟩
  clear caw300
  clear caw301
  clear caw302
  have B4 := hide (next (B3.out) hb4)
  replace ca := hide (ca.out.keep hb4)
  replace cb := hide (cb.out.keep hb4)
  replace cc := hide (cc.out.keep hb4)
  have caw400 := ca.out.1.1
  have caw401 := ca.out.1.2.1
  have caw402 := ca.out.1.2.2
  go_wp2_with fail
  refine (M0.out _).mono ?_
  rintro e w5 ⟨rfl, hb5⟩
  clear caw400
  clear caw401
  clear caw402
  have B5 := hide (next (B4.out) hb5)
  replace ca := hide (ca.out.keep hb5)
  replace cb := hide (cb.out.keep hb5)
  replace cc := hide (cc.out.keep hb5)
  have cbw500 := cb.out.1.1
  have cbw501 := cb.out.1.2.1
  have cbw502 := cb.out.1.2.2
  go_wp2_with fail
  refine (M1.out _).mono ?_
  rintro e w6 ⟨rfl, hb6⟩
  clear cbw500
  clear cbw501
  clear cbw502
  have B6 := hide (next (B5.out) hb6)
  replace ca := hide (ca.out.keep hb6)
  replace cb := hide (cb.out.keep hb6)
  replace cc := hide (cc.out.keep hb6)
  have ccw600 := cc.out.1.1
  have ccw601 := cc.out.1.2.1
  have ccw602 := cc.out.1.2.2
  go_wp2_with fail
  refine (M2.out _).mono ?_
  rintro e w7 ⟨rfl, hb7⟩
  clear ccw600
  clear ccw601
  clear ccw602
  have B7 := hide (next (B6.out) hb7)
  replace ca := hide (ca.out.keep hb7)
  replace cb := hide (cb.out.keep hb7)
  replace cc := hide (cc.out.keep hb7)
  have caw700 := ca.out.1.1
  have caw701 := ca.out.1.2.1
  have caw702 := ca.out.1.2.2
  have cbw700 := cb.out.1.1
  have cbw701 := cb.out.1.2.1
  have cbw702 := cb.out.1.2.2
  have ccw700 := cc.out.1.1
  have ccw701 := cc.out.1.2.1
  have ccw702 := cc.out.1.2.2
  have qca80 := cell_regrown ca.out.1.1
  have qca81 := cell_regrown ca.out.1.2.1
  have qca82 := cell_regrown ca.out.1.2.2
  have qcb80 := cell_regrown cb.out.1.1
  have qcb81 := cell_regrown cb.out.1.2.1
  have qcb82 := cell_regrown cb.out.1.2.2
  have k80 := fun d' os => Calls.regrown_of (HS.out (grow (redrawn w7 d') os))
  go_wp2_with fail
  refine wp_region_quiet_below (by kernel_rfl) (by kernel_rfl) ?_
  repeat (go_big_quiet_step (first | (with_reducible exact k80 _ _)))
  refine wpQuiet_nil ?_
  intro w8 hw8
  have hb8 : Below (w7).heap.size w7 w8 := by obtain ⟨⟨dq, osq⟩, hq⟩ := hw8; rw [hq]; exact below_regrown _ dq osq
  clear hw8 qca80 qca81 qca82 qcb80 qcb81 qcb82 k80
  clear caw700
  clear caw701
  clear caw702
  clear cbw700
  clear cbw701
  clear cbw702
  clear ccw700
  clear ccw701
  clear ccw702
  have B8 := hide (next (B7.out) hb8)
  replace ca := hide (ca.out.keep hb8)
  replace cb := hide (cb.out.keep hb8)
  replace cc := hide (cc.out.keep hb8)
  go_wp2_with fail
  go_ret
  exact ⟨rfl, B8.out⟩
set_option maxHeartbeats 4000000 in
set_option maxRecDepth 100000 in
theorem ord_m_ip (a0 a1 : Int) (a2 : ByteArray) (b1 : Int) (b2 : ByteArray) (d : (a1 == b1) = false) (c0 c1 : Int) (c2 : ByteArray) (z : Int) (qa0 : (a0 == 0) = false) (qc0 : (c0 == 0) = false) (HG : CallT 7 #[] (.bool true)) (H1 : CallIs 15 #[vV a0 a1 a2, vV a0 b1 b2] (.int .i64 (-1))) (H2 : CallIs 15 #[vV a0 b1 b2, vV c0 c1 c2] (.int .i64 1)) (H3 : CallIs 15 #[vV a0 a1 a2, vV c0 c1 c2] (.int .i64 z)) (H4 : CallIs 15 #[vV a0 b1 b2, vV a0 a1 a2] (.int .i64 1)) (H5 : CallIs 15 #[vV a0 a1 a2, vV a0 a1 a2] (.int .i64 0)) (M0 : CallIs 10 #[vV a0 a1 a2] (.bool true)) (M1 : CallIs 10 #[vV a0 b1 b2] (.bool true)) (M2 : CallIs 10 #[vV c0 c1 c2] (.bool true)) (HS : CallIs 16 #[vV a0 a1 a2, vV a0 b1 b2] (.bool false)) : CallT 6 #[vV a0 a1 a2, vV a0 b1 b2, vV c0 c1 c2] (.bool true) := by
  intro w ht
  have HT := hide ht
  clear ht
  go_enter Tryd.func6, Tryd.ntmps6
  try simp only [List.append]
  go_wp2_with fail
  refine (HG.out _ (tab_below HT.out (step (step (step (Below.refl w.heap.size w) _) _) _))).mono ?_
  rintro e w1 ⟨rfl, hb1⟩
  have B1 := hide (next (step (step (step (Below.refl w.heap.size w) _) _) _) hb1)
  have ca := hide ((((O3.new w (.int .i64 a0) (.int .i64 a1) (.string a2) 26).alloc _).alloc _).keep hb1)
  have cb := hide (((O3.new (w.alloc (vO a0 a1 a2)) (.int .i64 a0) (.int .i64 b1) (.string b2) 26).alloc _).keep hb1)
  simp only [World.size_alloc] at cb
  have cc := hide ((O3.new ((w.alloc (vO a0 a1 a2)).alloc (vO a0 b1 b2)) (.int .i64 c0) (.int .i64 c1) (.string c2) 26).keep hb1)
  simp only [World.size_alloc] at cc
  have qca20 := cell_regrown ca.out.1.1
  have qca21 := cell_regrown ca.out.1.2.1
  have qca22 := cell_regrown ca.out.1.2.2
  have qcb20 := cell_regrown cb.out.1.1
  have qcb21 := cell_regrown cb.out.1.2.1
  have qcb22 := cell_regrown cb.out.1.2.2
  have qcc20 := cell_regrown cc.out.1.1
  have qcc21 := cell_regrown cc.out.1.2.1
  have qcc22 := cell_regrown cc.out.1.2.2
  have k20 := fun d' os => Calls.regrown_of (H1.out (grow (redrawn w1 d') os))
  have k21 := fun d' os => Calls.regrown_of (H2.out (grow (redrawn w1 d') os))
  have k22 := fun d' os => Calls.regrown_of (H3.out (grow (redrawn w1 d') os))
  go_wp2_with fail
  refine wp_region_quiet_below (by kernel_rfl) (by kernel_rfl) ?_
  repeat (go_big_quiet_step (first | (with_reducible exact k20 _ _) | (with_reducible exact k21 _ _) | (with_reducible exact k22 _ _)))
  refine wpQuiet_nil ?_
  intro w2 hw2
  have hb2 : Below (w1).heap.size w1 w2 := by obtain ⟨⟨dq, osq⟩, hq⟩ := hw2; rw [hq]; exact below_regrown _ dq osq
  clear hw2 qca20 qca21 qca22 qcb20 qcb21 qcb22 qcc20 qcc21 qcc22 k20 k21 k22
  have B2 := hide (next (B1.out) hb2)
  replace ca := hide (ca.out.keep hb2)
  replace cb := hide (cb.out.keep hb2)
  replace cc := hide (cc.out.keep hb2)
  have caw200 := ca.out.1.1
  have caw201 := ca.out.1.2.1
  have caw202 := ca.out.1.2.2
  have cbw200 := cb.out.1.1
  have cbw201 := cb.out.1.2.1
  have cbw202 := cb.out.1.2.2
  go_wp2_with fail
  refine (H4.out _).mono ?_
  rintro e w3 ⟨rfl, hb3⟩
  clear caw200
  clear caw201
  clear caw202
  clear cbw200
  clear cbw201
  clear cbw202
  have B3 := hide (next (B2.out) hb3)
  replace ca := hide (ca.out.keep hb3)
  replace cb := hide (cb.out.keep hb3)
  replace cc := hide (cc.out.keep hb3)
  have caw300 := ca.out.1.1
  have caw301 := ca.out.1.2.1
  have caw302 := ca.out.1.2.2
  go_wp2_with fail
  refine (H5.out _).mono ?_
  rintro e w4 ⟨rfl, hb4⟩
  clear caw300
  clear caw301
  clear caw302
  have B4 := hide (next (B3.out) hb4)
  replace ca := hide (ca.out.keep hb4)
  replace cb := hide (cb.out.keep hb4)
  replace cc := hide (cc.out.keep hb4)
  have caw400 := ca.out.1.1
  have caw401 := ca.out.1.2.1
  have caw402 := ca.out.1.2.2
  go_wp2_with fail
  refine (M0.out _).mono ?_
  rintro e w5 ⟨rfl, hb5⟩
  clear caw400
  clear caw401
  clear caw402
  have B5 := hide (next (B4.out) hb5)
  replace ca := hide (ca.out.keep hb5)
  replace cb := hide (cb.out.keep hb5)
  replace cc := hide (cc.out.keep hb5)
  have cbw500 := cb.out.1.1
  have cbw501 := cb.out.1.2.1
  have cbw502 := cb.out.1.2.2
  go_wp2_with fail
  refine (M1.out _).mono ?_
  rintro e w6 ⟨rfl, hb6⟩
  clear cbw500
  clear cbw501
  clear cbw502
  have B6 := hide (next (B5.out) hb6)
  replace ca := hide (ca.out.keep hb6)
  replace cb := hide (cb.out.keep hb6)
  replace cc := hide (cc.out.keep hb6)
  have ccw600 := cc.out.1.1
  have ccw601 := cc.out.1.2.1
  have ccw602 := cc.out.1.2.2
  go_wp2_with fail
  refine (M2.out _).mono ?_
  rintro e w7 ⟨rfl, hb7⟩
  clear ccw600
  clear ccw601
  clear ccw602
  have B7 := hide (next (B6.out) hb7)
  replace ca := hide (ca.out.keep hb7)
  replace cb := hide (cb.out.keep hb7)
  replace cc := hide (cc.out.keep hb7)
  have caw700 := ca.out.1.1
  have caw701 := ca.out.1.2.1
  have caw702 := ca.out.1.2.2
  have cbw700 := cb.out.1.1
  have cbw701 := cb.out.1.2.1
  have cbw702 := cb.out.1.2.2
  have ccw700 := cc.out.1.1
  have ccw701 := cc.out.1.2.1
  have ccw702 := cc.out.1.2.2
  have qca80 := cell_regrown ca.out.1.1
  have qca81 := cell_regrown ca.out.1.2.1
  have qca82 := cell_regrown ca.out.1.2.2
  have qcb80 := cell_regrown cb.out.1.1
  have qcb81 := cell_regrown cb.out.1.2.1
  have qcb82 := cell_regrown cb.out.1.2.2
  have k80 := fun d' os => Calls.regrown_of (HS.out (grow (redrawn w7 d') os))
  go_wp2_with fail
  refine wp_region_quiet_below (by kernel_rfl) (by kernel_rfl) ?_
  repeat (go_big_quiet_step (first | (with_reducible exact k80 _ _)))
  refine wpQuiet_nil ?_
  intro w8 hw8
  have hb8 : Below (w7).heap.size w7 w8 := by obtain ⟨⟨dq, osq⟩, hq⟩ := hw8; rw [hq]; exact below_regrown _ dq osq
  clear hw8 qca80 qca81 qca82 qcb80 qcb81 qcb82 k80
  clear caw700
  clear caw701
  clear caw702
  clear cbw700
  clear cbw701
  clear cbw702
  clear ccw700
  clear ccw701
  clear ccw702
  have B8 := hide (next (B7.out) hb8)
  replace ca := hide (ca.out.keep hb8)
  replace cb := hide (cb.out.keep hb8)
  replace cc := hide (cc.out.keep hb8)
  go_wp2_with fail
  go_ret
  exact ⟨rfl, B8.out⟩
set_option maxHeartbeats 4000000 in
set_option maxRecDepth 100000 in
theorem ord_m_tm (a0 a1 : Int) (a2 : ByteArray) (b2 : ByteArray) (d : (a2.toList == b2.toList) = false) (c0 c1 : Int) (c2 : ByteArray) (qa0 : (a0 == 0) = false) (qc0 : (c0 == 0) = false) (HG : CallT 7 #[] (.bool true)) (H1 : CallIs 15 #[vV a0 a1 a2, vV a0 a1 b2] (.int .i64 (-1))) (H2 : CallIs 15 #[vV a0 a1 b2, vV c0 c1 c2] (.int .i64 (-1))) (H3 : CallIs 15 #[vV a0 a1 a2, vV c0 c1 c2] (.int .i64 (-1))) (H4 : CallIs 15 #[vV a0 a1 b2, vV a0 a1 a2] (.int .i64 1)) (H5 : CallIs 15 #[vV a0 a1 a2, vV a0 a1 a2] (.int .i64 0)) (M0 : CallIs 10 #[vV a0 a1 a2] (.bool true)) (M1 : CallIs 10 #[vV a0 a1 b2] (.bool true)) (M2 : CallIs 10 #[vV c0 c1 c2] (.bool true)) (HS : CallIs 16 #[vV a0 a1 a2, vV a0 a1 b2] (.bool false)) : CallT 6 #[vV a0 a1 a2, vV a0 a1 b2, vV c0 c1 c2] (.bool true) := by
  intro w ht
  have HT := hide ht
  clear ht
  go_enter Tryd.func6, Tryd.ntmps6
  try simp only [List.append]
  go_wp2_with fail
  refine (HG.out _ (tab_below HT.out (step (step (step (Below.refl w.heap.size w) _) _) _))).mono ?_
  rintro e w1 ⟨rfl, hb1⟩
  have B1 := hide (next (step (step (step (Below.refl w.heap.size w) _) _) _) hb1)
  have ca := hide ((((O3.new w (.int .i64 a0) (.int .i64 a1) (.string a2) 26).alloc _).alloc _).keep hb1)
  have cb := hide (((O3.new (w.alloc (vO a0 a1 a2)) (.int .i64 a0) (.int .i64 a1) (.string b2) 26).alloc _).keep hb1)
  simp only [World.size_alloc] at cb
  have cc := hide ((O3.new ((w.alloc (vO a0 a1 a2)).alloc (vO a0 a1 b2)) (.int .i64 c0) (.int .i64 c1) (.string c2) 26).keep hb1)
  simp only [World.size_alloc] at cc
  have qca20 := cell_regrown ca.out.1.1
  have qca21 := cell_regrown ca.out.1.2.1
  have qca22 := cell_regrown ca.out.1.2.2
  have qcb20 := cell_regrown cb.out.1.1
  have qcb21 := cell_regrown cb.out.1.2.1
  have qcb22 := cell_regrown cb.out.1.2.2
  have qcc20 := cell_regrown cc.out.1.1
  have qcc21 := cell_regrown cc.out.1.2.1
  have qcc22 := cell_regrown cc.out.1.2.2
  have k20 := fun d' os => Calls.regrown_of (H1.out (grow (redrawn w1 d') os))
  have k21 := fun d' os => Calls.regrown_of (H2.out (grow (redrawn w1 d') os))
  have k22 := fun d' os => Calls.regrown_of (H3.out (grow (redrawn w1 d') os))
  go_wp2_with fail
  refine wp_region_quiet_below (by kernel_rfl) (by kernel_rfl) ?_
  repeat (go_big_quiet_step (first | (with_reducible exact k20 _ _) | (with_reducible exact k21 _ _) | (with_reducible exact k22 _ _)))
  refine wpQuiet_nil ?_
  intro w2 hw2
  have hb2 : Below (w1).heap.size w1 w2 := by obtain ⟨⟨dq, osq⟩, hq⟩ := hw2; rw [hq]; exact below_regrown _ dq osq
  clear hw2 qca20 qca21 qca22 qcb20 qcb21 qcb22 qcc20 qcc21 qcc22 k20 k21 k22
  have B2 := hide (next (B1.out) hb2)
  replace ca := hide (ca.out.keep hb2)
  replace cb := hide (cb.out.keep hb2)
  replace cc := hide (cc.out.keep hb2)
  have caw200 := ca.out.1.1
  have caw201 := ca.out.1.2.1
  have caw202 := ca.out.1.2.2
  have cbw200 := cb.out.1.1
  have cbw201 := cb.out.1.2.1
  have cbw202 := cb.out.1.2.2
  go_wp2_with fail
  refine (H4.out _).mono ?_
  rintro e w3 ⟨rfl, hb3⟩
  clear caw200
  clear caw201
  clear caw202
  clear cbw200
  clear cbw201
  clear cbw202
  have B3 := hide (next (B2.out) hb3)
  replace ca := hide (ca.out.keep hb3)
  replace cb := hide (cb.out.keep hb3)
  replace cc := hide (cc.out.keep hb3)
  have caw300 := ca.out.1.1
  have caw301 := ca.out.1.2.1
  have caw302 := ca.out.1.2.2
  go_wp2_with fail
  refine (H5.out _).mono ?_
  rintro e w4 ⟨rfl, hb4⟩
  clear caw300
  clear caw301
  clear caw302
  have B4 := hide (next (B3.out) hb4)
  replace ca := hide (ca.out.keep hb4)
  replace cb := hide (cb.out.keep hb4)
  replace cc := hide (cc.out.keep hb4)
  have caw400 := ca.out.1.1
  have caw401 := ca.out.1.2.1
  have caw402 := ca.out.1.2.2
  go_wp2_with fail
  refine (M0.out _).mono ?_
  rintro e w5 ⟨rfl, hb5⟩
  clear caw400
  clear caw401
  clear caw402
  have B5 := hide (next (B4.out) hb5)
  replace ca := hide (ca.out.keep hb5)
  replace cb := hide (cb.out.keep hb5)
  replace cc := hide (cc.out.keep hb5)
  have cbw500 := cb.out.1.1
  have cbw501 := cb.out.1.2.1
  have cbw502 := cb.out.1.2.2
  go_wp2_with fail
  refine (M1.out _).mono ?_
  rintro e w6 ⟨rfl, hb6⟩
  clear cbw500
  clear cbw501
  clear cbw502
  have B6 := hide (next (B5.out) hb6)
  replace ca := hide (ca.out.keep hb6)
  replace cb := hide (cb.out.keep hb6)
  replace cc := hide (cc.out.keep hb6)
  have ccw600 := cc.out.1.1
  have ccw601 := cc.out.1.2.1
  have ccw602 := cc.out.1.2.2
  go_wp2_with fail
  refine (M2.out _).mono ?_
  rintro e w7 ⟨rfl, hb7⟩
  clear ccw600
  clear ccw601
  clear ccw602
  have B7 := hide (next (B6.out) hb7)
  replace ca := hide (ca.out.keep hb7)
  replace cb := hide (cb.out.keep hb7)
  replace cc := hide (cc.out.keep hb7)
  have caw700 := ca.out.1.1
  have caw701 := ca.out.1.2.1
  have caw702 := ca.out.1.2.2
  have cbw700 := cb.out.1.1
  have cbw701 := cb.out.1.2.1
  have cbw702 := cb.out.1.2.2
  have ccw700 := cc.out.1.1
  have ccw701 := cc.out.1.2.1
  have ccw702 := cc.out.1.2.2
  have qca80 := cell_regrown ca.out.1.1
  have qca81 := cell_regrown ca.out.1.2.1
  have qca82 := cell_regrown ca.out.1.2.2
  have qcb80 := cell_regrown cb.out.1.1
  have qcb81 := cell_regrown cb.out.1.2.1
  have qcb82 := cell_regrown cb.out.1.2.2
  have k80 := fun d' os => Calls.regrown_of (HS.out (grow (redrawn w7 d') os))
  go_wp2_with fail
  refine wp_region_quiet_below (by kernel_rfl) (by kernel_rfl) ?_
  repeat (go_big_quiet_step (first | (with_reducible exact k80 _ _)))
  refine wpQuiet_nil ?_
  intro w8 hw8
  have hb8 : Below (w7).heap.size w7 w8 := by obtain ⟨⟨dq, osq⟩, hq⟩ := hw8; rw [hq]; exact below_regrown _ dq osq
  clear hw8 qca80 qca81 qca82 qcb80 qcb81 qcb82 k80
  clear caw700
  clear caw701
  clear caw702
  clear cbw700
  clear cbw701
  clear cbw702
  clear ccw700
  clear ccw701
  clear ccw702
  have B8 := hide (next (B7.out) hb8)
  replace ca := hide (ca.out.keep hb8)
  replace cb := hide (cb.out.keep hb8)
  replace cc := hide (cc.out.keep hb8)
  go_wp2_with fail
  go_ret
  exact ⟨rfl, B8.out⟩
set_option maxHeartbeats 4000000 in
set_option maxRecDepth 100000 in
theorem ord_m_tz (a0 a1 : Int) (a2 : ByteArray) (b2 : ByteArray) (d : (a2.toList == b2.toList) = false) (c0 c1 : Int) (c2 : ByteArray) (qa0 : (a0 == 0) = false) (qc0 : (c0 == 0) = false) (HG : CallT 7 #[] (.bool true)) (H1 : CallIs 15 #[vV a0 a1 a2, vV a0 a1 b2] (.int .i64 (-1))) (H2 : CallIs 15 #[vV a0 a1 b2, vV c0 c1 c2] (.int .i64 0)) (H3 : CallIs 15 #[vV a0 a1 a2, vV c0 c1 c2] (.int .i64 (-1))) (H4 : CallIs 15 #[vV a0 a1 b2, vV a0 a1 a2] (.int .i64 1)) (H5 : CallIs 15 #[vV a0 a1 a2, vV a0 a1 a2] (.int .i64 0)) (M0 : CallIs 10 #[vV a0 a1 a2] (.bool true)) (M1 : CallIs 10 #[vV a0 a1 b2] (.bool true)) (M2 : CallIs 10 #[vV c0 c1 c2] (.bool true)) (HS : CallIs 16 #[vV a0 a1 a2, vV a0 a1 b2] (.bool false)) : CallT 6 #[vV a0 a1 a2, vV a0 a1 b2, vV c0 c1 c2] (.bool true) := by
  intro w ht
  have HT := hide ht
  clear ht
  go_enter Tryd.func6, Tryd.ntmps6
  try simp only [List.append]
  go_wp2_with fail
  refine (HG.out _ (tab_below HT.out (step (step (step (Below.refl w.heap.size w) _) _) _))).mono ?_
  rintro e w1 ⟨rfl, hb1⟩
  have B1 := hide (next (step (step (step (Below.refl w.heap.size w) _) _) _) hb1)
  have ca := hide ((((O3.new w (.int .i64 a0) (.int .i64 a1) (.string a2) 26).alloc _).alloc _).keep hb1)
  have cb := hide (((O3.new (w.alloc (vO a0 a1 a2)) (.int .i64 a0) (.int .i64 a1) (.string b2) 26).alloc _).keep hb1)
  simp only [World.size_alloc] at cb
  have cc := hide ((O3.new ((w.alloc (vO a0 a1 a2)).alloc (vO a0 a1 b2)) (.int .i64 c0) (.int .i64 c1) (.string c2) 26).keep hb1)
  simp only [World.size_alloc] at cc
  have qca20 := cell_regrown ca.out.1.1
  have qca21 := cell_regrown ca.out.1.2.1
  have qca22 := cell_regrown ca.out.1.2.2
  have qcb20 := cell_regrown cb.out.1.1
  have qcb21 := cell_regrown cb.out.1.2.1
  have qcb22 := cell_regrown cb.out.1.2.2
  have qcc20 := cell_regrown cc.out.1.1
  have qcc21 := cell_regrown cc.out.1.2.1
  have qcc22 := cell_regrown cc.out.1.2.2
  have k20 := fun d' os => Calls.regrown_of (H1.out (grow (redrawn w1 d') os))
  have k21 := fun d' os => Calls.regrown_of (H2.out (grow (redrawn w1 d') os))
  have k22 := fun d' os => Calls.regrown_of (H3.out (grow (redrawn w1 d') os))
  go_wp2_with fail
  refine wp_region_quiet_below (by kernel_rfl) (by kernel_rfl) ?_
  repeat (go_big_quiet_step (first | (with_reducible exact k20 _ _) | (with_reducible exact k21 _ _) | (with_reducible exact k22 _ _)))
  refine wpQuiet_nil ?_
  intro w2 hw2
  have hb2 : Below (w1).heap.size w1 w2 := by obtain ⟨⟨dq, osq⟩, hq⟩ := hw2; rw [hq]; exact below_regrown _ dq osq
  clear hw2 qca20 qca21 qca22 qcb20 qcb21 qcb22 qcc20 qcc21 qcc22 k20 k21 k22
  have B2 := hide (next (B1.out) hb2)
  replace ca := hide (ca.out.keep hb2)
  replace cb := hide (cb.out.keep hb2)
  replace cc := hide (cc.out.keep hb2)
  have caw200 := ca.out.1.1
  have caw201 := ca.out.1.2.1
  have caw202 := ca.out.1.2.2
  have cbw200 := cb.out.1.1
  have cbw201 := cb.out.1.2.1
  have cbw202 := cb.out.1.2.2
  go_wp2_with fail
  refine (H4.out _).mono ?_
  rintro e w3 ⟨rfl, hb3⟩
  clear caw200
  clear caw201
  clear caw202
  clear cbw200
  clear cbw201
  clear cbw202
  have B3 := hide (next (B2.out) hb3)
  replace ca := hide (ca.out.keep hb3)
  replace cb := hide (cb.out.keep hb3)
  replace cc := hide (cc.out.keep hb3)
  have caw300 := ca.out.1.1
  have caw301 := ca.out.1.2.1
  have caw302 := ca.out.1.2.2
  go_wp2_with fail
  refine (H5.out _).mono ?_
  rintro e w4 ⟨rfl, hb4⟩
  clear caw300
  clear caw301
  clear caw302
  have B4 := hide (next (B3.out) hb4)
  replace ca := hide (ca.out.keep hb4)
  replace cb := hide (cb.out.keep hb4)
  replace cc := hide (cc.out.keep hb4)
  have caw400 := ca.out.1.1
  have caw401 := ca.out.1.2.1
  have caw402 := ca.out.1.2.2
  go_wp2_with fail
  refine (M0.out _).mono ?_
  rintro e w5 ⟨rfl, hb5⟩
  clear caw400
  clear caw401
  clear caw402
  have B5 := hide (next (B4.out) hb5)
  replace ca := hide (ca.out.keep hb5)
  replace cb := hide (cb.out.keep hb5)
  replace cc := hide (cc.out.keep hb5)
  have cbw500 := cb.out.1.1
  have cbw501 := cb.out.1.2.1
  have cbw502 := cb.out.1.2.2
  go_wp2_with fail
  refine (M1.out _).mono ?_
  rintro e w6 ⟨rfl, hb6⟩
  clear cbw500
  clear cbw501
  clear cbw502
  have B6 := hide (next (B5.out) hb6)
  replace ca := hide (ca.out.keep hb6)
  replace cb := hide (cb.out.keep hb6)
  replace cc := hide (cc.out.keep hb6)
  have ccw600 := cc.out.1.1
  have ccw601 := cc.out.1.2.1
  have ccw602 := cc.out.1.2.2
  go_wp2_with fail
  refine (M2.out _).mono ?_
  rintro e w7 ⟨rfl, hb7⟩
  clear ccw600
  clear ccw601
  clear ccw602
  have B7 := hide (next (B6.out) hb7)
  replace ca := hide (ca.out.keep hb7)
  replace cb := hide (cb.out.keep hb7)
  replace cc := hide (cc.out.keep hb7)
  have caw700 := ca.out.1.1
  have caw701 := ca.out.1.2.1
  have caw702 := ca.out.1.2.2
  have cbw700 := cb.out.1.1
  have cbw701 := cb.out.1.2.1
  have cbw702 := cb.out.1.2.2
  have ccw700 := cc.out.1.1
  have ccw701 := cc.out.1.2.1
  have ccw702 := cc.out.1.2.2
  have qca80 := cell_regrown ca.out.1.1
  have qca81 := cell_regrown ca.out.1.2.1
  have qca82 := cell_regrown ca.out.1.2.2
  have qcb80 := cell_regrown cb.out.1.1
  have qcb81 := cell_regrown cb.out.1.2.1
  have qcb82 := cell_regrown cb.out.1.2.2
  have k80 := fun d' os => Calls.regrown_of (HS.out (grow (redrawn w7 d') os))
  go_wp2_with fail
  refine wp_region_quiet_below (by kernel_rfl) (by kernel_rfl) ?_
  repeat (go_big_quiet_step (first | (with_reducible exact k80 _ _)))
  refine wpQuiet_nil ?_
  intro w8 hw8
  have hb8 : Below (w7).heap.size w7 w8 := by obtain ⟨⟨dq, osq⟩, hq⟩ := hw8; rw [hq]; exact below_regrown _ dq osq
  clear hw8 qca80 qca81 qca82 qcb80 qcb81 qcb82 k80
  clear caw700
  clear caw701
  clear caw702
  clear cbw700
  clear cbw701
  clear cbw702
  clear ccw700
  clear ccw701
  clear ccw702
  have B8 := hide (next (B7.out) hb8)
  replace ca := hide (ca.out.keep hb8)
  replace cb := hide (cb.out.keep hb8)
  replace cc := hide (cc.out.keep hb8)
  go_wp2_with fail
  go_ret
  exact ⟨rfl, B8.out⟩
set_option maxHeartbeats 4000000 in
set_option maxRecDepth 100000 in
theorem ord_m_tp (a0 a1 : Int) (a2 : ByteArray) (b2 : ByteArray) (d : (a2.toList == b2.toList) = false) (c0 c1 : Int) (c2 : ByteArray) (z : Int) (qa0 : (a0 == 0) = false) (qc0 : (c0 == 0) = false) (HG : CallT 7 #[] (.bool true)) (H1 : CallIs 15 #[vV a0 a1 a2, vV a0 a1 b2] (.int .i64 (-1))) (H2 : CallIs 15 #[vV a0 a1 b2, vV c0 c1 c2] (.int .i64 1)) (H3 : CallIs 15 #[vV a0 a1 a2, vV c0 c1 c2] (.int .i64 z)) (H4 : CallIs 15 #[vV a0 a1 b2, vV a0 a1 a2] (.int .i64 1)) (H5 : CallIs 15 #[vV a0 a1 a2, vV a0 a1 a2] (.int .i64 0)) (M0 : CallIs 10 #[vV a0 a1 a2] (.bool true)) (M1 : CallIs 10 #[vV a0 a1 b2] (.bool true)) (M2 : CallIs 10 #[vV c0 c1 c2] (.bool true)) (HS : CallIs 16 #[vV a0 a1 a2, vV a0 a1 b2] (.bool false)) : CallT 6 #[vV a0 a1 a2, vV a0 a1 b2, vV c0 c1 c2] (.bool true) := by
  intro w ht
  have HT := hide ht
  clear ht
  go_enter Tryd.func6, Tryd.ntmps6
  try simp only [List.append]
  go_wp2_with fail
  refine (HG.out _ (tab_below HT.out (step (step (step (Below.refl w.heap.size w) _) _) _))).mono ?_
  rintro e w1 ⟨rfl, hb1⟩
  have B1 := hide (next (step (step (step (Below.refl w.heap.size w) _) _) _) hb1)
  have ca := hide ((((O3.new w (.int .i64 a0) (.int .i64 a1) (.string a2) 26).alloc _).alloc _).keep hb1)
  have cb := hide (((O3.new (w.alloc (vO a0 a1 a2)) (.int .i64 a0) (.int .i64 a1) (.string b2) 26).alloc _).keep hb1)
  simp only [World.size_alloc] at cb
  have cc := hide ((O3.new ((w.alloc (vO a0 a1 a2)).alloc (vO a0 a1 b2)) (.int .i64 c0) (.int .i64 c1) (.string c2) 26).keep hb1)
  simp only [World.size_alloc] at cc
  have qca20 := cell_regrown ca.out.1.1
  have qca21 := cell_regrown ca.out.1.2.1
  have qca22 := cell_regrown ca.out.1.2.2
  have qcb20 := cell_regrown cb.out.1.1
  have qcb21 := cell_regrown cb.out.1.2.1
  have qcb22 := cell_regrown cb.out.1.2.2
  have qcc20 := cell_regrown cc.out.1.1
  have qcc21 := cell_regrown cc.out.1.2.1
  have qcc22 := cell_regrown cc.out.1.2.2
  have k20 := fun d' os => Calls.regrown_of (H1.out (grow (redrawn w1 d') os))
  have k21 := fun d' os => Calls.regrown_of (H2.out (grow (redrawn w1 d') os))
  have k22 := fun d' os => Calls.regrown_of (H3.out (grow (redrawn w1 d') os))
  go_wp2_with fail
  refine wp_region_quiet_below (by kernel_rfl) (by kernel_rfl) ?_
  repeat (go_big_quiet_step (first | (with_reducible exact k20 _ _) | (with_reducible exact k21 _ _) | (with_reducible exact k22 _ _)))
  refine wpQuiet_nil ?_
  intro w2 hw2
  have hb2 : Below (w1).heap.size w1 w2 := by obtain ⟨⟨dq, osq⟩, hq⟩ := hw2; rw [hq]; exact below_regrown _ dq osq
  clear hw2 qca20 qca21 qca22 qcb20 qcb21 qcb22 qcc20 qcc21 qcc22 k20 k21 k22
  have B2 := hide (next (B1.out) hb2)
  replace ca := hide (ca.out.keep hb2)
  replace cb := hide (cb.out.keep hb2)
  replace cc := hide (cc.out.keep hb2)
  have caw200 := ca.out.1.1
  have caw201 := ca.out.1.2.1
  have caw202 := ca.out.1.2.2
  have cbw200 := cb.out.1.1
  have cbw201 := cb.out.1.2.1
  have cbw202 := cb.out.1.2.2
  go_wp2_with fail
  refine (H4.out _).mono ?_
  rintro e w3 ⟨rfl, hb3⟩
  clear caw200
  clear caw201
  clear caw202
  clear cbw200
  clear cbw201
  clear cbw202
  have B3 := hide (next (B2.out) hb3)
  replace ca := hide (ca.out.keep hb3)
  replace cb := hide (cb.out.keep hb3)
  replace cc := hide (cc.out.keep hb3)
  have caw300 := ca.out.1.1
  have caw301 := ca.out.1.2.1
  have caw302 := ca.out.1.2.2
  go_wp2_with fail
  refine (H5.out _).mono ?_
  rintro e w4 ⟨rfl, hb4⟩
  clear caw300
  clear caw301
  clear caw302
  have B4 := hide (next (B3.out) hb4)
  replace ca := hide (ca.out.keep hb4)
  replace cb := hide (cb.out.keep hb4)
  replace cc := hide (cc.out.keep hb4)
  have caw400 := ca.out.1.1
  have caw401 := ca.out.1.2.1
  have caw402 := ca.out.1.2.2
  go_wp2_with fail
  refine (M0.out _).mono ?_
  rintro e w5 ⟨rfl, hb5⟩
  clear caw400
  clear caw401
  clear caw402
  have B5 := hide (next (B4.out) hb5)
  replace ca := hide (ca.out.keep hb5)
  replace cb := hide (cb.out.keep hb5)
  replace cc := hide (cc.out.keep hb5)
  have cbw500 := cb.out.1.1
  have cbw501 := cb.out.1.2.1
  have cbw502 := cb.out.1.2.2
  go_wp2_with fail
  refine (M1.out _).mono ?_
  rintro e w6 ⟨rfl, hb6⟩
  clear cbw500
  clear cbw501
  clear cbw502
  have B6 := hide (next (B5.out) hb6)
  replace ca := hide (ca.out.keep hb6)
  replace cb := hide (cb.out.keep hb6)
  replace cc := hide (cc.out.keep hb6)
  have ccw600 := cc.out.1.1
  have ccw601 := cc.out.1.2.1
  have ccw602 := cc.out.1.2.2
  go_wp2_with fail
  refine (M2.out _).mono ?_
  rintro e w7 ⟨rfl, hb7⟩
  clear ccw600
  clear ccw601
  clear ccw602
  have B7 := hide (next (B6.out) hb7)
  replace ca := hide (ca.out.keep hb7)
  replace cb := hide (cb.out.keep hb7)
  replace cc := hide (cc.out.keep hb7)
  have caw700 := ca.out.1.1
  have caw701 := ca.out.1.2.1
  have caw702 := ca.out.1.2.2
  have cbw700 := cb.out.1.1
  have cbw701 := cb.out.1.2.1
  have cbw702 := cb.out.1.2.2
  have ccw700 := cc.out.1.1
  have ccw701 := cc.out.1.2.1
  have ccw702 := cc.out.1.2.2
  have qca80 := cell_regrown ca.out.1.1
  have qca81 := cell_regrown ca.out.1.2.1
  have qca82 := cell_regrown ca.out.1.2.2
  have qcb80 := cell_regrown cb.out.1.1
  have qcb81 := cell_regrown cb.out.1.2.1
  have qcb82 := cell_regrown cb.out.1.2.2
  have k80 := fun d' os => Calls.regrown_of (HS.out (grow (redrawn w7 d') os))
  go_wp2_with fail
  refine wp_region_quiet_below (by kernel_rfl) (by kernel_rfl) ?_
  repeat (go_big_quiet_step (first | (with_reducible exact k80 _ _)))
  refine wpQuiet_nil ?_
  intro w8 hw8
  have hb8 : Below (w7).heap.size w7 w8 := by obtain ⟨⟨dq, osq⟩, hq⟩ := hw8; rw [hq]; exact below_regrown _ dq osq
  clear hw8 qca80 qca81 qca82 qcb80 qcb81 qcb82 k80
  clear caw700
  clear caw701
  clear caw702
  clear cbw700
  clear cbw701
  clear cbw702
  clear ccw700
  clear ccw701
  clear ccw702
  have B8 := hide (next (B7.out) hb8)
  replace ca := hide (ca.out.keep hb8)
  replace cb := hide (cb.out.keep hb8)
  replace cc := hide (cc.out.keep hb8)
  go_wp2_with fail
  go_ret
  exact ⟨rfl, B8.out⟩
end Go.Proofs.YtlgmcabnbmbocaaDoor
