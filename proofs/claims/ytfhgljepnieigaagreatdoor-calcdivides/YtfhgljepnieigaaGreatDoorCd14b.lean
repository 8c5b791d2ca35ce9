/- CalcDivides: by 0, and the least number by -1; the whole. Proved of the Go text. -/
import Derived.Test.YtfhgljepnieigaaGreatDoorCdM14
namespace Go.Proofs.YtfhgljepnieigaaGreatDoor
open Go.RowKit Go.Sort
set_option linter.unusedVariables false

set_option maxHeartbeats 8000000 in
set_option maxRecDepth 100000 in
theorem cd_zero (a : Int) (HQ : Hid (FunIs 4 [⟨1, a, no⟩, ⟨1, 0, no⟩] ⟨4, 5, no⟩)) (HM : Hid (FunIs 3 [⟨1, a, no⟩, ⟨1, 0, no⟩] ⟨4, 5, no⟩)) (HL : Hid (FunIs 7 [⟨1, a, no⟩, ⟨1, 0, no⟩] ⟨1, 0, no⟩)) (HD : CallIs 12 #[.int .i64 3, vV 1 a no, vV 1 0 no] (vV 4 5 no)) : CallB 4 #[.int .i64 a, .int .i64 0] (.bool true) := by
  intro w ht
  have HT := hide ht
  clear ht
  go_enter Tryz.func4, Tryz.ntmps4
  try simp only [List.append]
  go_wp2_with fail
  refine (begun14.out _ HT.out).mono ?_
  rintro e w1 ⟨rfl, hb1⟩
  have B1 := hide (next (Below.refl w.heap.size w) hb1)
  go_wp2_with fail
  refine ((lnum_is a).out _).mono ?_
  rintro e w2 ⟨rfl, hb2⟩
  have B2 := hide (next (B1.out) hb2)
  go_wp2_with fail
  refine ((lnum_is 0).out _).mono ?_
  rintro e w3 ⟨rfl, hb3⟩
  have B3 := hide (next (B2.out) hb3)
  go_wp2_with fail
  refine (is2 4 ⟨1, a, no⟩ ⟨1, 0, no⟩ ⟨4, 5, no⟩ HQ.out _ (HT.out.keep (B3.out))).mono ?_
  rintro e w4 ⟨rfl, hb4⟩
  have B4 := hide (next (step (B3.out) _) hb4)
  go_wp2_with fail
  refine ((lnum_is a).out _).mono ?_
  rintro e w5 ⟨rfl, hb5⟩
  have B5 := hide (next (B4.out) hb5)
  go_wp2_with fail
  refine ((lnum_is 0).out _).mono ?_
  rintro e w6 ⟨rfl, hb6⟩
  have B6 := hide (next (B5.out) hb6)
  go_wp2_with fail
  refine (is2 3 ⟨1, a, no⟩ ⟨1, 0, no⟩ ⟨4, 5, no⟩ HM.out _ (HT.out.keep (B6.out))).mono ?_
  rintro e w7 ⟨rfl, hb7⟩
  have B7 := hide (next (step (B6.out) _) hb7)
  go_wp2_with fail
  refine ((lnum_is a).out _).mono ?_
  rintro e w8 ⟨rfl, hb8⟩
  have B8 := hide (next (B7.out) hb8)
  go_wp2_with fail
  refine ((lnum_is 0).out _).mono ?_
  rintro e w9 ⟨rfl, hb9⟩
  have B9 := hide (next (B8.out) hb9)
  go_wp2_with fail
  refine (HD.out _).mono ?_
  rintro e w10 ⟨rfl, hb10⟩
  have B10 := hide (next (B9.out) hb10)
  go_upto_region 4 with fail
  have cq : Hid (O3 (((w10.alloc (vO 4 5 no)).alloc (vO 4 5 no)).alloc (vO 4 5 no)) (w10.heap.size) (.int .i64 4) (.int .i64 5) (.string no)) := hide (by have h0 := (((O3.new w10 (.int .i64 4) (.int .i64 5) (.string no) 26).alloc (vO 4 5 no)).alloc (vO 4 5 no)); exact h0)
  have cm : Hid (O3 (((w10.alloc (vO 4 5 no)).alloc (vO 4 5 no)).alloc (vO 4 5 no)) (w10.heap.size + 1) (.int .i64 4) (.int .i64 5) (.string no)) := hide (by have h0 := ((O3.new (w10.alloc (vO 4 5 no)) (.int .i64 4) (.int .i64 5) (.string no) 26).alloc (vO 4 5 no)); simp only [World.size_alloc] at h0; exact h0)
  have cd : Hid (O3 (((w10.alloc (vO 4 5 no)).alloc (vO 4 5 no)).alloc (vO 4 5 no)) (w10.heap.size + 1 + 1) (.int .i64 4) (.int .i64 5) (.string no)) := hide (by have h0 := (O3.new ((w10.alloc (vO 4 5 no)).alloc (vO 4 5 no)) (.int .i64 4) (.int .i64 5) (.string no) 26); simp only [World.size_alloc] at h0; exact h0)
  obtain ⟨wz, hwz⟩ : ∃ wz, (((w10.alloc (vO 4 5 no)).alloc (vO 4 5 no)).alloc (vO 4 5 no)) = wz := ⟨_, rfl⟩
  have Bwz := hide (step (step (step (B10.out) (vO 4 5 no)) (vO 4 5 no)) (vO 4 5 no))
  rw [hwz] at Bwz cq cm cd ⊢
  clear hwz
  have hneq := va_neq 4 5 no
  have heq := va_eq1 4 5 no
  have heq2 := va_eq1 1 0 no
  have cqc1 := cq.out.1.1
  have cqc2 := cq.out.1.2.1
  have cqc3 := cq.out.1.2.2
  have cdc4 := cd.out.1.1
  have cdc5 := cd.out.1.2.1
  have cdc6 := cd.out.1.2.2
  have cmc7 := cm.out.1.1
  have cmc8 := cm.out.1.2.1
  have cmc9 := cm.out.1.2.2
  go_upto_region 7 with fail
  clear hneq cqc1 cqc2 cqc3 cdc4 cdc5 cdc6 cmc7 cmc8 cmc9
  have cqc10 := cell_regrown cq.out.1.1
  have cqc11 := cell_regrown cq.out.1.2.1
  have cqc12 := cell_regrown cq.out.1.2.2
  have cmc13 := cell_regrown cm.out.1.1
  have cmc14 := cell_regrown cm.out.1.2.1
  have cmc15 := cell_regrown cm.out.1.2.2
  have kq0 := fun d' os => Calls.regrown_of ((lbad_is 5).out (grow (redrawn wz d') os))
  have kq1 := fun d' os => Calls.regrown_of ((lnum_is a).out (grow (redrawn wz d') os))
  have kq2 := fun d' os => Calls.regrown_of ((lnum_is 0).out (grow (redrawn wz d') os))
  replace HT := hide (HT.out.keep Bwz.out)
  refine quiet_tail 13 (by kernel_rfl) (by kernel_rfl) ?_
  simp only [List.take_succ_cons, List.take_zero, List.drop_succ_cons, List.drop_zero]
  repeat (go_big_quiet_step (first | (with_reducible exact kq0 _ _) | (with_reducible exact kq1 _ _) | (with_reducible exact kq2 _ _)))
  refine wpQuiet_nil ?_
  intro wq hwq
  have hbq : Below wz.heap.size wz wq := by obtain ⟨⟨dq, osq⟩, hq⟩ := hwq; rw [hq]; exact below_regrown _ dq osq
  clear hwq cqc10 cqc11 cqc12 cmc13 cmc14 cmc15 kq0 kq1 kq2
  have Bq := hide (next Bwz.out hbq)
  replace HT := hide (HT.out.keep hbq)
  go_wp2_with fail
  refine (is2 7 ⟨1, a, no⟩ ⟨1, 0, no⟩ ⟨1, 0, no⟩ HL.out _ HT.out).mono ?_
  rintro e v5 ⟨rfl, g5⟩
  have D5 := hide (next (step Bq.out _) g5)
  go_wp2_with fail
  refine ((lnum_is 0).out _).mono ?_
  rintro e v6 ⟨rfl, g6⟩
  have D6 := hide (next D5.out g6)
  go_wp2_with fail
  go_ret
  exact ⟨rfl, D6.out⟩
set_option maxHeartbeats 8000000 in
set_option maxRecDepth 100000 in
theorem cd_least (HQ : Hid (FunIs 4 [⟨1, (-9223372036854775808), no⟩, ⟨1, -1, no⟩] ⟨4, 2, no⟩)) (HM : Hid (FunIs 3 [⟨1, (-9223372036854775808), no⟩, ⟨1, -1, no⟩] ⟨1, 0, no⟩)) (HD : CallIs 12 #[.int .i64 3, vV 1 (-9223372036854775808) no, vV 1 (-1) no] (vV 4 2 no)) : CallB 4 #[.int .i64 (-9223372036854775808), .int .i64 (-1)] (.bool true) := by
  intro w ht
  have HT := hide ht
  clear ht
  go_enter Tryz.func4, Tryz.ntmps4
  try simp only [List.append]
  go_wp2_with fail
  refine (begun14.out _ HT.out).mono ?_
  rintro e w1 ⟨rfl, hb1⟩
  have B1 := hide (next (Below.refl w.heap.size w) hb1)
  go_wp2_with fail
  refine ((lnum_is (-9223372036854775808)).out _).mono ?_
  rintro e w2 ⟨rfl, hb2⟩
  have B2 := hide (next (B1.out) hb2)
  go_wp2_with fail
  refine ((lnum_is (-1)).out _).mono ?_
  rintro e w3 ⟨rfl, hb3⟩
  have B3 := hide (next (B2.out) hb3)
  go_wp2_with fail
  refine (is2 4 ⟨1, (-9223372036854775808), no⟩ ⟨1, -1, no⟩ ⟨4, 2, no⟩ HQ.out _ (HT.out.keep (B3.out))).mono ?_
  rintro e w4 ⟨rfl, hb4⟩
  have B4 := hide (next (step (B3.out) _) hb4)
  go_wp2_with fail
  refine ((lnum_is (-9223372036854775808)).out _).mono ?_
  rintro e w5 ⟨rfl, hb5⟩
  have B5 := hide (next (B4.out) hb5)
  go_wp2_with fail
  refine ((lnum_is (-1)).out _).mono ?_
  rintro e w6 ⟨rfl, hb6⟩
  have B6 := hide (next (B5.out) hb6)
  go_wp2_with fail
  refine (is2 3 ⟨1, (-9223372036854775808), no⟩ ⟨1, -1, no⟩ ⟨1, 0, no⟩ HM.out _ (HT.out.keep (B6.out))).mono ?_
  rintro e w7 ⟨rfl, hb7⟩
  have B7 := hide (next (step (B6.out) _) hb7)
  go_wp2_with fail
  refine ((lnum_is (-9223372036854775808)).out _).mono ?_
  rintro e w8 ⟨rfl, hb8⟩
  have B8 := hide (next (B7.out) hb8)
  go_wp2_with fail
  refine ((lnum_is (-1)).out _).mono ?_
  rintro e w9 ⟨rfl, hb9⟩
  have B9 := hide (next (B8.out) hb9)
  go_wp2_with fail
  refine (HD.out _).mono ?_
  rintro e w10 ⟨rfl, hb10⟩
  have B10 := hide (next (B9.out) hb10)
  go_upto_region 4 with fail
  have cq : Hid (O3 (((w10.alloc (vO 4 2 no)).alloc (vO 1 0 no)).alloc (vO 4 2 no)) (w10.heap.size) (.int .i64 4) (.int .i64 2) (.string no)) := hide (by have h0 := (((O3.new w10 (.int .i64 4) (.int .i64 2) (.string no) 26).alloc (vO 1 0 no)).alloc (vO 4 2 no)); exact h0)
  have cm : Hid (O3 (((w10.alloc (vO 4 2 no)).alloc (vO 1 0 no)).alloc (vO 4 2 no)) (w10.heap.size + 1) (.int .i64 1) (.int .i64 0) (.string no)) := hide (by have h0 := ((O3.new (w10.alloc (vO 4 2 no)) (.int .i64 1) (.int .i64 0) (.string no) 26).alloc (vO 4 2 no)); simp only [World.size_alloc] at h0; exact h0)
  have cd : Hid (O3 (((w10.alloc (vO 4 2 no)).alloc (vO 1 0 no)).alloc (vO 4 2 no)) (w10.heap.size + 1 + 1) (.int .i64 4) (.int .i64 2) (.string no)) := hide (by have h0 := (O3.new ((w10.alloc (vO 4 2 no)).alloc (vO 1 0 no)) (.int .i64 4) (.int .i64 2) (.string no) 26); simp only [World.size_alloc] at h0; exact h0)
  obtain ⟨wz, hwz⟩ : ∃ wz, (((w10.alloc (vO 4 2 no)).alloc (vO 1 0 no)).alloc (vO 4 2 no)) = wz := ⟨_, rfl⟩
  have Bwz := hide (step (step (step (B10.out) (vO 4 2 no)) (vO 1 0 no)) (vO 4 2 no))
  rw [hwz] at Bwz cq cm cd ⊢
  clear hwz
  have hneq := va_neq 4 2 no
  have heq := va_eq1 4 2 no
  have heq2 := va_eq1 1 0 no
  have cqc1 := cq.out.1.1
  have cqc2 := cq.out.1.2.1
  have cqc3 := cq.out.1.2.2
  have cdc4 := cd.out.1.1
  have cdc5 := cd.out.1.2.1
  have cdc6 := cd.out.1.2.2
  have cmc7 := cm.out.1.1
  have cmc8 := cm.out.1.2.1
  have cmc9 := cm.out.1.2.2
  go_upto_region 11 with fail
  clear hneq cqc1 cqc2 cqc3 cdc4 cdc5 cdc6 cmc7 cmc8 cmc9
  have cqc10 := cell_regrown cq.out.1.1
  have cqc11 := cell_regrown cq.out.1.2.1
  have cqc12 := cell_regrown cq.out.1.2.2
  have cmc13 := cell_regrown cm.out.1.1
  have cmc14 := cell_regrown cm.out.1.2.1
  have cmc15 := cell_regrown cm.out.1.2.2
  have kq0 := fun d' os => Calls.regrown_of ((lbad_is 2).out (grow (redrawn wz d') os))
  have kq1 := fun d' os => Calls.regrown_of ((lnum_is 0).out (grow (redrawn wz d') os))
  refine wp_region_quiet_below (by kernel_rfl) (by kernel_rfl) ?_
  repeat (go_big_quiet_step (first | (with_reducible exact kq0 _ _) | (with_reducible exact kq1 _ _)))
  refine wpQuiet_nil ?_
  intro wq hwq
  have hbq : Below (wz).heap.size wz wq := by obtain ⟨⟨dq, osq⟩, hq⟩ := hwq; rw [hq]; exact below_regrown _ dq osq
  clear hwq cqc10 cqc11 cqc12 cmc13 cmc14 cmc15 kq0 kq1
  go_wp2_with fail
  go_ret
  exact ⟨rfl, next (Bwz.out) hbq⟩
end Go.Proofs.YtfhgljepnieigaaGreatDoor
