/- The law AreaOf returns true for every two places, whatever their numbers, and changes nothing that was there. -/
import Derived.Test.YtibogmlnbipbbaaAgree3
namespace Go.Proofs.Ytibogmlnbipbbaa
open Go.RowKit Go.Sort
set_option linter.unusedVariables false

set_option maxHeartbeats 2000000 in
set_option maxRecDepth 100000 in
theorem of_yes (a b c d p q u v : Int) (w : World) (HG : BegunIs) (HO : CallIs 17 #[spotV a b, spotV c d] (areaV p q u v)) (HP : CallIs 17 #[spotV c d, spotV a b] (areaV p q u v)) (HQ : CallIs 17 #[spotV p v, spotV u q] (areaV p q u v)) (HM : MayIs p q u v 0) (H1 : CallIs 18 #[spotV a b] (.bool true)) (H2 : CallIs 18 #[spotV c d] (.bool true)) (H3 : CallIs 14 #[areaV p q u v, spotV a b] (.bool true)) (H4 : CallIs 14 #[areaV p q u v, spotV c d] (.bool true)) :
    Calls Try.prog 7 #[spotV a b, spotV c d] w fun e w' => e = .returned (.bool true) ∧ Below w.heap.size w w' := by
  go_enter Try.func7, Try.ntmps7
  try simp only [List.append]
  go_wp2_with fail
  refine (HG.out _).mono ?_
  rintro e w1 ⟨rfl, hb1⟩
  have B1 := hide (next (step (step (Below.refl w.heap.size w) _) _) hb1)
  have cs := hide (((O2.new w (.int .i64 a) (.int .i64 b) 28).alloc _).keep hb1)
  have ct := hide ((O2.new (w.alloc (spotO a b)) (.int .i64 c) (.int .i64 d) 28).keep hb1)
  simp only [World.size_alloc] at ct
  have cs00 := cs.out.1.1
  have cs01 := cs.out.1.2
  have ct00 := ct.out.1.1
  have ct01 := ct.out.1.2
  go_wp2_with fail
  refine (HO.out _).mono ?_
  rintro e w2 ⟨rfl, hb2⟩
  clear cs00
  clear cs01
  clear ct00
  clear ct01
  have B2 := hide (next (B1.out) hb2)
  replace cs := hide (cs.out.keep hb2)
  replace ct := hide (ct.out.keep hb2)
  have ca := hide (O4.new w2 (.int .i64 p) (.int .i64 q) (.int .i64 u) (.int .i64 v) 26)
  replace cs := hide (cs.out.alloc (areaO p q u v))
  replace ct := hide (ct.out.alloc (areaO p q u v))
  have cam0 := cell_regrown ca.out.1.1
  have cam1 := cell_regrown ca.out.1.2.1
  have cam2 := cell_regrown ca.out.1.2.2.1
  have cam3 := cell_regrown ca.out.1.2.2.2
  have csm0 := cell_regrown cs.out.1.1
  have csm1 := cell_regrown cs.out.1.2
  have ctm0 := cell_regrown ct.out.1.1
  have ctm1 := cell_regrown ct.out.1.2
  have k1 := fun d' os => Calls.regrown_of (HP.out (grow (redrawn (w2.alloc (areaO p q u v)) d') os))
  have k2 := fun d' os => Calls.regrown_of (HQ.out (grow (redrawn (w2.alloc (areaO p q u v)) d') os))
  go_wp2_with fail
  refine wp_region_quiet_below (by kernel_rfl) (by kernel_rfl) ?_
  repeat (go_big_quiet_step (first | (with_reducible exact k1 _ _) | (with_reducible exact k2 _ _)))
  refine wpQuiet_nil ?_
  intro _ hw'
  obtain ⟨⟨dq1, osq1⟩, hw''⟩ := hw'
  subst hw''
  clear cam0 cam1 cam2 cam3 csm0 csm1 ctm0 ctm1 k1 k2
  replace ca := hide (ca.out.keep (below_regrown _ dq1 osq1))
  replace cs := hide (cs.out.keep (below_regrown _ dq1 osq1))
  replace ct := hide (ct.out.keep (below_regrown _ dq1 osq1))
  have B3 := hide (next (step B2.out (areaO p q u v)) (below_regrown _ dq1 osq1))
  obtain ⟨w3, hw3⟩ : ∃ w3, grow (redrawn (w2.alloc (areaO p q u v)) dq1) osq1 = w3 := ⟨_, rfl⟩
  rw [hw3] at ca cs ct B3 ⊢
  clear hw3
  have cam0 := cell_regrown ca.out.1.1
  have cam1 := cell_regrown ca.out.1.2.1
  have cam2 := cell_regrown ca.out.1.2.2.1
  have cam3 := cell_regrown ca.out.1.2.2.2
  have csm0 := cell_regrown cs.out.1.1
  have csm1 := cell_regrown cs.out.1.2
  have ctm0 := cell_regrown ct.out.1.1
  have ctm1 := cell_regrown ct.out.1.2
  have k1 := fun d' os => Calls.regrown_of (HM.out (grow (redrawn (w3) d') os))
  have k2 := fun d' os => Calls.regrown_of (H1.out (grow (redrawn (w3) d') os))
  have k3 := fun d' os => Calls.regrown_of (H2.out (grow (redrawn (w3) d') os))
  have k4 := fun d' os => Calls.regrown_of (H3.out (grow (redrawn (w3) d') os))
  have k5 := fun d' os => Calls.regrown_of (H4.out (grow (redrawn (w3) d') os))
  go_wp2_with fail
  refine wp_region_quiet_below (by kernel_rfl) (by kernel_rfl) ?_
  repeat (go_big_quiet_step (first | (with_reducible exact k1 _ _) | (with_reducible exact k2 _ _) | (with_reducible exact k3 _ _) | (with_reducible exact k4 _ _) | (with_reducible exact k5 _ _)))
  refine wpQuiet_nil ?_
  intro _ hw'
  obtain ⟨⟨dq2, osq2⟩, hw''⟩ := hw'
  subst hw''
  clear cam0 cam1 cam2 cam3 csm0 csm1 ctm0 ctm1 k1 k2 k3 k4 k5
  go_wp2_with fail
  go_ret
  exact ⟨rfl, next B3.out (below_regrown _ dq2 osq2)⟩
set_option maxHeartbeats 2000000 in
set_option maxRecDepth 100000 in
theorem of_one (a b c d p q u v : Int) (w : World) (HG : BegunIs) (HO : CallIs 17 #[spotV a b, spotV c d] (areaV p q u v)) (HP : CallIs 17 #[spotV c d, spotV a b] (areaV p q u v)) (HQ : CallIs 17 #[spotV p v, spotV u q] (areaV p q u v)) (HM : MayIs p q u v 11) (H1 : CallIs 18 #[spotV a b] (.bool true)) (H2 : CallIs 18 #[spotV c d] (.bool false)) :
    Calls Try.prog 7 #[spotV a b, spotV c d] w fun e w' => e = .returned (.bool true) ∧ Below w.heap.size w w' := by
  go_enter Try.func7, Try.ntmps7
  try simp only [List.append]
  go_wp2_with fail
  refine (HG.out _).mono ?_
  rintro e w1 ⟨rfl, hb1⟩
  have B1 := hide (next (step (step (Below.refl w.heap.size w) _) _) hb1)
  have cs := hide (((O2.new w (.int .i64 a) (.int .i64 b) 28).alloc _).keep hb1)
  have ct := hide ((O2.new (w.alloc (spotO a b)) (.int .i64 c) (.int .i64 d) 28).keep hb1)
  simp only [World.size_alloc] at ct
  have cs00 := cs.out.1.1
  have cs01 := cs.out.1.2
  have ct00 := ct.out.1.1
  have ct01 := ct.out.1.2
  go_wp2_with fail
  refine (HO.out _).mono ?_
  rintro e w2 ⟨rfl, hb2⟩
  clear cs00
  clear cs01
  clear ct00
  clear ct01
  have B2 := hide (next (B1.out) hb2)
  replace cs := hide (cs.out.keep hb2)
  replace ct := hide (ct.out.keep hb2)
  have ca := hide (O4.new w2 (.int .i64 p) (.int .i64 q) (.int .i64 u) (.int .i64 v) 26)
  replace cs := hide (cs.out.alloc (areaO p q u v))
  replace ct := hide (ct.out.alloc (areaO p q u v))
  have cam0 := cell_regrown ca.out.1.1
  have cam1 := cell_regrown ca.out.1.2.1
  have cam2 := cell_regrown ca.out.1.2.2.1
  have cam3 := cell_regrown ca.out.1.2.2.2
  have csm0 := cell_regrown cs.out.1.1
  have csm1 := cell_regrown cs.out.1.2
  have ctm0 := cell_regrown ct.out.1.1
  have ctm1 := cell_regrown ct.out.1.2
  have k1 := fun d' os => Calls.regrown_of (HP.out (grow (redrawn (w2.alloc (areaO p q u v)) d') os))
  have k2 := fun d' os => Calls.regrown_of (HQ.out (grow (redrawn (w2.alloc (areaO p q u v)) d') os))
  go_wp2_with fail
  refine wp_region_quiet_below (by kernel_rfl) (by kernel_rfl) ?_
  repeat (go_big_quiet_step (first | (with_reducible exact k1 _ _) | (with_reducible exact k2 _ _)))
  refine wpQuiet_nil ?_
  intro _ hw'
  obtain ⟨⟨dq1, osq1⟩, hw''⟩ := hw'
  subst hw''
  clear cam0 cam1 cam2 cam3 csm0 csm1 ctm0 ctm1 k1 k2
  replace ca := hide (ca.out.keep (below_regrown _ dq1 osq1))
  replace cs := hide (cs.out.keep (below_regrown _ dq1 osq1))
  replace ct := hide (ct.out.keep (below_regrown _ dq1 osq1))
  have B3 := hide (next (step B2.out (areaO p q u v)) (below_regrown _ dq1 osq1))
  obtain ⟨w3, hw3⟩ : ∃ w3, grow (redrawn (w2.alloc (areaO p q u v)) dq1) osq1 = w3 := ⟨_, rfl⟩
  rw [hw3] at ca cs ct B3 ⊢
  clear hw3
  have cam0 := cell_regrown ca.out.1.1
  have cam1 := cell_regrown ca.out.1.2.1
  have cam2 := cell_regrown ca.out.1.2.2.1
  have cam3 := cell_regrown ca.out.1.2.2.2
  have csm0 := cell_regrown cs.out.1.1
  have csm1 := cell_regrown cs.out.1.2
  have ctm0 := cell_regrown ct.out.1.1
  have ctm1 := cell_regrown ct.out.1.2
  have k1 := fun d' os => Calls.regrown_of (HM.out (grow (redrawn (w3) d') os))
  have k2 := fun d' os => Calls.regrown_of (H1.out (grow (redrawn (w3) d') os))
  have k3 := fun d' os => Calls.regrown_of (H2.out (grow (redrawn (w3) d') os))
  go_wp2_with fail
  refine wp_region_quiet_below (by kernel_rfl) (by kernel_rfl) ?_
  repeat (go_big_quiet_step (first | (with_reducible exact k1 _ _) | (with_reducible exact k2 _ _) | (with_reducible exact k3 _ _)))
  refine wpQuiet_nil ?_
  intro _ hw'
  obtain ⟨⟨dq2, osq2⟩, hw''⟩ := hw'
  subst hw''
  clear cam0 cam1 cam2 cam3 csm0 csm1 ctm0 ctm1 k1 k2 k3
  go_wp2_with fail
  go_ret
  exact ⟨rfl, next B3.out (below_regrown _ dq2 osq2)⟩
set_option maxHeartbeats 2000000 in
set_option maxRecDepth 100000 in
theorem of_no (a b c d p q u v : Int) (w : World) (HG : BegunIs) (HO : CallIs 17 #[spotV a b, spotV c d] (areaV p q u v)) (HP : CallIs 17 #[spotV c d, spotV a b] (areaV p q u v)) (HQ : CallIs 17 #[spotV p v, spotV u q] (areaV p q u v)) (HM : MayIs p q u v 11) (H1 : CallIs 18 #[spotV a b] (.bool false)) :
    Calls Try.prog 7 #[spotV a b, spotV c d] w fun e w' => e = .returned (.bool true) ∧ Below w.heap.size w w' := by
  go_enter Try.func7, Try.ntmps7
  try simp only [List.append]
  go_wp2_with fail
  refine (HG.out _).mono ?_
  rintro e w1 ⟨rfl, hb1⟩
  have B1 := hide (next (step (step (Below.refl w.heap.size w) _) _) hb1)
  have cs := hide (((O2.new w (.int .i64 a) (.int .i64 b) 28).alloc _).keep hb1)
  have ct := hide ((O2.new (w.alloc (spotO a b)) (.int .i64 c) (.int .i64 d) 28).keep hb1)
  simp only [World.size_alloc] at ct
  have cs00 := cs.out.1.1
  have cs01 := cs.out.1.2
  have ct00 := ct.out.1.1
  have ct01 := ct.out.1.2
  go_wp2_with fail
  refine (HO.out _).mono ?_
  rintro e w2 ⟨rfl, hb2⟩
  clear cs00
  clear cs01
  clear ct00
  clear ct01
  have B2 := hide (next (B1.out) hb2)
  replace cs := hide (cs.out.keep hb2)
  replace ct := hide (ct.out.keep hb2)
  have ca := hide (O4.new w2 (.int .i64 p) (.int .i64 q) (.int .i64 u) (.int .i64 v) 26)
  replace cs := hide (cs.out.alloc (areaO p q u v))
  replace ct := hide (ct.out.alloc (areaO p q u v))
  have cam0 := cell_regrown ca.out.1.1
  have cam1 := cell_regrown ca.out.1.2.1
  have cam2 := cell_regrown ca.out.1.2.2.1
  have cam3 := cell_regrown ca.out.1.2.2.2
  have csm0 := cell_regrown cs.out.1.1
  have csm1 := cell_regrown cs.out.1.2
  have ctm0 := cell_regrown ct.out.1.1
  have ctm1 := cell_regrown ct.out.1.2
  have k1 := fun d' os => Calls.regrown_of (HP.out (grow (redrawn (w2.alloc (areaO p q u v)) d') os))
  have k2 := fun d' os => Calls.regrown_of (HQ.out (grow (redrawn (w2.alloc (areaO p q u v)) d') os))
  go_wp2_with fail
  refine wp_region_quiet_below (by kernel_rfl) (by kernel_rfl) ?_
  repeat (go_big_quiet_step (first | (with_reducible exact k1 _ _) | (with_reducible exact k2 _ _)))
  refine wpQuiet_nil ?_
  intro _ hw'
  obtain ⟨⟨dq1, osq1⟩, hw''⟩ := hw'
  subst hw''
  clear cam0 cam1 cam2 cam3 csm0 csm1 ctm0 ctm1 k1 k2
  replace ca := hide (ca.out.keep (below_regrown _ dq1 osq1))
  replace cs := hide (cs.out.keep (below_regrown _ dq1 osq1))
  replace ct := hide (ct.out.keep (below_regrown _ dq1 osq1))
  have B3 := hide (next (step B2.out (areaO p q u v)) (below_regrown _ dq1 osq1))
  obtain ⟨w3, hw3⟩ : ∃ w3, grow (redrawn (w2.alloc (areaO p q u v)) dq1) osq1 = w3 := ⟨_, rfl⟩
  rw [hw3] at ca cs ct B3 ⊢
  clear hw3
  have cam0 := cell_regrown ca.out.1.1
  have cam1 := cell_regrown ca.out.1.2.1
  have cam2 := cell_regrown ca.out.1.2.2.1
  have cam3 := cell_regrown ca.out.1.2.2.2
  have csm0 := cell_regrown cs.out.1.1
  have csm1 := cell_regrown cs.out.1.2
  have ctm0 := cell_regrown ct.out.1.1
  have ctm1 := cell_regrown ct.out.1.2
  have k1 := fun d' os => Calls.regrown_of (HM.out (grow (redrawn (w3) d') os))
  have k2 := fun d' os => Calls.regrown_of (H1.out (grow (redrawn (w3) d') os))
  go_wp2_with fail
  refine wp_region_quiet_below (by kernel_rfl) (by kernel_rfl) ?_
  repeat (go_big_quiet_step (first | (with_reducible exact k1 _ _) | (with_reducible exact k2 _ _)))
  refine wpQuiet_nil ?_
  intro _ hw'
  obtain ⟨⟨dq2, osq2⟩, hw''⟩ := hw'
  subst hw''
  clear cam0 cam1 cam2 cam3 csm0 csm1 ctm0 ctm1 k1 k2
  go_wp2_with fail
  go_ret
  exact ⟨rfl, next B3.out (below_regrown _ dq2 osq2)⟩
theorem ofIs (a b c d p q u v : Int) (h1 : min a c = p) (h2 : min b d = q) (h3 : max a c = u) (h4 : max b d = v) : CallIs 17 #[spotV a b, spotV c d] (areaV p q u v) := by
  subst h1 h2 h3 h4
  exact hide (aof_any a b c d)
theorem inIs (r c : Int) {v : Bool} (h : mayB r c = v) : CallIs 18 #[spotV r c] (.bool v) := by
  subst h
  exact hide fun w => (in_any r c w).mono fun e w' ⟨he, hw⟩ => ⟨he, hw ▸ (Below.refl _ _).alloc (Nat.le_refl _) _⟩
theorem hasIs (t l b r x y : Int) {v : Bool} (h : hasB t l b r x y = v) : CallIs 14 #[areaV t l b r, spotV x y] (.bool v) := by
  have := ahas_any t l b r x y
  rw [h] at this
  exact hide this
theorem areaOf_walk (a b c d : Int) (w : World) :
    Calls Try.prog 7 #[spotV a b, spotV c d] w fun e w' => e = .returned (.bool true) ∧ Below w.heap.size w w' := by
  have HO := ofIs a b c d _ _ _ _ rfl rfl rfl rfl
  have HP := ofIs c d a b (min a c) (min b d) (max a c) (max b d) (by omega) (by omega) (by omega) (by omega)
  have HQ := ofIs (min a c) (max b d) (max a c) (min b d) (min a c) (min b d) (max a c) (max b d) (by omega) (by omega) (by omega) (by omega)
  by_cases h1 : 0 ≤ a ∧ a < 65536 ∧ 0 ≤ b ∧ b < 702
  · by_cases h2 : 0 ≤ c ∧ c < 65536 ∧ 0 ≤ d ∧ d < 702
    · have k : okA (min a c) (min b d) (max a c) (max b d) = true := okA_iff.2 (by omega)
      exact of_yes a b c d _ _ _ _ w begunIs HO HP HQ (mayIs_ok (okA_iff.1 k)) (inIs a b (mayB_yes h1)) (inIs c d (mayB_yes h2)) (hasIs _ _ _ _ _ _ (hasB_yes k (by omega))) (hasIs _ _ _ _ _ _ (hasB_yes k (by omega)))
    · exact of_one a b c d _ _ _ _ w begunIs HO HP HQ (mayIs_no (by omega)) (inIs a b (mayB_yes h1)) (inIs c d (mayB_no h2))
  · exact of_no a b c d _ _ _ _ w begunIs HO HP HQ (mayIs_no (by omega)) (inIs a b (mayB_no h1))
end Go.Proofs.Ytibogmlnbipbbaa
