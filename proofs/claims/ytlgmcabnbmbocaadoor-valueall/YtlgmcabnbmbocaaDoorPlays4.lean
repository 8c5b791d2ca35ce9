/- The law's single call, of every kind, answers true: package value and the reference answer alike. -/
import Derived.Test.YtlgmcabnbmbocaaDoorBegun4
namespace Go.Proofs.YtlgmcabnbmbocaaDoor
open Go.RowKit Go.Sort
set_option linter.unusedVariables false

abbrev opV (k a0 a1 : Int) (a2 : ByteArray) (b0 b1 : Int) (b2 s : ByteArray) : Value := .agg #[.int .i64 k, .int .i64 a0, .int .i64 a1, .string a2, .int .i64 b0, .int .i64 b1, .string b2, .string s]
abbrev opO (k a0 a1 : Int) (a2 : ByteArray) (b0 b1 : Int) (b2 s : ByteArray) : Obj := .cells #[.int .i64 k, .int .i64 a0, .int .i64 a1, .string a2, .int .i64 b0, .int .i64 b1, .string b2, .string s] 28
theorem cells8 (w : World) (k a0 a1 : Int) (a2 : ByteArray) (b0 b1 : Int) (b2 s : ByteArray) : (w.alloc (opO k a0 a1 a2 b0 b1 b2 s)).cell? ⟨w.heap.size, 1, none⟩ = some (.int .i64 a0) ∧ (w.alloc (opO k a0 a1 a2 b0 b1 b2 s)).cell? ⟨w.heap.size, 2, none⟩ = some (.int .i64 a1) ∧ (w.alloc (opO k a0 a1 a2 b0 b1 b2 s)).cell? ⟨w.heap.size, 3, none⟩ = some (.string a2) ∧ (w.alloc (opO k a0 a1 a2 b0 b1 b2 s)).cell? ⟨w.heap.size, 4, none⟩ = some (.int .i64 b0) ∧ (w.alloc (opO k a0 a1 a2 b0 b1 b2 s)).cell? ⟨w.heap.size, 5, none⟩ = some (.int .i64 b1) ∧ (w.alloc (opO k a0 a1 a2 b0 b1 b2 s)).cell? ⟨w.heap.size, 6, none⟩ = some (.string b2) ∧ (w.alloc (opO k a0 a1 a2 b0 b1 b2 s)).cell? ⟨w.heap.size, 7, none⟩ = some (.string s) := by
  refine ⟨?_, ?_, ?_, ?_, ?_, ?_, ?_⟩ <;> go_simp
set_option maxHeartbeats 4000000 in
set_option maxRecDepth 100000 in
theorem plays_other (k : Int) (a0 a1 : Int) (a2 : ByteArray) (b0 b1 : Int) (b2 s : ByteArray) (h1 : (k == 1) = false) (h2 : (k == 2) = false) (h3 : (k == 3) = false) (h4 : (k == 4) = false) (h5 : (k == 5) = false) (h6 : (k == 6) = false) (h7 : (k == 7) = false) (h8 : (k == 8) = false) : CallIs 8 #[opV k a0 a1 a2 b0 b1 b2 s] (.bool true) := by
  intro w
  go_enter Tryd.func8, Tryd.ntmps8
  try simp only [List.append]
  go_wp2_with fail
  go_ret
  exact ⟨rfl, by go_grown⟩
set_option maxHeartbeats 4000000 in
set_option maxRecDepth 100000 in
theorem plays_1 (a0 a1 : Int) (a2 : ByteArray) (b0 b1 : Int) (b2 s : ByteArray) (v : Bool) (H1 : CallIs 10 #[vV a0 a1 a2] (.bool v)) (H2 : CallIs 17 #[vV a0 a1 a2] (.bool v)) : CallIs 8 #[opV 1 a0 a1 a2 b0 b1 b2 s] (.bool true) := by
  intro w
  obtain ⟨c1, c2, c3, c4, c5, c6, c7⟩ := cells8 w 1 a0 a1 a2 b0 b1 b2 s
  have m1 := cell_regrown c1
  have m2 := cell_regrown c2
  have m3 := cell_regrown c3
  clear c1 c2 c3 c4 c5 c6 c7
  have k1 := fun d' os => Calls.regrown_of (H1.out (grow (redrawn (w.alloc (opO 1 a0 a1 a2 b0 b1 b2 s)) d') os))
  have k2 := fun d' os => Calls.regrown_of (H2.out (grow (redrawn (w.alloc (opO 1 a0 a1 a2 b0 b1 b2 s)) d') os))
  go_enter Tryd.func8, Tryd.ntmps8
  try simp only [List.append]
  go_wp2_with fail
  refine wp_region_quiet_below (by kernel_rfl) (by kernel_rfl) ?_
  repeat (go_big_quiet_step (first | (with_reducible exact k1 _ _) | (with_reducible exact k2 _ _)))
  refine wpQuiet_nil ?_
  intro _ hw'
  obtain ⟨⟨dq, osq⟩, hw''⟩ := hw'
  subst hw''
  go_wp2_with fail
  go_ret
  exact ⟨rfl, next (step (Below.refl w.heap.size w) _) (below_regrown _ dq osq)⟩
set_option maxHeartbeats 4000000 in
set_option maxRecDepth 100000 in
theorem plays_2 (a0 a1 : Int) (a2 : ByteArray) (b0 b1 : Int) (b2 s : ByteArray) (v : Bool) (H1 : CallIs 16 #[vV a0 a1 a2, vV b0 b1 b2] (.bool v)) (H2 : CallIs 18 #[vV a0 a1 a2, vV b0 b1 b2] (.bool v)) : CallIs 8 #[opV 2 a0 a1 a2 b0 b1 b2 s] (.bool true) := by
  intro w
  obtain ⟨c1, c2, c3, c4, c5, c6, c7⟩ := cells8 w 2 a0 a1 a2 b0 b1 b2 s
  have m1 := cell_regrown c1
  have m2 := cell_regrown c2
  have m3 := cell_regrown c3
  have m4 := cell_regrown c4
  have m5 := cell_regrown c5
  have m6 := cell_regrown c6
  clear c1 c2 c3 c4 c5 c6 c7
  have k1 := fun d' os => Calls.regrown_of (H1.out (grow (redrawn (w.alloc (opO 2 a0 a1 a2 b0 b1 b2 s)) d') os))
  have k2 := fun d' os => Calls.regrown_of (H2.out (grow (redrawn (w.alloc (opO 2 a0 a1 a2 b0 b1 b2 s)) d') os))
  go_enter Tryd.func8, Tryd.ntmps8
  try simp only [List.append]
  go_wp2_with fail
  refine wp_region_quiet_below (by kernel_rfl) (by kernel_rfl) ?_
  repeat (go_big_quiet_step (first | (with_reducible exact k1 _ _) | (with_reducible exact k2 _ _)))
  refine wpQuiet_nil ?_
  intro _ hw'
  obtain ⟨⟨dq, osq⟩, hw''⟩ := hw'
  subst hw''
  go_wp2_with fail
  go_ret
  exact ⟨rfl, next (step (Below.refl w.heap.size w) _) (below_regrown _ dq osq)⟩
set_option maxHeartbeats 4000000 in
set_option maxRecDepth 100000 in
theorem plays_6 (a0 a1 : Int) (a2 : ByteArray) (b0 b1 : Int) (b2 s : ByteArray) (v : Int) (H1 : CallIs 15 #[vV a0 a1 a2, vV b0 b1 b2] (.int .i64 v)) (H2 : CallIs 22 #[vV a0 a1 a2, vV b0 b1 b2] (.int .i64 v)) : CallIs 8 #[opV 6 a0 a1 a2 b0 b1 b2 s] (.bool true) := by
  intro w
  obtain ⟨c1, c2, c3, c4, c5, c6, c7⟩ := cells8 w 6 a0 a1 a2 b0 b1 b2 s
  have m1 := cell_regrown c1
  have m2 := cell_regrown c2
  have m3 := cell_regrown c3
  have m4 := cell_regrown c4
  have m5 := cell_regrown c5
  have m6 := cell_regrown c6
  clear c1 c2 c3 c4 c5 c6 c7
  have k1 := fun d' os => Calls.regrown_of (H1.out (grow (redrawn (w.alloc (opO 6 a0 a1 a2 b0 b1 b2 s)) d') os))
  have k2 := fun d' os => Calls.regrown_of (H2.out (grow (redrawn (w.alloc (opO 6 a0 a1 a2 b0 b1 b2 s)) d') os))
  go_enter Tryd.func8, Tryd.ntmps8
  try simp only [List.append]
  go_wp2_with fail
  refine wp_region_quiet_below (by kernel_rfl) (by kernel_rfl) ?_
  repeat (go_big_quiet_step (first | (with_reducible exact k1 _ _) | (with_reducible exact k2 _ _)))
  refine wpQuiet_nil ?_
  intro _ hw'
  obtain ⟨⟨dq, osq⟩, hw''⟩ := hw'
  subst hw''
  go_wp2_with fail
  go_ret
  exact ⟨rfl, next (step (Below.refl w.heap.size w) _) (below_regrown _ dq osq)⟩
set_option maxHeartbeats 4000000 in
set_option maxRecDepth 100000 in
theorem plays_7 (a0 a1 : Int) (a2 : ByteArray) (b0 b1 : Int) (b2 s : ByteArray) (v : ByteArray) (H1 : CallT 9 #[vV a0 a1 a2] (.string v)) (H2 : CallIs 23 #[vV a0 a1 a2] (.string v)) : CallT 8 #[opV 7 a0 a1 a2 b0 b1 b2 s] (.bool true) := by
  intro w ht
  have HT := hide ht
  clear ht
  obtain ⟨c1, c2, c3, c4, c5, c6, c7⟩ := cells8 w 7 a0 a1 a2 b0 b1 b2 s
  have m1 := cell_regrown c1
  have m2 := cell_regrown c2
  have m3 := cell_regrown c3
  clear c1 c2 c3 c4 c5 c6 c7
  have k1 := fun d' os => Calls.regrown_of (H1.out (grow (redrawn (w.alloc (opO 7 a0 a1 a2 b0 b1 b2 s)) d') os) (tab_below HT.out (next (step (Below.refl w.heap.size w) _) (below_regrown _ d' os))))
  have k2 := fun d' os => Calls.regrown_of (H2.out (grow (redrawn (w.alloc (opO 7 a0 a1 a2 b0 b1 b2 s)) d') os))
  go_enter Tryd.func8, Tryd.ntmps8
  try simp only [List.append]
  go_wp2_with fail
  refine wp_region_quiet_below (by kernel_rfl) (by kernel_rfl) ?_
  repeat (go_big_quiet_step (first | (with_reducible exact k1 _ _) | (with_reducible exact k2 _ _)))
  refine wpQuiet_nil ?_
  intro _ hw'
  obtain ⟨⟨dq, osq⟩, hw''⟩ := hw'
  subst hw''
  go_wp2_with fail
  go_ret
  exact ⟨rfl, next (step (Below.refl w.heap.size w) _) (below_regrown _ dq osq)⟩
set_option maxHeartbeats 4000000 in
set_option maxRecDepth 100000 in
theorem plays_3 (a0 a1 : Int) (a2 : ByteArray) (b0 b1 : Int) (b2 s : ByteArray) (n e : Int) (H1 : CallIs 13 #[vV a0 a1 a2] (iiV n e)) (H2 : CallIs 19 #[vV a0 a1 a2] (iiV n e)) : CallIs 8 #[opV 3 a0 a1 a2 b0 b1 b2 s] (.bool true) := by
  intro w
  obtain ⟨c1, c2, c3, c4, c5, c6, c7⟩ := cells8 w 3 a0 a1 a2 b0 b1 b2 s
  go_enter Tryd.func8, Tryd.ntmps8
  try simp only [List.append]
  go_wp2_with fail
  refine (H1.out _).mono ?_
  rintro e w1 ⟨rfl, hb1⟩
  have B1 := hide (next (step (Below.refl w.heap.size w) _) hb1)
  have d1 := keep1 hb1 c1
  have d2 := keep1 hb1 c2
  have d3 := keep1 hb1 c3
  clear c1 c2 c3 c4 c5 c6 c7
  go_wp2_with fail
  refine (H2.out _).mono ?_
  rintro e w2 ⟨rfl, hb2⟩
  clear d1 d2 d3
  go_wp2_with fail
  go_ret
  exact ⟨rfl, next B1.out hb2⟩
set_option maxHeartbeats 4000000 in
set_option maxRecDepth 100000 in
theorem plays_4 (a0 a1 : Int) (a2 : ByteArray) (b0 b1 : Int) (b2 s : ByteArray) (t : ByteArray) (e : Int) (H1 : CallT 11 #[vV a0 a1 a2] (siV t e)) (H2 : CallIs 20 #[vV a0 a1 a2] (siV t e)) : CallT 8 #[opV 4 a0 a1 a2 b0 b1 b2 s] (.bool true) := by
  intro w ht
  have HT := hide ht
  clear ht
  obtain ⟨c1, c2, c3, c4, c5, c6, c7⟩ := cells8 w 4 a0 a1 a2 b0 b1 b2 s
  go_enter Tryd.func8, Tryd.ntmps8
  try simp only [List.append]
  go_wp2_with fail
  refine (H1.out _ (tab_below HT.out (step (Below.refl w.heap.size w) _))).mono ?_
  rintro e w1 ⟨rfl, hb1⟩
  have B1 := hide (next (step (Below.refl w.heap.size w) _) hb1)
  have d1 := keep1 hb1 c1
  have d2 := keep1 hb1 c2
  have d3 := keep1 hb1 c3
  clear c1 c2 c3 c4 c5 c6 c7
  go_wp2_with fail
  refine (H2.out _).mono ?_
  rintro e w2 ⟨rfl, hb2⟩
  clear d1 d2 d3
  go_wp2_with fail
  go_ret
  exact ⟨rfl, next B1.out hb2⟩
set_option maxHeartbeats 4000000 in
set_option maxRecDepth 100000 in
theorem plays_5 (a0 a1 : Int) (a2 : ByteArray) (b0 b1 : Int) (b2 s : ByteArray) (b : Bool) (e : Int) (H1 : CallIs 14 #[vV a0 a1 a2] (biV b e)) (H2 : CallIs 21 #[vV a0 a1 a2] (biV b e)) : CallIs 8 #[opV 5 a0 a1 a2 b0 b1 b2 s] (.bool true) := by
  intro w
  obtain ⟨c1, c2, c3, c4, c5, c6, c7⟩ := cells8 w 5 a0 a1 a2 b0 b1 b2 s
  go_enter Tryd.func8, Tryd.ntmps8
  try simp only [List.append]
  go_wp2_with fail
  refine (H1.out _).mono ?_
  rintro e w1 ⟨rfl, hb1⟩
  have B1 := hide (next (step (Below.refl w.heap.size w) _) hb1)
  have d1 := keep1 hb1 c1
  have d2 := keep1 hb1 c2
  have d3 := keep1 hb1 c3
  clear c1 c2 c3 c4 c5 c6 c7
  go_wp2_with fail
  refine (H2.out _).mono ?_
  rintro e w2 ⟨rfl, hb2⟩
  clear d1 d2 d3
  go_wp2_with fail
  go_ret
  exact ⟨rfl, next B1.out hb2⟩
set_option maxHeartbeats 4000000 in
set_option maxRecDepth 100000 in
theorem plays_8 (a0 a1 : Int) (a2 : ByteArray) (b0 b1 : Int) (b2 s : ByteArray) (k i : Int) (t : ByteArray) (b : Bool) (H1 : CallIs 12 #[.string s] (vbV k i t b)) (H2 : CallIs 24 #[.string s] (vbV k i t b)) : CallIs 8 #[opV 8 a0 a1 a2 b0 b1 b2 s] (.bool true) := by
  intro w
  obtain ⟨c1, c2, c3, c4, c5, c6, c7⟩ := cells8 w 8 a0 a1 a2 b0 b1 b2 s
  go_enter Tryd.func8, Tryd.ntmps8
  try simp only [List.append]
  go_wp2_with fail
  refine (H1.out _).mono ?_
  rintro e w1 ⟨rfl, hb1⟩
  have B1 := hide (next (step (Below.refl w.heap.size w) _) hb1)
  have d7 := fun o => keep1 ((Below.refl _ _).alloc (Nat.le_refl _) o) (keep1 hb1 c7)
  clear c1 c2 c3 c4 c5 c6 c7
  go_wp2_with fail
  refine (H2.out _).mono ?_
  rintro e w2 ⟨rfl, hb2⟩
  clear d7
  have B2 := hide (next (step B1.out _) hb2)
  have cv := (O3.new w1 (.int .i64 k) (.int .i64 i) (.string t) 26).keep hb2
  have v0 := fun o => (cv.alloc o).1.1
  have v1 := fun o => (cv.alloc o).1.2.1
  have v2 := fun o => (cv.alloc o).1.2.2
  clear cv
  go_wp2_with fail
  go_ret
  exact ⟨rfl, step B2.out _⟩
theorem same_both (k i : Int) (t : ByteArray) (k' i' : Int) (t' : ByteArray) : ∃ v, CallIs 16 #[vV k i t, vV k' i' t'] (.bool v) ∧ CallIs 18 #[vV k i t, vV k' i' t'] (.bool v) := by
  by_cases hk : k = k'
  · subst hk
    by_cases hi : i = i'
    · subst hi
      by_cases ht : t = t'
      · subst ht; exact ⟨_, vsame_yes k i t, rsame_yes k i t⟩
      · exact ⟨_, vsame_t (tl_ne ht), rsame_t (tl_ne ht)⟩
    · exact ⟨_, vsame_i (beq_eq_false_iff_ne.2 hi), rsame_i (beq_eq_false_iff_ne.2 hi)⟩
  · exact ⟨_, vsame_k (beq_eq_false_iff_ne.2 hk), rsame_k (beq_eq_false_iff_ne.2 hk)⟩
theorem num_both (k i : Int) (t : ByteArray) : ∃ n e, CallIs 13 #[vV k i t] (iiV n e) ∧ CallIs 19 #[vV k i t] (iiV n e) := by
  obtain ⟨k', i', t', g, S1, S2, _⟩ := taken k i t
  rcases g with ⟨rfl, rfl, rfl⟩ | ⟨rfl, rfl⟩ | ⟨rfl, h, rfl⟩ | ⟨rfl, rfl, ht⟩ | ⟨rfl, he, rfl⟩
  · exact ⟨_, _, vnum_plain 0 0 no rfl rfl S1, rnum_plain 0 0 no rfl rfl S2⟩
  · exact ⟨_, _, vnum_plain 1 i' no rfl rfl S1, rnum_plain 1 i' no rfl rfl S2⟩
  · exact ⟨_, _, vnum_plain 2 i' no rfl rfl S1, rnum_plain 2 i' no rfl rfl S2⟩
  · obtain ⟨n, x, R1, R2⟩ := read_agree t' (text_max ht)
    by_cases hx : x = 0
    · subst hx
      exact ⟨_, _, vnum_text t' n S1 R1, rnum_text t' n S2 R2⟩
    · exact ⟨_, _, vnum_bad t' n x (ne0 hx) S1 R1, rnum_bad t' n x (ne0 hx) S2 R2⟩
  · exact ⟨_, _, vnum_err i' S1, rnum_err i' S2⟩
theorem tru_both (k i : Int) (t : ByteArray) : ∃ b e, CallIs 14 #[vV k i t] (biV b e) ∧ CallIs 21 #[vV k i t] (biV b e) := by
  obtain ⟨k', i', t', g, S1, S2, _⟩ := taken k i t
  rcases g with ⟨rfl, rfl, rfl⟩ | ⟨rfl, rfl⟩ | ⟨rfl, rfl | rfl, rfl⟩ | ⟨rfl, rfl, ht⟩ | ⟨rfl, he, rfl⟩
  · exact ⟨_, _, vtru_false 0 0 no rfl rfl rfl S1, rtru_false 0 0 no rfl rfl rfl S2⟩
  · by_cases h : i' = 0
    · subst h; exact ⟨_, _, vtru_false 1 0 no rfl rfl rfl S1, rtru_false 1 0 no rfl rfl rfl S2⟩
    · exact ⟨_, _, vtru_true 1 i' no rfl rfl (ne0 h) S1, rtru_true 1 i' no rfl rfl (ne0 h) S2⟩
  · exact ⟨_, _, vtru_false 2 0 no rfl rfl rfl S1, rtru_false 2 0 no rfl rfl rfl S2⟩
  · exact ⟨_, _, vtru_true 2 1 no rfl rfl rfl S1, rtru_true 2 1 no rfl rfl rfl S2⟩
  · cases hT : (t'.toList == [84, 82, 85, 69])
    · cases hF : (t'.toList == [70, 65, 76, 83, 69])
      · exact ⟨_, _, vtru_bad t' hT hF S1, rtru_bad t' hT hF S2⟩
      · obtain rfl := eq_of_tl hF
        exact ⟨_, _, vtru_F S1, rtru_F S2⟩
    · obtain rfl := eq_of_tl hT
      exact ⟨_, _, vtru_T S1, rtru_T S2⟩
  · exact ⟨_, _, vtru_err i' S1, rtru_err i' S2⟩
/-- As a text: an error, or a text; with what is taken for it. -/
theorem txt_both (k i : Int) (t : ByteArray) (h0 : lo ≤ i) (h1 : i ≤ hi) : (∃ s, CallT 11 #[vV k i t] (siV s 0) ∧ CallIs 20 #[vV k i t] (siV s 0)) ∨ (∃ e, (1 ≤ e ∧ e ≤ 6) ∧ CallIs 11 #[vV k i t] (siV no e) ∧ CallIs 20 #[vV k i t] (siV no e)) := by
  obtain ⟨k', i', t', g, S1, S2, eg⟩ := taken k i t
  by_cases gg : Good k i t
  · obtain ⟨rfl, rfl, rfl⟩ := eg gg
    rcases g with ⟨rfl, rfl, rfl⟩ | ⟨rfl, rfl⟩ | ⟨rfl, rfl | rfl, rfl⟩ | ⟨rfl, rfl, ht⟩ | ⟨rfl, he, rfl⟩
    · exact .inl ⟨_, (vtxt_plain 0 0 no rfl rfl rfl S1).t, rtxt_plain 0 0 no rfl rfl rfl S2⟩
    · exact .inl ⟨_, vtxt_int i' _ S1 (text_is i' h0 h1), rtxt_int i' _ S2 (hide fun w => text_agree i' h0 h1 w)⟩
    · exact .inl ⟨_, (vtxt_no S1).t, rtxt_no S2⟩
    · exact .inl ⟨_, (vtxt_yes S1).t, rtxt_yes S2⟩
    · exact .inl ⟨_, (vtxt_plain 3 0 t' rfl rfl rfl S1).t, rtxt_plain 3 0 t' rfl rfl rfl S2⟩
    · exact .inr ⟨_, he, vtxt_err i' S1, rtxt_err i' S2⟩
  · exact .inr ⟨4, by decide, vtxt_err 4 (sound_bad gg), rtxt_err 4 (fit_bad gg)⟩
theorem cmp_both (k i : Int) (t : ByteArray) (k' i' : Int) (t' : ByteArray) : ∃ v, CallIs 15 #[vV k i t, vV k' i' t'] (.int .i64 v) ∧ CallIs 22 #[vV k i t, vV k' i' t'] (.int .i64 v) := by
  obtain ⟨_, _, _, g1, S1, T1, _⟩ := taken k i t
  obtain ⟨_, _, _, g2, S2, T2, _⟩ := taken k' i' t'
  exact ⟨_, vcmp_good g1 g2 S1 S2, rcmp_good g1 g2 T1 T2⟩
theorem not_cycle {k i : Int} {t : ByteArray} (h : ¬ (k = 4 ∧ i = 7 ∧ t = no)) : CallIs 16 #[vV k i t, vV 4 7 no] (.bool false) := by
  by_cases hk : k = 4
  · subst hk
    by_cases hi : i = 7
    · subst hi
      exact vsame_t (tl_ne (fun e => h ⟨rfl, rfl, e⟩))
    · exact vsame_i (beq_eq_false_iff_ne.2 hi)
  · exact vsame_k (beq_eq_false_iff_ne.2 hk)
theorem show_both (k i : Int) (t : ByteArray) (h0 : lo ≤ i) (h1 : i ≤ hi) : ∃ s, CallT 9 #[vV k i t] (.string s) ∧ CallIs 23 #[vV k i t] (.string s) := by
  by_cases hc : k = 4 ∧ i = 7 ∧ t = no
  · obtain ⟨rfl, rfl, rfl⟩ := hc
    exact ⟨_, (vshow_cycle 4 7 no (vsame_yes 4 7 no) etext7).t, rshow_cycle⟩
  have HC := not_cycle hc
  rcases txt_both k i t h0 h1 with ⟨s, X1, X2⟩ | ⟨e, he, X1, X2⟩
  · refine ⟨s, vshow_txt _ _ _ _ HC X1, ?_⟩
    by_cases hk : k = 4
    · subst hk
      by_cases hi : i = 7
      · subst hi
        exact rshow_txt_t t s (fun e => hc ⟨rfl, rfl, e⟩) X2
      · exact rshow_txt_i i t s (beq_eq_false_iff_ne.2 hi) X2
    · exact rshow_txt_k k i t s (beq_eq_false_iff_ne.2 hk) X2
  · by_cases hk : k = 4
    · subst hk
      by_cases hi : i = 7
      · subst hi
        have g : ¬ Good 4 7 t := fun g => by rcases g with g | g | g | g | g <;> omega
        exact ⟨_, (vshow_err _ _ _ _ _ _ (show ((4 : Int) != 0) = true from rfl) HC (vtxt_err 4 (sound_bad g)) etext4).t, rshow_e4_t t no (fun e => hc ⟨rfl, rfl, e⟩) (rtxt_err 4 (fit_bad g))⟩
      · have q := beq_eq_false_iff_ne.2 hi
        obtain rfl | rfl | rfl | rfl | rfl | rfl : e = 1 ∨ e = 2 ∨ e = 3 ∨ e = 4 ∨ e = 5 ∨ e = 6 := by omega
        · exact ⟨_, (vshow_err _ _ _ _ _ _ (show ((1 : Int) != 0) = true from rfl) HC X1 etext1).t, rshow_e1_i i t no q X2⟩
        · exact ⟨_, (vshow_err _ _ _ _ _ _ (show ((2 : Int) != 0) = true from rfl) HC X1 etext2).t, rshow_e2_i i t no q X2⟩
        · exact ⟨_, (vshow_err _ _ _ _ _ _ (show ((3 : Int) != 0) = true from rfl) HC X1 etext3).t, rshow_e3_i i t no q X2⟩
        · exact ⟨_, (vshow_err _ _ _ _ _ _ (show ((4 : Int) != 0) = true from rfl) HC X1 etext4).t, rshow_e4_i i t no q X2⟩
        · exact ⟨_, (vshow_err _ _ _ _ _ _ (show ((5 : Int) != 0) = true from rfl) HC X1 etext5).t, rshow_e5_i i t no q X2⟩
        · exact ⟨_, (vshow_err _ _ _ _ _ _ (show ((6 : Int) != 0) = true from rfl) HC X1 etext6).t, rshow_e6_i i t no q X2⟩
    · have q := beq_eq_false_iff_ne.2 hk
      obtain rfl | rfl | rfl | rfl | rfl | rfl : e = 1 ∨ e = 2 ∨ e = 3 ∨ e = 4 ∨ e = 5 ∨ e = 6 := by omega
      · exact ⟨_, (vshow_err _ _ _ _ _ _ (show ((1 : Int) != 0) = true from rfl) HC X1 etext1).t, rshow_e1_k k i t no q X2⟩
      · exact ⟨_, (vshow_err _ _ _ _ _ _ (show ((2 : Int) != 0) = true from rfl) HC X1 etext2).t, rshow_e2_k k i t no q X2⟩
      · exact ⟨_, (vshow_err _ _ _ _ _ _ (show ((3 : Int) != 0) = true from rfl) HC X1 etext3).t, rshow_e3_k k i t no q X2⟩
      · exact ⟨_, (vshow_err _ _ _ _ _ _ (show ((4 : Int) != 0) = true from rfl) HC X1 etext4).t, rshow_e4_k k i t no q X2⟩
      · exact ⟨_, (vshow_err _ _ _ _ _ _ (show ((5 : Int) != 0) = true from rfl) HC X1 etext5).t, rshow_e5_k k i t no q X2⟩
      · exact ⟨_, (vshow_err _ _ _ _ _ _ (show ((6 : Int) != 0) = true from rfl) HC X1 etext6).t, rshow_e6_k k i t no q X2⟩
theorem plays_any (k : Int) (a0 a1 : Int) (a2 : ByteArray) (b0 b1 : Int) (b2 s : ByteArray) (h0 : lo ≤ a1) (h1 : a1 ≤ hi) (hs : s.size ≤ maxLen) : CallT 8 #[opV k a0 a1 a2 b0 b1 b2 s] (.bool true) := by
  by_cases q1 : k = 1
  · subst q1
    by_cases g : Good a0 a1 a2
    · exact (plays_1 _ _ _ _ _ _ _ _ (vmay_yes g) (rmay_yes g)).t
    · exact (plays_1 _ _ _ _ _ _ _ _ (vmay_no g) (rmay_no g)).t
  by_cases q2 : k = 2
  · subst q2
    obtain ⟨v, X1, X2⟩ := same_both a0 a1 a2 b0 b1 b2
    exact (plays_2 _ _ _ _ _ _ _ _ X1 X2).t
  by_cases q3 : k = 3
  · subst q3
    obtain ⟨n, e, X1, X2⟩ := num_both a0 a1 a2
    exact (plays_3 _ _ _ _ _ _ _ _ _ X1 X2).t
  by_cases q4 : k = 4
  · subst q4
    rcases txt_both a0 a1 a2 h0 h1 with ⟨t, X1, X2⟩ | ⟨e, _, X1, X2⟩
    · exact plays_4 _ _ _ _ _ _ _ _ _ X1 X2
    · exact plays_4 _ _ _ _ _ _ _ _ _ X1.t X2
  by_cases q5 : k = 5
  · subst q5
    obtain ⟨b, e, X1, X2⟩ := tru_both a0 a1 a2
    exact (plays_5 _ _ _ _ _ _ _ _ _ X1 X2).t
  by_cases q6 : k = 6
  · subst q6
    obtain ⟨v, X1, X2⟩ := cmp_both a0 a1 a2 b0 b1 b2
    exact (plays_6 _ _ _ _ _ _ _ _ X1 X2).t
  by_cases q7 : k = 7
  · subst q7
    obtain ⟨v, X1, X2⟩ := show_both a0 a1 a2 h0 h1
    exact plays_7 _ _ _ _ _ _ _ _ X1 X2
  by_cases q8 : k = 8
  · subst q8
    obtain ⟨k', i', t', b, X1, X2⟩ := lit_both s hs
    exact (plays_8 _ _ _ _ _ _ _ _ _ _ _ X1 X2).t
  exact (plays_other k _ _ _ _ _ _ _ (beq_eq_false_iff_ne.2 q1) (beq_eq_false_iff_ne.2 q2) (beq_eq_false_iff_ne.2 q3) (beq_eq_false_iff_ne.2 q4) (beq_eq_false_iff_ne.2 q5) (beq_eq_false_iff_ne.2 q6) (beq_eq_false_iff_ne.2 q7) (beq_eq_false_iff_ne.2 q8)).t
end Go.Proofs.YtlgmcabnbmbocaaDoor
