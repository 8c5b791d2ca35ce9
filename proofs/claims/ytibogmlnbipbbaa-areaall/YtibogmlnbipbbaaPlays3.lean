/- The law's single call, of every kind, answers true: package area and the reference answer alike. -/
import Derived.Test.YtibogmlnbipbbaaAgree3
namespace Go.Proofs.Ytibogmlnbipbbaa
open Go.RowKit Go.Sort
set_option linter.unusedVariables false

abbrev opV (k a0 a1 a2 a3 b0 b1 b2 b3 s0 s1 t0 t1 dr dc : Int) : Value := .agg #[.int .i64 k, .int .i64 a0, .int .i64 a1, .int .i64 a2, .int .i64 a3, .int .i64 b0, .int .i64 b1, .int .i64 b2, .int .i64 b3, .int .i64 s0, .int .i64 s1, .int .i64 t0, .int .i64 t1, .int .i64 dr, .int .i64 dc]
abbrev opO (k a0 a1 a2 a3 b0 b1 b2 b3 s0 s1 t0 t1 dr dc : Int) : Obj := .cells #[.int .i64 k, .int .i64 a0, .int .i64 a1, .int .i64 a2, .int .i64 a3, .int .i64 b0, .int .i64 b1, .int .i64 b2, .int .i64 b3, .int .i64 s0, .int .i64 s1, .int .i64 t0, .int .i64 t1, .int .i64 dr, .int .i64 dc] 30
theorem cells15 (w : World) (k a0 a1 a2 a3 b0 b1 b2 b3 s0 s1 t0 t1 dr dc : Int) :
    (w.alloc (opO k a0 a1 a2 a3 b0 b1 b2 b3 s0 s1 t0 t1 dr dc)).cell? ⟨w.heap.size, 1, none⟩ = some (.int .i64 a0) ∧ (w.alloc (opO k a0 a1 a2 a3 b0 b1 b2 b3 s0 s1 t0 t1 dr dc)).cell? ⟨w.heap.size, 2, none⟩ = some (.int .i64 a1) ∧ (w.alloc (opO k a0 a1 a2 a3 b0 b1 b2 b3 s0 s1 t0 t1 dr dc)).cell? ⟨w.heap.size, 3, none⟩ = some (.int .i64 a2) ∧ (w.alloc (opO k a0 a1 a2 a3 b0 b1 b2 b3 s0 s1 t0 t1 dr dc)).cell? ⟨w.heap.size, 4, none⟩ = some (.int .i64 a3) ∧ (w.alloc (opO k a0 a1 a2 a3 b0 b1 b2 b3 s0 s1 t0 t1 dr dc)).cell? ⟨w.heap.size, 5, none⟩ = some (.int .i64 b0) ∧ (w.alloc (opO k a0 a1 a2 a3 b0 b1 b2 b3 s0 s1 t0 t1 dr dc)).cell? ⟨w.heap.size, 6, none⟩ = some (.int .i64 b1) ∧ (w.alloc (opO k a0 a1 a2 a3 b0 b1 b2 b3 s0 s1 t0 t1 dr dc)).cell? ⟨w.heap.size, 7, none⟩ = some (.int .i64 b2) ∧ (w.alloc (opO k a0 a1 a2 a3 b0 b1 b2 b3 s0 s1 t0 t1 dr dc)).cell? ⟨w.heap.size, 8, none⟩ = some (.int .i64 b3) ∧ (w.alloc (opO k a0 a1 a2 a3 b0 b1 b2 b3 s0 s1 t0 t1 dr dc)).cell? ⟨w.heap.size, 9, none⟩ = some (.int .i64 s0) ∧ (w.alloc (opO k a0 a1 a2 a3 b0 b1 b2 b3 s0 s1 t0 t1 dr dc)).cell? ⟨w.heap.size, 10, none⟩ = some (.int .i64 s1) ∧ (w.alloc (opO k a0 a1 a2 a3 b0 b1 b2 b3 s0 s1 t0 t1 dr dc)).cell? ⟨w.heap.size, 11, none⟩ = some (.int .i64 t0) ∧ (w.alloc (opO k a0 a1 a2 a3 b0 b1 b2 b3 s0 s1 t0 t1 dr dc)).cell? ⟨w.heap.size, 12, none⟩ = some (.int .i64 t1) ∧ (w.alloc (opO k a0 a1 a2 a3 b0 b1 b2 b3 s0 s1 t0 t1 dr dc)).cell? ⟨w.heap.size, 13, none⟩ = some (.int .i64 dr) ∧ (w.alloc (opO k a0 a1 a2 a3 b0 b1 b2 b3 s0 s1 t0 t1 dr dc)).cell? ⟨w.heap.size, 14, none⟩ = some (.int .i64 dc) := by
  refine ⟨?_, ?_, ?_, ?_, ?_, ?_, ?_, ?_, ?_, ?_, ?_, ?_, ?_, ?_⟩ <;> go_simp
set_option maxHeartbeats 2000000 in
set_option maxRecDepth 100000 in
theorem plays_other (k a0 a1 a2 a3 b0 b1 b2 b3 s0 s1 t0 t1 dr dc : Int) (w : World) (h1 : (k == 1) = false) (h2 : (k == 2) = false) (h3 : (k == 3) = false) (h4 : (k == 4) = false) (h5 : (k == 5) = false) (h6 : (k == 6) = false) :
    Calls Try.prog 9 #[opV k a0 a1 a2 a3 b0 b1 b2 b3 s0 s1 t0 t1 dr dc] w fun e w' => e = .returned (.bool true) ∧ Below w.heap.size w w' := by
  go_enter Try.func9, Try.ntmps9
  try simp only [List.append]
  go_wp2_with fail
  go_ret
  exact ⟨rfl, by go_grown⟩
set_option maxHeartbeats 2000000 in
set_option maxRecDepth 100000 in
theorem plays_1 (a0 a1 a2 a3 b0 b1 b2 b3 s0 s1 t0 t1 dr dc e : Int) (w : World) (H1 : CallIs 15 #[areaV a0 a1 a2 a3] (.int .i64 e)) (H2 : CallIs 20 #[areaV a0 a1 a2 a3] (.int .i64 e)) :
    Calls Try.prog 9 #[opV 1 a0 a1 a2 a3 b0 b1 b2 b3 s0 s1 t0 t1 dr dc] w fun e w' => e = .returned (.bool true) ∧ Below w.heap.size w w' := by
  obtain ⟨c1, c2, c3, c4, c5, c6, c7, c8, c9, c10, c11, c12, c13, c14⟩ := cells15 w 1 a0 a1 a2 a3 b0 b1 b2 b3 s0 s1 t0 t1 dr dc
  have m1 := cell_regrown c1
  have m2 := cell_regrown c2
  have m3 := cell_regrown c3
  have m4 := cell_regrown c4
  clear c1 c2 c3 c4 c5 c6 c7 c8 c9 c10 c11 c12 c13 c14
  have k1 := fun d' os => Calls.regrown_of (H1.out (grow (redrawn (w.alloc (opO 1 a0 a1 a2 a3 b0 b1 b2 b3 s0 s1 t0 t1 dr dc)) d') os))
  have k2 := fun d' os => Calls.regrown_of (H2.out (grow (redrawn (w.alloc (opO 1 a0 a1 a2 a3 b0 b1 b2 b3 s0 s1 t0 t1 dr dc)) d') os))
  go_enter Try.func9, Try.ntmps9
  try simp only [List.append]
  go_wp2_with fail
  refine wp_region_quiet_below (by kernel_rfl) (by kernel_rfl) ?_
  repeat (go_big_quiet_step (first | (with_reducible exact k1 _ _) | (with_reducible exact k2 _ _)))
  refine wpQuiet_nil ?_
  intro _ hw'
  obtain ⟨⟨dq, osq⟩, hw''⟩ := hw'
  subst hw''
  go_wp2_with fail
  go_ret
  exact ⟨rfl, next (step (Below.refl w.heap.size w) _) (below_regrown _ dq osq)⟩
set_option maxHeartbeats 2000000 in
set_option maxRecDepth 100000 in
theorem plays_3 (a0 a1 a2 a3 b0 b1 b2 b3 s0 s1 t0 t1 dr dc : Int) (v : Bool) (w : World) (H1 : CallIs 14 #[areaV a0 a1 a2 a3, spotV s0 s1] (.bool v)) (H2 : CallIs 22 #[areaV a0 a1 a2 a3, spotV s0 s1] (.bool v)) :
    Calls Try.prog 9 #[opV 3 a0 a1 a2 a3 b0 b1 b2 b3 s0 s1 t0 t1 dr dc] w fun e w' => e = .returned (.bool true) ∧ Below w.heap.size w w' := by
  obtain ⟨c1, c2, c3, c4, c5, c6, c7, c8, c9, c10, c11, c12, c13, c14⟩ := cells15 w 3 a0 a1 a2 a3 b0 b1 b2 b3 s0 s1 t0 t1 dr dc
  have m1 := cell_regrown c1
  have m2 := cell_regrown c2
  have m3 := cell_regrown c3
  have m4 := cell_regrown c4
  have m9 := cell_regrown c9
  have m10 := cell_regrown c10
  clear c1 c2 c3 c4 c5 c6 c7 c8 c9 c10 c11 c12 c13 c14
  have k1 := fun d' os => Calls.regrown_of (H1.out (grow (redrawn (w.alloc (opO 3 a0 a1 a2 a3 b0 b1 b2 b3 s0 s1 t0 t1 dr dc)) d') os))
  have k2 := fun d' os => Calls.regrown_of (H2.out (grow (redrawn (w.alloc (opO 3 a0 a1 a2 a3 b0 b1 b2 b3 s0 s1 t0 t1 dr dc)) d') os))
  go_enter Try.func9, Try.ntmps9
  try simp only [List.append]
  go_wp2_with fail
  refine wp_region_quiet_below (by kernel_rfl) (by kernel_rfl) ?_
  repeat (go_big_quiet_step (first | (with_reducible exact k1 _ _) | (with_reducible exact k2 _ _)))
  refine wpQuiet_nil ?_
  intro _ hw'
  obtain ⟨⟨dq, osq⟩, hw''⟩ := hw'
  subst hw''
  go_wp2_with fail
  go_ret
  exact ⟨rfl, next (step (Below.refl w.heap.size w) _) (below_regrown _ dq osq)⟩
set_option maxHeartbeats 2000000 in
set_option maxRecDepth 100000 in
theorem plays_4 (a0 a1 a2 a3 b0 b1 b2 b3 s0 s1 t0 t1 dr dc m0 m1 m2 m3 : Int) (w : World) (H1 : CallIs 17 #[spotV s0 s1, spotV t0 t1] (areaV m0 m1 m2 m3)) (H2 : CallIs 23 #[spotV s0 s1, spotV t0 t1] (areaV m0 m1 m2 m3)) :
    Calls Try.prog 9 #[opV 4 a0 a1 a2 a3 b0 b1 b2 b3 s0 s1 t0 t1 dr dc] w fun e w' => e = .returned (.bool true) ∧ Below w.heap.size w w' := by
  obtain ⟨c1, c2, c3, c4, c5, c6, c7, c8, c9, c10, c11, c12, c13, c14⟩ := cells15 w 4 a0 a1 a2 a3 b0 b1 b2 b3 s0 s1 t0 t1 dr dc
  have m9 := cell_regrown c9
  have m10 := cell_regrown c10
  have m11 := cell_regrown c11
  have m12 := cell_regrown c12
  clear c1 c2 c3 c4 c5 c6 c7 c8 c9 c10 c11 c12 c13 c14
  have k1 := fun d' os => Calls.regrown_of (H1.out (grow (redrawn (w.alloc (opO 4 a0 a1 a2 a3 b0 b1 b2 b3 s0 s1 t0 t1 dr dc)) d') os))
  have k2 := fun d' os => Calls.regrown_of (H2.out (grow (redrawn (w.alloc (opO 4 a0 a1 a2 a3 b0 b1 b2 b3 s0 s1 t0 t1 dr dc)) d') os))
  go_enter Try.func9, Try.ntmps9
  try simp only [List.append]
  go_wp2_with fail
  refine wp_region_quiet_below (by kernel_rfl) (by kernel_rfl) ?_
  repeat (go_big_quiet_step (first | (with_reducible exact k1 _ _) | (with_reducible exact k2 _ _)))
  refine wpQuiet_nil ?_
  intro _ hw'
  obtain ⟨⟨dq, osq⟩, hw''⟩ := hw'
  subst hw''
  go_wp2_with fail
  go_ret
  exact ⟨rfl, next (step (Below.refl w.heap.size w) _) (below_regrown _ dq osq)⟩
set_option maxHeartbeats 2000000 in
set_option maxRecDepth 100000 in
theorem plays_2 (a0 a1 a2 a3 b0 b1 b2 b3 s0 s1 t0 t1 dr dc n f : Int) (w : World) (H1 : CallIs 19 #[areaV a0 a1 a2 a3] (.tuple #[.int .i64 n, .int .i64 f])) (H2 : CallIs 21 #[areaV a0 a1 a2 a3] (.tuple #[.int .i64 n, .int .i64 f])) :
    Calls Try.prog 9 #[opV 2 a0 a1 a2 a3 b0 b1 b2 b3 s0 s1 t0 t1 dr dc] w fun e w' => e = .returned (.bool true) ∧ Below w.heap.size w w' := by
  obtain ⟨c1, c2, c3, c4, c5, c6, c7, c8, c9, c10, c11, c12, c13, c14⟩ := cells15 w 2 a0 a1 a2 a3 b0 b1 b2 b3 s0 s1 t0 t1 dr dc
  go_enter Try.func9, Try.ntmps9
  try simp only [List.append]
  go_wp2_with fail
  refine (H1.out _).mono ?_
  rintro e w1 ⟨rfl, hb1⟩
  have n1 := keep1 hb1 c1
  have n2 := keep1 hb1 c2
  have n3 := keep1 hb1 c3
  have n4 := keep1 hb1 c4
  clear c1 c2 c3 c4 c5 c6 c7 c8 c9 c10 c11 c12 c13 c14
  have B1 := hide (next (step (Below.refl w.heap.size w) _) hb1)
  clear hb1
  go_wp2_with fail
  refine (H2.out _).mono ?_
  rintro e w2 ⟨rfl, hb2⟩
  go_wp2_with fail
  go_ret
  exact ⟨rfl, next B1.out hb2⟩
set_option maxHeartbeats 2000000 in
set_option maxRecDepth 100000 in
theorem plays_5 (a0 a1 a2 a3 b0 b1 b2 b3 s0 s1 t0 t1 dr dc m0 m1 m2 m3 : Int) (v : Bool) (w : World) (H1 : CallIs 13 #[areaV a0 a1 a2 a3, areaV b0 b1 b2 b3] (.tuple #[areaV m0 m1 m2 m3, .bool v])) (H2 : CallIs 24 #[areaV a0 a1 a2 a3, areaV b0 b1 b2 b3] (.tuple #[areaV m0 m1 m2 m3, .bool v])) :
    Calls Try.prog 9 #[opV 5 a0 a1 a2 a3 b0 b1 b2 b3 s0 s1 t0 t1 dr dc] w fun e w' => e = .returned (.bool true) ∧ Below w.heap.size w w' := by
  obtain ⟨c1, c2, c3, c4, c5, c6, c7, c8, c9, c10, c11, c12, c13, c14⟩ := cells15 w 5 a0 a1 a2 a3 b0 b1 b2 b3 s0 s1 t0 t1 dr dc
  go_enter Try.func9, Try.ntmps9
  try simp only [List.append]
  go_wp2_with fail
  refine (H1.out _).mono ?_
  rintro e w1 ⟨rfl, hb1⟩
  have n1 := keep1 hb1 c1
  have n2 := keep1 hb1 c2
  have n3 := keep1 hb1 c3
  have n4 := keep1 hb1 c4
  have n5 := keep1 hb1 c5
  have n6 := keep1 hb1 c6
  have n7 := keep1 hb1 c7
  have n8 := keep1 hb1 c8
  clear c1 c2 c3 c4 c5 c6 c7 c8 c9 c10 c11 c12 c13 c14
  have n1' := fun o => keep1 ((Below.refl w1.heap.size w1).alloc (Nat.le_refl _) o) n1
  have n2' := fun o => keep1 ((Below.refl w1.heap.size w1).alloc (Nat.le_refl _) o) n2
  have n3' := fun o => keep1 ((Below.refl w1.heap.size w1).alloc (Nat.le_refl _) o) n3
  have n4' := fun o => keep1 ((Below.refl w1.heap.size w1).alloc (Nat.le_refl _) o) n4
  have n5' := fun o => keep1 ((Below.refl w1.heap.size w1).alloc (Nat.le_refl _) o) n5
  have n6' := fun o => keep1 ((Below.refl w1.heap.size w1).alloc (Nat.le_refl _) o) n6
  have n7' := fun o => keep1 ((Below.refl w1.heap.size w1).alloc (Nat.le_refl _) o) n7
  have n8' := fun o => keep1 ((Below.refl w1.heap.size w1).alloc (Nat.le_refl _) o) n8
  have B1 := hide (next (step (Below.refl w.heap.size w) _) hb1)
  clear hb1
  go_wp2_with fail
  refine (H2.out _).mono ?_
  rintro e w2 ⟨rfl, hb2⟩
  have B2 := hide (next (step B1.out _) hb2)
  obtain ⟨i0, i1, i2, i3⟩ := ((C4.new w1 (.int .i64 m0) (.int .i64 m1) (.int .i64 m2) (.int .i64 m3) 26).keep hb2).any
  clear hb2
  go_wp2_with fail
  go_ret
  exact ⟨rfl, step B2.out _⟩
set_option maxHeartbeats 2000000 in
set_option maxRecDepth 100000 in
theorem plays_6 (a0 a1 a2 a3 b0 b1 b2 b3 s0 s1 t0 t1 dr dc m0 m1 m2 m3 f : Int) (w : World) (H1 : CallIs 16 #[areaV a0 a1 a2 a3, .int .i64 dr, .int .i64 dc] (.tuple #[areaV m0 m1 m2 m3, .int .i64 f])) (H2 : CallIs 25 #[areaV a0 a1 a2 a3, .int .i64 dr, .int .i64 dc] (.tuple #[areaV m0 m1 m2 m3, .int .i64 f])) :
    Calls Try.prog 9 #[opV 6 a0 a1 a2 a3 b0 b1 b2 b3 s0 s1 t0 t1 dr dc] w fun e w' => e = .returned (.bool true) ∧ Below w.heap.size w w' := by
  obtain ⟨c1, c2, c3, c4, c5, c6, c7, c8, c9, c10, c11, c12, c13, c14⟩ := cells15 w 6 a0 a1 a2 a3 b0 b1 b2 b3 s0 s1 t0 t1 dr dc
  go_enter Try.func9, Try.ntmps9
  try simp only [List.append]
  go_wp2_with fail
  refine (H1.out _).mono ?_
  rintro e w1 ⟨rfl, hb1⟩
  have n1 := keep1 hb1 c1
  have n2 := keep1 hb1 c2
  have n3 := keep1 hb1 c3
  have n4 := keep1 hb1 c4
  have n13 := keep1 hb1 c13
  have n14 := keep1 hb1 c14
  clear c1 c2 c3 c4 c5 c6 c7 c8 c9 c10 c11 c12 c13 c14
  have n1' := fun o => keep1 ((Below.refl w1.heap.size w1).alloc (Nat.le_refl _) o) n1
  have n2' := fun o => keep1 ((Below.refl w1.heap.size w1).alloc (Nat.le_refl _) o) n2
  have n3' := fun o => keep1 ((Below.refl w1.heap.size w1).alloc (Nat.le_refl _) o) n3
  have n4' := fun o => keep1 ((Below.refl w1.heap.size w1).alloc (Nat.le_refl _) o) n4
  have n13' := fun o => keep1 ((Below.refl w1.heap.size w1).alloc (Nat.le_refl _) o) n13
  have n14' := fun o => keep1 ((Below.refl w1.heap.size w1).alloc (Nat.le_refl _) o) n14
  have B1 := hide (next (step (Below.refl w.heap.size w) _) hb1)
  clear hb1
  go_wp2_with fail
  refine (H2.out _).mono ?_
  rintro e w2 ⟨rfl, hb2⟩
  have B2 := hide (next (step B1.out _) hb2)
  obtain ⟨i0, i1, i2, i3⟩ := ((C4.new w1 (.int .i64 m0) (.int .i64 m1) (.int .i64 m2) (.int .i64 m3) 26).keep hb2).any
  clear hb2
  go_wp2_with fail
  go_ret
  exact ⟨rfl, step B2.out _⟩
theorem plays_any (k a0 a1 a2 a3 b0 b1 b2 b3 s0 s1 t0 t1 dr dc : Int) (w : World) : Calls Try.prog 9 #[opV k a0 a1 a2 a3 b0 b1 b2 b3 s0 s1 t0 t1 dr dc] w fun e w' => e = .returned (.bool true) ∧ Below w.heap.size w w' := by
  by_cases h1 : k = 1
  · subst h1; exact plays_1 a0 a1 a2 a3 b0 b1 b2 b3 s0 s1 t0 t1 dr dc _ w (hide (amay_any a0 a1 a2 a3)) (hide (rmay_any a0 a1 a2 a3))
  by_cases h2 : k = 2
  · subst h2; obtain ⟨n, f, x, y⟩ := size_agree a0 a1 a2 a3; exact plays_2 a0 a1 a2 a3 b0 b1 b2 b3 s0 s1 t0 t1 dr dc n f w x y
  by_cases h3 : k = 3
  · subst h3; exact plays_3 a0 a1 a2 a3 b0 b1 b2 b3 s0 s1 t0 t1 dr dc _ w (hide (ahas_any a0 a1 a2 a3 s0 s1)) (hide (rhas_any a0 a1 a2 a3 s0 s1))
  by_cases h4 : k = 4
  · subst h4; exact plays_4 a0 a1 a2 a3 b0 b1 b2 b3 s0 s1 t0 t1 dr dc _ _ _ _ w (hide (aof_any s0 s1 t0 t1)) (hide (rof_any s0 s1 t0 t1))
  by_cases h5 : k = 5
  · subst h5; obtain ⟨m0, m1, m2, m3, v, x, y⟩ := meet_agree a0 a1 a2 a3 b0 b1 b2 b3; exact plays_5 a0 a1 a2 a3 b0 b1 b2 b3 s0 s1 t0 t1 dr dc m0 m1 m2 m3 v w x y
  by_cases h6 : k = 6
  · subst h6; obtain ⟨m0, m1, m2, m3, f, x, y⟩ := move_agree a0 a1 a2 a3 dr dc; exact plays_6 a0 a1 a2 a3 b0 b1 b2 b3 s0 s1 t0 t1 dr dc m0 m1 m2 m3 f w x y
  exact plays_other k a0 a1 a2 a3 b0 b1 b2 b3 s0 s1 t0 t1 dr dc w (by simpa using h1) (by simpa using h2) (by simpa using h3) (by simpa using h4) (by simpa using h5) (by simpa using h6)
end Go.Proofs.Ytibogmlnbipbbaa
