/- The law SpotOrder returns true for every three places, whatever their numbers, and changes nothing that was there. -/
import Derived.Test.YtjhfjpofmkofhaaDoorFrame2
import Derived.Test.YtjhfjpofmkofhaaDoorOrder
namespace Go.Proofs.YtjhfjpofmkofhaaDoor
open Go.RowKit Go.Sort
set_option linter.unusedVariables false

theorem ord1_is (x y : Int) : (ord1 x y = -1 ∧ x < y) ∨ (ord1 x y = 1 ∧ y < x) ∨ (ord1 x y = 0 ∧ x = y) := by
  unfold ord1
  by_cases h : x < y
  · rw [if_pos h]; omega
  · rw [if_neg h]
    by_cases h' : y < x
    · rw [if_pos h']; omega
    · rw [if_neg h']; omega
theorem ord2_is (a b c d : Int) : (ord2 a b c d = -1 ∧ (a < c ∨ (a = c ∧ b < d))) ∨ (ord2 a b c d = 1 ∧ (c < a ∨ (a = c ∧ d < b))) ∨ (ord2 a b c d = 0 ∧ a = c ∧ b = d) := by
  unfold ord2
  have h1 := ord1_is a c
  have h2 := ord1_is b d
  by_cases h : ord1 a c = 0
  · rw [if_pos h]; omega
  · rw [if_neg h]; omega
abbrev CompIs (a b c d x : Int) : Prop := Hid (∀ w, Calls Tryd.prog 18 #[spotV a b, spotV c d] w fun r w' => r = .returned (.int .i64 x) ∧ Below w.heap.size w w')
theorem comp_is (a b c d x : Int) (h : ord2 a b c d = x) : CompIs a b c d x := hide fun w => h ▸ compare_any a b c d w

set_option maxHeartbeats 1000000 in
theorem order_r1p (a b c d e f : Int) (z : Int) (w : World) (ht : Tab w) (h : a < c)
    (HX : CompIs a b c d (-1)) (HV : CompIs c d a b (1)) (HY : CompIs c d e f (1)) (HZ : CompIs a b e f z) :
    Calls Tryd.prog 7 #[spotV a b, spotV c d, spotV e f] w fun e w' => e = .returned (.bool true) ∧ Below w.heap.size w w' := by
  have HB := hide (fun (w1 : World) (hb : Below w.heap.size w w1) => begun_any w1 (tab_below ht hb))
  have n1 : (a != c) = true := by rw [bne_iff_ne]; omega
  have n2 : (a == c) = false := by rw [beq_eq_false_iff_ne]; omega
  clear ht
  go_enter Tryd.func7, Tryd.ntmps7
  try simp only [List.append]
  go_wp2_with fail
  refine (HB.out _ (by go_grown)).mono ?_
  rintro r w1 ⟨rfl, hb1⟩
  go_wp2_with fail
  have B1 := hide (next (step (step (step (Below.refl w.heap.size w) _) _) _) hb1)
  have ca := hide ((((C2.new w (.int .i64 a) (.int .i64 b) 26).alloc _).alloc _).keep hb1)
  have cb := hide (((C2.new (w.alloc (spotO a b)) (.int .i64 c) (.int .i64 d) 26).alloc _).keep hb1)
  have cc := hide ((C2.new ((w.alloc (spotO a b)).alloc (spotO c d)) (.int .i64 e) (.int .i64 f) 26).keep hb1)
  simp only [World.size_alloc] at cb cc
  have a0 := cell_regrown ca.out.1
  have a1 := cell_regrown ca.out.2
  have b0 := cell_regrown cb.out.1
  have b1 := cell_regrown cb.out.2
  have c0 := cell_regrown cc.out.1
  have c1 := cell_regrown cc.out.2
  have cX := fun d os => Calls.regrown_of (HX.out (grow (redrawn w1 d) os))
  have cY := fun d os => Calls.regrown_of (HY.out (grow (redrawn w1 d) os))
  have cZ := fun d os => Calls.regrown_of (HZ.out (grow (redrawn w1 d) os))
  clear hb1
  refine wp_region_quiet_below (by kernel_rfl) (by kernel_rfl) ?_
  repeat (go_big_quiet_step (first | (with_reducible exact cX _ _) | (with_reducible exact cY _ _) | (with_reducible exact cZ _ _)))
  refine wpQuiet_nil ?_
  intro _ hw'
  obtain ⟨⟨dq, osq⟩, hw''⟩ := hw'
  have hb2 := below_regrown w1 dq osq
  replace a0 := a0 dq osq
  replace a1 := a1 dq osq
  replace b0 := b0 dq osq
  replace b1 := b1 dq osq
  rw [← hw''] at hb2 a0 a1 b0 b1
  clear hw'' c0 c1 cX cY cZ ca cb cc
  rename_i w2
  go_wp2_with fail
  refine (HV.out _).mono ?_
  rintro r w3 ⟨rfl, hb3⟩
  replace a0 := keep1 hb3 a0
  replace a1 := keep1 hb3 a1
  replace b0 := keep1 hb3 b0
  replace b1 := keep1 hb3 b1
  go_wp2_with fail
  go_ret
  exact ⟨rfl, next (next B1.out hb2) hb3⟩

set_option maxHeartbeats 1000000 in
theorem order_r1m (a b c d e f : Int) (w : World) (ht : Tab w) (h : a < c)
    (HX : CompIs a b c d (-1)) (HV : CompIs c d a b (1)) (HY : CompIs c d e f (-1)) (HZ : CompIs a b e f (-1)) :
    Calls Tryd.prog 7 #[spotV a b, spotV c d, spotV e f] w fun e w' => e = .returned (.bool true) ∧ Below w.heap.size w w' := by
  have HB := hide (fun (w1 : World) (hb : Below w.heap.size w w1) => begun_any w1 (tab_below ht hb))
  have n1 : (a != c) = true := by rw [bne_iff_ne]; omega
  have n2 : (a == c) = false := by rw [beq_eq_false_iff_ne]; omega
  clear ht
  go_enter Tryd.func7, Tryd.ntmps7
  try simp only [List.append]
  go_wp2_with fail
  refine (HB.out _ (by go_grown)).mono ?_
  rintro r w1 ⟨rfl, hb1⟩
  go_wp2_with fail
  have B1 := hide (next (step (step (step (Below.refl w.heap.size w) _) _) _) hb1)
  have ca := hide ((((C2.new w (.int .i64 a) (.int .i64 b) 26).alloc _).alloc _).keep hb1)
  have cb := hide (((C2.new (w.alloc (spotO a b)) (.int .i64 c) (.int .i64 d) 26).alloc _).keep hb1)
  have cc := hide ((C2.new ((w.alloc (spotO a b)).alloc (spotO c d)) (.int .i64 e) (.int .i64 f) 26).keep hb1)
  simp only [World.size_alloc] at cb cc
  have a0 := cell_regrown ca.out.1
  have a1 := cell_regrown ca.out.2
  have b0 := cell_regrown cb.out.1
  have b1 := cell_regrown cb.out.2
  have c0 := cell_regrown cc.out.1
  have c1 := cell_regrown cc.out.2
  have cX := fun d os => Calls.regrown_of (HX.out (grow (redrawn w1 d) os))
  have cY := fun d os => Calls.regrown_of (HY.out (grow (redrawn w1 d) os))
  have cZ := fun d os => Calls.regrown_of (HZ.out (grow (redrawn w1 d) os))
  clear hb1
  refine wp_region_quiet_below (by kernel_rfl) (by kernel_rfl) ?_
  repeat (go_big_quiet_step (first | (with_reducible exact cX _ _) | (with_reducible exact cY _ _) | (with_reducible exact cZ _ _)))
  refine wpQuiet_nil ?_
  intro _ hw'
  obtain ⟨⟨dq, osq⟩, hw''⟩ := hw'
  have hb2 := below_regrown w1 dq osq
  replace a0 := a0 dq osq
  replace a1 := a1 dq osq
  replace b0 := b0 dq osq
  replace b1 := b1 dq osq
  rw [← hw''] at hb2 a0 a1 b0 b1
  clear hw'' c0 c1 cX cY cZ ca cb cc
  rename_i w2
  go_wp2_with fail
  refine (HV.out _).mono ?_
  rintro r w3 ⟨rfl, hb3⟩
  replace a0 := keep1 hb3 a0
  replace a1 := keep1 hb3 a1
  replace b0 := keep1 hb3 b0
  replace b1 := keep1 hb3 b1
  go_wp2_with fail
  go_ret
  exact ⟨rfl, next (next B1.out hb2) hb3⟩

set_option maxHeartbeats 1000000 in
theorem order_r1o (a b c d e f : Int) (w : World) (ht : Tab w) (h : a < c)
    (HX : CompIs a b c d (-1)) (HV : CompIs c d a b (1)) (HY : CompIs c d e f (0)) (HZ : CompIs a b e f (-1)) :
    Calls Tryd.prog 7 #[spotV a b, spotV c d, spotV e f] w fun e w' => e = .returned (.bool true) ∧ Below w.heap.size w w' := by
  have HB := hide (fun (w1 : World) (hb : Below w.heap.size w w1) => begun_any w1 (tab_below ht hb))
  have n1 : (a != c) = true := by rw [bne_iff_ne]; omega
  have n2 : (a == c) = false := by rw [beq_eq_false_iff_ne]; omega
  clear ht
  go_enter Tryd.func7, Tryd.ntmps7
  try simp only [List.append]
  go_wp2_with fail
  refine (HB.out _ (by go_grown)).mono ?_
  rintro r w1 ⟨rfl, hb1⟩
  go_wp2_with fail
  have B1 := hide (next (step (step (step (Below.refl w.heap.size w) _) _) _) hb1)
  have ca := hide ((((C2.new w (.int .i64 a) (.int .i64 b) 26).alloc _).alloc _).keep hb1)
  have cb := hide (((C2.new (w.alloc (spotO a b)) (.int .i64 c) (.int .i64 d) 26).alloc _).keep hb1)
  have cc := hide ((C2.new ((w.alloc (spotO a b)).alloc (spotO c d)) (.int .i64 e) (.int .i64 f) 26).keep hb1)
  simp only [World.size_alloc] at cb cc
  have a0 := cell_regrown ca.out.1
  have a1 := cell_regrown ca.out.2
  have b0 := cell_regrown cb.out.1
  have b1 := cell_regrown cb.out.2
  have c0 := cell_regrown cc.out.1
  have c1 := cell_regrown cc.out.2
  have cX := fun d os => Calls.regrown_of (HX.out (grow (redrawn w1 d) os))
  have cY := fun d os => Calls.regrown_of (HY.out (grow (redrawn w1 d) os))
  have cZ := fun d os => Calls.regrown_of (HZ.out (grow (redrawn w1 d) os))
  clear hb1
  refine wp_region_quiet_below (by kernel_rfl) (by kernel_rfl) ?_
  repeat (go_big_quiet_step (first | (with_reducible exact cX _ _) | (with_reducible exact cY _ _) | (with_reducible exact cZ _ _)))
  refine wpQuiet_nil ?_
  intro _ hw'
  obtain ⟨⟨dq, osq⟩, hw''⟩ := hw'
  have hb2 := below_regrown w1 dq osq
  replace a0 := a0 dq osq
  replace a1 := a1 dq osq
  replace b0 := b0 dq osq
  replace b1 := b1 dq osq
  rw [← hw''] at hb2 a0 a1 b0 b1
  clear hw'' c0 c1 cX cY cZ ca cb cc
  rename_i w2
  go_wp2_with fail
  refine (HV.out _).mono ?_
  rintro r w3 ⟨rfl, hb3⟩
  replace a0 := keep1 hb3 a0
  replace a1 := keep1 hb3 a1
  replace b0 := keep1 hb3 b0
  replace b1 := keep1 hb3 b1
  go_wp2_with fail
  go_ret
  exact ⟨rfl, next (next B1.out hb2) hb3⟩

set_option maxHeartbeats 1000000 in
theorem order_r3p (a b d e f : Int) (z : Int) (w : World) (ht : Tab w) (h : b < d)
    (HX : CompIs a b a d (-1)) (HV : CompIs a d a b (1)) (HY : CompIs a d e f (1)) (HZ : CompIs a b e f z) :
    Calls Tryd.prog 7 #[spotV a b, spotV a d, spotV e f] w fun e w' => e = .returned (.bool true) ∧ Below w.heap.size w w' := by
  have HB := hide (fun (w1 : World) (hb : Below w.heap.size w w1) => begun_any w1 (tab_below ht hb))
  have n2 : (b == d) = false := by rw [beq_eq_false_iff_ne]; omega
  clear ht
  go_enter Tryd.func7, Tryd.ntmps7
  try simp only [List.append]
  go_wp2_with fail
  refine (HB.out _ (by go_grown)).mono ?_
  rintro r w1 ⟨rfl, hb1⟩
  go_wp2_with fail
  have B1 := hide (next (step (step (step (Below.refl w.heap.size w) _) _) _) hb1)
  have ca := hide ((((C2.new w (.int .i64 a) (.int .i64 b) 26).alloc _).alloc _).keep hb1)
  have cb := hide (((C2.new (w.alloc (spotO a b)) (.int .i64 a) (.int .i64 d) 26).alloc _).keep hb1)
  have cc := hide ((C2.new ((w.alloc (spotO a b)).alloc (spotO a d)) (.int .i64 e) (.int .i64 f) 26).keep hb1)
  simp only [World.size_alloc] at cb cc
  have a0 := cell_regrown ca.out.1
  have a1 := cell_regrown ca.out.2
  have b0 := cell_regrown cb.out.1
  have b1 := cell_regrown cb.out.2
  have c0 := cell_regrown cc.out.1
  have c1 := cell_regrown cc.out.2
  have cX := fun d os => Calls.regrown_of (HX.out (grow (redrawn w1 d) os))
  have cY := fun d os => Calls.regrown_of (HY.out (grow (redrawn w1 d) os))
  have cZ := fun d os => Calls.regrown_of (HZ.out (grow (redrawn w1 d) os))
  clear hb1
  refine wp_region_quiet_below (by kernel_rfl) (by kernel_rfl) ?_
  repeat (go_big_quiet_step (first | (with_reducible exact cX _ _) | (with_reducible exact cY _ _) | (with_reducible exact cZ _ _)))
  refine wpQuiet_nil ?_
  intro _ hw'
  obtain ⟨⟨dq, osq⟩, hw''⟩ := hw'
  have hb2 := below_regrown w1 dq osq
  replace a0 := a0 dq osq
  replace a1 := a1 dq osq
  replace b0 := b0 dq osq
  replace b1 := b1 dq osq
  rw [← hw''] at hb2 a0 a1 b0 b1
  clear hw'' c0 c1 cX cY cZ ca cb cc
  rename_i w2
  go_wp2_with fail
  refine (HV.out _).mono ?_
  rintro r w3 ⟨rfl, hb3⟩
  replace a0 := keep1 hb3 a0
  replace a1 := keep1 hb3 a1
  replace b0 := keep1 hb3 b0
  replace b1 := keep1 hb3 b1
  go_wp2_with fail
  go_ret
  exact ⟨rfl, next (next B1.out hb2) hb3⟩

set_option maxHeartbeats 1000000 in
theorem order_r3m (a b d e f : Int) (w : World) (ht : Tab w) (h : b < d)
    (HX : CompIs a b a d (-1)) (HV : CompIs a d a b (1)) (HY : CompIs a d e f (-1)) (HZ : CompIs a b e f (-1)) :
    Calls Tryd.prog 7 #[spotV a b, spotV a d, spotV e f] w fun e w' => e = .returned (.bool true) ∧ Below w.heap.size w w' := by
  have HB := hide (fun (w1 : World) (hb : Below w.heap.size w w1) => begun_any w1 (tab_below ht hb))
  have n2 : (b == d) = false := by rw [beq_eq_false_iff_ne]; omega
  clear ht
  go_enter Tryd.func7, Tryd.ntmps7
  try simp only [List.append]
  go_wp2_with fail
  refine (HB.out _ (by go_grown)).mono ?_
  rintro r w1 ⟨rfl, hb1⟩
  go_wp2_with fail
  have B1 := hide (next (step (step (step (Below.refl w.heap.size w) _) _) _) hb1)
  have ca := hide ((((C2.new w (.int .i64 a) (.int .i64 b) 26).alloc _).alloc _).keep hb1)
  have cb := hide (((C2.new (w.alloc (spotO a b)) (.int .i64 a) (.int .i64 d) 26).alloc _).keep hb1)
  have cc := hide ((C2.new ((w.alloc (spotO a b)).alloc (spotO a d)) (.int .i64 e) (.int .i64 f) 26).keep hb1)
  simp only [World.size_alloc] at cb cc
  have a0 := cell_regrown ca.out.1
  have a1 := cell_regrown ca.out.2
  have b0 := cell_regrown cb.out.1
  have b1 := cell_regrown cb.out.2
  have c0 := cell_regrown cc.out.1
  have c1 := cell_regrown cc.out.2
  have cX := fun d os => Calls.regrown_of (HX.out (grow (redrawn w1 d) os))
  have cY := fun d os => Calls.regrown_of (HY.out (grow (redrawn w1 d) os))
  have cZ := fun d os => Calls.regrown_of (HZ.out (grow (redrawn w1 d) os))
  clear hb1
  refine wp_region_quiet_below (by kernel_rfl) (by kernel_rfl) ?_
  repeat (go_big_quiet_step (first | (with_reducible exact cX _ _) | (with_reducible exact cY _ _) | (with_reducible exact cZ _ _)))
  refine wpQuiet_nil ?_
  intro _ hw'
  obtain ⟨⟨dq, osq⟩, hw''⟩ := hw'
  have hb2 := below_regrown w1 dq osq
  replace a0 := a0 dq osq
  replace a1 := a1 dq osq
  replace b0 := b0 dq osq
  replace b1 := b1 dq osq
  rw [← hw''] at hb2 a0 a1 b0 b1
  clear hw'' c0 c1 cX cY cZ ca cb cc
  rename_i w2
  go_wp2_with fail
  refine (HV.out _).mono ?_
  rintro r w3 ⟨rfl, hb3⟩
  replace a0 := keep1 hb3 a0
  replace a1 := keep1 hb3 a1
  replace b0 := keep1 hb3 b0
  replace b1 := keep1 hb3 b1
  go_wp2_with fail
  go_ret
  exact ⟨rfl, next (next B1.out hb2) hb3⟩

set_option maxHeartbeats 1000000 in
theorem order_r3o (a b d e f : Int) (w : World) (ht : Tab w) (h : b < d)
    (HX : CompIs a b a d (-1)) (HV : CompIs a d a b (1)) (HY : CompIs a d e f (0)) (HZ : CompIs a b e f (-1)) :
    Calls Tryd.prog 7 #[spotV a b, spotV a d, spotV e f] w fun e w' => e = .returned (.bool true) ∧ Below w.heap.size w w' := by
  have HB := hide (fun (w1 : World) (hb : Below w.heap.size w w1) => begun_any w1 (tab_below ht hb))
  have n2 : (b == d) = false := by rw [beq_eq_false_iff_ne]; omega
  clear ht
  go_enter Tryd.func7, Tryd.ntmps7
  try simp only [List.append]
  go_wp2_with fail
  refine (HB.out _ (by go_grown)).mono ?_
  rintro r w1 ⟨rfl, hb1⟩
  go_wp2_with fail
  have B1 := hide (next (step (step (step (Below.refl w.heap.size w) _) _) _) hb1)
  have ca := hide ((((C2.new w (.int .i64 a) (.int .i64 b) 26).alloc _).alloc _).keep hb1)
  have cb := hide (((C2.new (w.alloc (spotO a b)) (.int .i64 a) (.int .i64 d) 26).alloc _).keep hb1)
  have cc := hide ((C2.new ((w.alloc (spotO a b)).alloc (spotO a d)) (.int .i64 e) (.int .i64 f) 26).keep hb1)
  simp only [World.size_alloc] at cb cc
  have a0 := cell_regrown ca.out.1
  have a1 := cell_regrown ca.out.2
  have b0 := cell_regrown cb.out.1
  have b1 := cell_regrown cb.out.2
  have c0 := cell_regrown cc.out.1
  have c1 := cell_regrown cc.out.2
  have cX := fun d os => Calls.regrown_of (HX.out (grow (redrawn w1 d) os))
  have cY := fun d os => Calls.regrown_of (HY.out (grow (redrawn w1 d) os))
  have cZ := fun d os => Calls.regrown_of (HZ.out (grow (redrawn w1 d) os))
  clear hb1
  refine wp_region_quiet_below (by kernel_rfl) (by kernel_rfl) ?_
  repeat (go_big_quiet_step (first | (with_reducible exact cX _ _) | (with_reducible exact cY _ _) | (with_reducible exact cZ _ _)))
  refine wpQuiet_nil ?_
  intro _ hw'
  obtain ⟨⟨dq, osq⟩, hw''⟩ := hw'
  have hb2 := below_regrown w1 dq osq
  replace a0 := a0 dq osq
  replace a1 := a1 dq osq
  replace b0 := b0 dq osq
  replace b1 := b1 dq osq
  rw [← hw''] at hb2 a0 a1 b0 b1
  clear hw'' c0 c1 cX cY cZ ca cb cc
  rename_i w2
  go_wp2_with fail
  refine (HV.out _).mono ?_
  rintro r w3 ⟨rfl, hb3⟩
  replace a0 := keep1 hb3 a0
  replace a1 := keep1 hb3 a1
  replace b0 := keep1 hb3 b0
  replace b1 := keep1 hb3 b1
  go_wp2_with fail
  go_ret
  exact ⟨rfl, next (next B1.out hb2) hb3⟩

set_option maxHeartbeats 1000000 in
theorem order_r5p (a b e f : Int) (w : World) (ht : Tab w) 
    (HX : CompIs a b a b 0) (HV : CompIs a b a b 0) (HY : CompIs a b e f (1)) (HZ : CompIs a b e f (1)) :
    Calls Tryd.prog 7 #[spotV a b, spotV a b, spotV e f] w fun e w' => e = .returned (.bool true) ∧ Below w.heap.size w w' := by
  have HB := hide (fun (w1 : World) (hb : Below w.heap.size w w1) => begun_any w1 (tab_below ht hb))
  skip
  clear ht
  go_enter Tryd.func7, Tryd.ntmps7
  try simp only [List.append]
  go_wp2_with fail
  refine (HB.out _ (by go_grown)).mono ?_
  rintro r w1 ⟨rfl, hb1⟩
  go_wp2_with fail
  have B1 := hide (next (step (step (step (Below.refl w.heap.size w) _) _) _) hb1)
  have ca := hide ((((C2.new w (.int .i64 a) (.int .i64 b) 26).alloc _).alloc _).keep hb1)
  have cb := hide (((C2.new (w.alloc (spotO a b)) (.int .i64 a) (.int .i64 b) 26).alloc _).keep hb1)
  have cc := hide ((C2.new ((w.alloc (spotO a b)).alloc (spotO a b)) (.int .i64 e) (.int .i64 f) 26).keep hb1)
  simp only [World.size_alloc] at cb cc
  have a0 := cell_regrown ca.out.1
  have a1 := cell_regrown ca.out.2
  have b0 := cell_regrown cb.out.1
  have b1 := cell_regrown cb.out.2
  have c0 := cell_regrown cc.out.1
  have c1 := cell_regrown cc.out.2
  have cX := fun d os => Calls.regrown_of (HX.out (grow (redrawn w1 d) os))
  have cY := fun d os => Calls.regrown_of (HY.out (grow (redrawn w1 d) os))
  have cZ := fun d os => Calls.regrown_of (HZ.out (grow (redrawn w1 d) os))
  clear hb1
  refine wp_region_quiet_below (by kernel_rfl) (by kernel_rfl) ?_
  repeat (go_big_quiet_step (first | (with_reducible exact cX _ _) | (with_reducible exact cY _ _) | (with_reducible exact cZ _ _)))
  refine wpQuiet_nil ?_
  intro _ hw'
  obtain ⟨⟨dq, osq⟩, hw''⟩ := hw'
  have hb2 := below_regrown w1 dq osq
  replace a0 := a0 dq osq
  replace a1 := a1 dq osq
  replace b0 := b0 dq osq
  replace b1 := b1 dq osq
  rw [← hw''] at hb2 a0 a1 b0 b1
  clear hw'' c0 c1 cX cY cZ ca cb cc
  rename_i w2
  go_wp2_with fail
  refine (HV.out _).mono ?_
  rintro r w3 ⟨rfl, hb3⟩
  replace a0 := keep1 hb3 a0
  replace a1 := keep1 hb3 a1
  replace b0 := keep1 hb3 b0
  replace b1 := keep1 hb3 b1
  go_wp2_with fail
  go_ret
  exact ⟨rfl, next (next B1.out hb2) hb3⟩

set_option maxHeartbeats 1000000 in
theorem order_r5m (a b e f : Int) (w : World) (ht : Tab w) 
    (HX : CompIs a b a b 0) (HV : CompIs a b a b 0) (HY : CompIs a b e f (-1)) (HZ : CompIs a b e f (-1)) :
    Calls Tryd.prog 7 #[spotV a b, spotV a b, spotV e f] w fun e w' => e = .returned (.bool true) ∧ Below w.heap.size w w' := by
  have HB := hide (fun (w1 : World) (hb : Below w.heap.size w w1) => begun_any w1 (tab_below ht hb))
  skip
  clear ht
  go_enter Tryd.func7, Tryd.ntmps7
  try simp only [List.append]
  go_wp2_with fail
  refine (HB.out _ (by go_grown)).mono ?_
  rintro r w1 ⟨rfl, hb1⟩
  go_wp2_with fail
  have B1 := hide (next (step (step (step (Below.refl w.heap.size w) _) _) _) hb1)
  have ca := hide ((((C2.new w (.int .i64 a) (.int .i64 b) 26).alloc _).alloc _).keep hb1)
  have cb := hide (((C2.new (w.alloc (spotO a b)) (.int .i64 a) (.int .i64 b) 26).alloc _).keep hb1)
  have cc := hide ((C2.new ((w.alloc (spotO a b)).alloc (spotO a b)) (.int .i64 e) (.int .i64 f) 26).keep hb1)
  simp only [World.size_alloc] at cb cc
  have a0 := cell_regrown ca.out.1
  have a1 := cell_regrown ca.out.2
  have b0 := cell_regrown cb.out.1
  have b1 := cell_regrown cb.out.2
  have c0 := cell_regrown cc.out.1
  have c1 := cell_regrown cc.out.2
  have cX := fun d os => Calls.regrown_of (HX.out (grow (redrawn w1 d) os))
  have cY := fun d os => Calls.regrown_of (HY.out (grow (redrawn w1 d) os))
  have cZ := fun d os => Calls.regrown_of (HZ.out (grow (redrawn w1 d) os))
  clear hb1
  refine wp_region_quiet_below (by kernel_rfl) (by kernel_rfl) ?_
  repeat (go_big_quiet_step (first | (with_reducible exact cX _ _) | (with_reducible exact cY _ _) | (with_reducible exact cZ _ _)))
  refine wpQuiet_nil ?_
  intro _ hw'
  obtain ⟨⟨dq, osq⟩, hw''⟩ := hw'
  have hb2 := below_regrown w1 dq osq
  replace a0 := a0 dq osq
  replace a1 := a1 dq osq
  replace b0 := b0 dq osq
  replace b1 := b1 dq osq
  rw [← hw''] at hb2 a0 a1 b0 b1
  clear hw'' c0 c1 cX cY cZ ca cb cc
  rename_i w2
  go_wp2_with fail
  refine (HV.out _).mono ?_
  rintro r w3 ⟨rfl, hb3⟩
  replace a0 := keep1 hb3 a0
  replace a1 := keep1 hb3 a1
  replace b0 := keep1 hb3 b0
  replace b1 := keep1 hb3 b1
  go_wp2_with fail
  go_ret
  exact ⟨rfl, next (next B1.out hb2) hb3⟩

set_option maxHeartbeats 1000000 in
theorem order_r5o (a b e f : Int) (w : World) (ht : Tab w) 
    (HX : CompIs a b a b 0) (HV : CompIs a b a b 0) (HY : CompIs a b e f (0)) (HZ : CompIs a b e f (0)) :
    Calls Tryd.prog 7 #[spotV a b, spotV a b, spotV e f] w fun e w' => e = .returned (.bool true) ∧ Below w.heap.size w w' := by
  have HB := hide (fun (w1 : World) (hb : Below w.heap.size w w1) => begun_any w1 (tab_below ht hb))
  skip
  clear ht
  go_enter Tryd.func7, Tryd.ntmps7
  try simp only [List.append]
  go_wp2_with fail
  refine (HB.out _ (by go_grown)).mono ?_
  rintro r w1 ⟨rfl, hb1⟩
  go_wp2_with fail
  have B1 := hide (next (step (step (step (Below.refl w.heap.size w) _) _) _) hb1)
  have ca := hide ((((C2.new w (.int .i64 a) (.int .i64 b) 26).alloc _).alloc _).keep hb1)
  have cb := hide (((C2.new (w.alloc (spotO a b)) (.int .i64 a) (.int .i64 b) 26).alloc _).keep hb1)
  have cc := hide ((C2.new ((w.alloc (spotO a b)).alloc (spotO a b)) (.int .i64 e) (.int .i64 f) 26).keep hb1)
  simp only [World.size_alloc] at cb cc
  have a0 := cell_regrown ca.out.1
  have a1 := cell_regrown ca.out.2
  have b0 := cell_regrown cb.out.1
  have b1 := cell_regrown cb.out.2
  have c0 := cell_regrown cc.out.1
  have c1 := cell_regrown cc.out.2
  have cX := fun d os => Calls.regrown_of (HX.out (grow (redrawn w1 d) os))
  have cY := fun d os => Calls.regrown_of (HY.out (grow (redrawn w1 d) os))
  have cZ := fun d os => Calls.regrown_of (HZ.out (grow (redrawn w1 d) os))
  clear hb1
  refine wp_region_quiet_below (by kernel_rfl) (by kernel_rfl) ?_
  repeat (go_big_quiet_step (first | (with_reducible exact cX _ _) | (with_reducible exact cY _ _) | (with_reducible exact cZ _ _)))
  refine wpQuiet_nil ?_
  intro _ hw'
  obtain ⟨⟨dq, osq⟩, hw''⟩ := hw'
  have hb2 := below_regrown w1 dq osq
  replace a0 := a0 dq osq
  replace a1 := a1 dq osq
  replace b0 := b0 dq osq
  replace b1 := b1 dq osq
  rw [← hw''] at hb2 a0 a1 b0 b1
  clear hw'' c0 c1 cX cY cZ ca cb cc
  rename_i w2
  go_wp2_with fail
  refine (HV.out _).mono ?_
  rintro r w3 ⟨rfl, hb3⟩
  replace a0 := keep1 hb3 a0
  replace a1 := keep1 hb3 a1
  replace b0 := keep1 hb3 b0
  replace b1 := keep1 hb3 b1
  go_wp2_with fail
  go_ret
  exact ⟨rfl, next (next B1.out hb2) hb3⟩

set_option maxHeartbeats 1000000 in
theorem order_r2 (a b c d e f : Int) (y : Int) (z : Int) (w : World) (ht : Tab w) (h : c < a)
    (HX : CompIs a b c d (1)) (HV : CompIs c d a b (-1)) (HY : CompIs c d e f y) (HZ : CompIs a b e f z) :
    Calls Tryd.prog 7 #[spotV a b, spotV c d, spotV e f] w fun e w' => e = .returned (.bool true) ∧ Below w.heap.size w w' := by
  have HB := hide (fun (w1 : World) (hb : Below w.heap.size w w1) => begun_any w1 (tab_below ht hb))
  have n1 : (a != c) = true := by rw [bne_iff_ne]; omega
  have n2 : (a == c) = false := by rw [beq_eq_false_iff_ne]; omega
  have n3 : ¬ a < c := by omega
  clear ht
  go_enter Tryd.func7, Tryd.ntmps7
  try simp only [List.append]
  go_wp2_with fail
  refine (HB.out _ (by go_grown)).mono ?_
  rintro r w1 ⟨rfl, hb1⟩
  go_wp2_with fail
  have B1 := hide (next (step (step (step (Below.refl w.heap.size w) _) _) _) hb1)
  have ca := hide ((((C2.new w (.int .i64 a) (.int .i64 b) 26).alloc _).alloc _).keep hb1)
  have cb := hide (((C2.new (w.alloc (spotO a b)) (.int .i64 c) (.int .i64 d) 26).alloc _).keep hb1)
  have cc := hide ((C2.new ((w.alloc (spotO a b)).alloc (spotO c d)) (.int .i64 e) (.int .i64 f) 26).keep hb1)
  simp only [World.size_alloc] at cb cc
  have a0 := cell_regrown ca.out.1
  have a1 := cell_regrown ca.out.2
  have b0 := cell_regrown cb.out.1
  have b1 := cell_regrown cb.out.2
  have c0 := cell_regrown cc.out.1
  have c1 := cell_regrown cc.out.2
  have cX := fun d os => Calls.regrown_of (HX.out (grow (redrawn w1 d) os))
  have cY := fun d os => Calls.regrown_of (HY.out (grow (redrawn w1 d) os))
  have cZ := fun d os => Calls.regrown_of (HZ.out (grow (redrawn w1 d) os))
  clear hb1
  refine wp_region_quiet_below (by kernel_rfl) (by kernel_rfl) ?_
  repeat (go_big_quiet_step (first | (with_reducible exact cX _ _) | (with_reducible exact cY _ _) | (with_reducible exact cZ _ _)))
  refine wpQuiet_nil ?_
  intro _ hw'
  obtain ⟨⟨dq, osq⟩, hw''⟩ := hw'
  have hb2 := below_regrown w1 dq osq
  replace a0 := a0 dq osq
  replace a1 := a1 dq osq
  replace b0 := b0 dq osq
  replace b1 := b1 dq osq
  rw [← hw''] at hb2 a0 a1 b0 b1
  clear hw'' c0 c1 cX cY cZ ca cb cc
  rename_i w2
  go_wp2_with fail
  refine (HV.out _).mono ?_
  rintro r w3 ⟨rfl, hb3⟩
  replace a0 := keep1 hb3 a0
  replace a1 := keep1 hb3 a1
  replace b0 := keep1 hb3 b0
  replace b1 := keep1 hb3 b1
  go_wp2_with fail
  go_ret
  exact ⟨rfl, next (next B1.out hb2) hb3⟩

set_option maxHeartbeats 1000000 in
theorem order_r4 (a b d e f : Int) (y : Int) (z : Int) (w : World) (ht : Tab w) (h : d < b)
    (HX : CompIs a b a d (1)) (HV : CompIs a d a b (-1)) (HY : CompIs a d e f y) (HZ : CompIs a b e f z) :
    Calls Tryd.prog 7 #[spotV a b, spotV a d, spotV e f] w fun e w' => e = .returned (.bool true) ∧ Below w.heap.size w w' := by
  have HB := hide (fun (w1 : World) (hb : Below w.heap.size w w1) => begun_any w1 (tab_below ht hb))
  have n2 : (b == d) = false := by rw [beq_eq_false_iff_ne]; omega
  clear ht
  go_enter Tryd.func7, Tryd.ntmps7
  try simp only [List.append]
  go_wp2_with fail
  refine (HB.out _ (by go_grown)).mono ?_
  rintro r w1 ⟨rfl, hb1⟩
  go_wp2_with fail
  have B1 := hide (next (step (step (step (Below.refl w.heap.size w) _) _) _) hb1)
  have ca := hide ((((C2.new w (.int .i64 a) (.int .i64 b) 26).alloc _).alloc _).keep hb1)
  have cb := hide (((C2.new (w.alloc (spotO a b)) (.int .i64 a) (.int .i64 d) 26).alloc _).keep hb1)
  have cc := hide ((C2.new ((w.alloc (spotO a b)).alloc (spotO a d)) (.int .i64 e) (.int .i64 f) 26).keep hb1)
  simp only [World.size_alloc] at cb cc
  have a0 := cell_regrown ca.out.1
  have a1 := cell_regrown ca.out.2
  have b0 := cell_regrown cb.out.1
  have b1 := cell_regrown cb.out.2
  have c0 := cell_regrown cc.out.1
  have c1 := cell_regrown cc.out.2
  have cX := fun d os => Calls.regrown_of (HX.out (grow (redrawn w1 d) os))
  have cY := fun d os => Calls.regrown_of (HY.out (grow (redrawn w1 d) os))
  have cZ := fun d os => Calls.regrown_of (HZ.out (grow (redrawn w1 d) os))
  clear hb1
  refine wp_region_quiet_below (by kernel_rfl) (by kernel_rfl) ?_
  repeat (go_big_quiet_step (first | (with_reducible exact cX _ _) | (with_reducible exact cY _ _) | (with_reducible exact cZ _ _)))
  refine wpQuiet_nil ?_
  intro _ hw'
  obtain ⟨⟨dq, osq⟩, hw''⟩ := hw'
  have hb2 := below_regrown w1 dq osq
  replace a0 := a0 dq osq
  replace a1 := a1 dq osq
  replace b0 := b0 dq osq
  replace b1 := b1 dq osq
  rw [← hw''] at hb2 a0 a1 b0 b1
  clear hw'' c0 c1 cX cY cZ ca cb cc
  rename_i w2
  go_wp2_with fail
  refine (HV.out _).mono ?_
  rintro r w3 ⟨rfl, hb3⟩
  replace a0 := keep1 hb3 a0
  replace a1 := keep1 hb3 a1
  replace b0 := keep1 hb3 b0
  replace b1 := keep1 hb3 b1
  go_wp2_with fail
  go_ret
  exact ⟨rfl, next (next B1.out hb2) hb3⟩

theorem spotOrder_walk (a b c d e f : Int) (w : World) (ht : Tab w) :
    Calls Tryd.prog 7 #[spotV a b, spotV c d, spotV e f] w fun e w' => e = .returned (.bool true) ∧ Below w.heap.size w w' := by
  have hx := ord2_is a b c d
  have hv := ord2_is c d a b
  have hy := ord2_is c d e f
  have hz := ord2_is a b e f
  by_cases h1 : a < c
  · have HX := comp_is a b c d (-1) (by omega)
    have HV := comp_is c d a b 1 (by omega)
    by_cases y1 : ord2 c d e f = 1
    · exact order_r1p a b c d e f _ w ht h1 HX HV (comp_is _ _ _ _ _ y1) (comp_is _ _ _ _ _ rfl)
    by_cases y2 : ord2 c d e f = -1
    · exact order_r1m a b c d e f w ht h1 HX HV (comp_is _ _ _ _ _ y2) (comp_is _ _ _ _ _ (by omega))
    · exact order_r1o a b c d e f w ht h1 HX HV (comp_is _ _ _ _ _ (by omega)) (comp_is _ _ _ _ _ (by omega))
  by_cases h2 : c < a
  · exact order_r2 a b c d e f _ _ w ht h2 (comp_is _ _ _ _ _ (by omega)) (comp_is _ _ _ _ _ (by omega)) (comp_is _ _ _ _ _ rfl) (comp_is _ _ _ _ _ rfl)
  obtain rfl : a = c := by omega
  by_cases h3 : b < d
  · have HX := comp_is a b a d (-1) (by omega)
    have HV := comp_is a d a b 1 (by omega)
    by_cases y1 : ord2 a d e f = 1
    · exact order_r3p a b d e f _ w ht h3 HX HV (comp_is _ _ _ _ _ y1) (comp_is _ _ _ _ _ rfl)
    by_cases y2 : ord2 a d e f = -1
    · exact order_r3m a b d e f w ht h3 HX HV (comp_is _ _ _ _ _ y2) (comp_is _ _ _ _ _ (by omega))
    · exact order_r3o a b d e f w ht h3 HX HV (comp_is _ _ _ _ _ (by omega)) (comp_is _ _ _ _ _ (by omega))
  by_cases h4 : d < b
  · exact order_r4 a b d e f _ _ w ht h4 (comp_is _ _ _ _ _ (by omega)) (comp_is _ _ _ _ _ (by omega)) (comp_is _ _ _ _ _ rfl) (comp_is _ _ _ _ _ rfl)
  obtain rfl : b = d := by omega
  have HX := comp_is a b a b 0 (by omega)
  by_cases y1 : ord2 a b e f = 1
  · exact order_r5p a b e f w ht HX HX (comp_is _ _ _ _ _ y1) (comp_is _ _ _ _ _ y1)
  by_cases y2 : ord2 a b e f = -1
  · exact order_r5m a b e f w ht HX HX (comp_is _ _ _ _ _ y2) (comp_is _ _ _ _ _ y2)
  · have y3 : ord2 a b e f = 0 := by omega
    exact order_r5o a b e f w ht HX HX (comp_is _ _ _ _ _ y3) (comp_is _ _ _ _ _ y3)
end Go.Proofs.YtjhfjpofmkofhaaDoor
