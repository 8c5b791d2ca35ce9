/- The law SpotThere returns true for every reference, whatever its numbers, and changes nothing that was there. -/
import Derived.Test.YtjhfjpofmkofhaaDoorFrame2
import Derived.Test.YtjhfjpofmkofhaaDoorDollars
namespace Go.Proofs.YtjhfjpofmkofhaaDoor
open Go.RowKit Go.Sort
set_option linter.unusedVariables false

set_option maxHeartbeats 1000000 in
set_option maxRecDepth 100000 in
theorem there_n1 (R C : Int) (p q : Bool) (w : World) (ht : Tab w) (h : R < 0) (hm : mayB R C = false) :
    Calls Tryd.prog 4 #[refV R C p q] w fun e w' => e = .returned (.bool true) ∧ Below w.heap.size w w' := by
  have HB := hide (fun (w1 : World) (hb : Below w.heap.size w w1) => begun_any w1 (tab_below ht hb))
  have HT := hide (fun w => text_no R C w hm)
  have HR := hide (fun w => refText_no R C p q w hm)
  clear ht
  go_enter Tryd.func4, Tryd.ntmps4
  try simp only [List.append]
  go_wp2_with fail
  refine (HB.out _ (by go_grown)).mono ?_
  rintro r w1 ⟨rfl, hb1⟩
  have B1 := hide (next (step (Below.refl w.heap.size w) _) hb1)
  have cr := hide ((C4.new w (.int .i64 R) (.int .i64 C) (.bool p) (.bool q) 28).keep hb1)
  obtain ⟨r0, r1, r2, r3⟩ := cr.out
  go_wp2_with fail
  refine (HT.out _).mono ?_
  rintro r w2 ⟨rfl, hb2⟩
  clear r0 r1 r2 r3
  have B2 := hide (next (step B1.out _) hb2)
  replace cr := hide ((cr.out.alloc _).keep hb2)
  have ca := hide ((C2.new w1 (.int .i64 R) (.int .i64 C) 26).keep hb2)
  obtain ⟨r0, r1, r2, r3⟩ := cr.out
  obtain ⟨a0, a1⟩ := ca.out
  go_wp2_with fail
  refine (HR.out _).mono ?_
  rintro r w3 ⟨rfl, hb3⟩
  clear r0 r1 r2 r3 a0 a1
  have B3 := hide (next B2.out hb3)
  replace cr := hide (cr.out.keep hb3)
  replace ca := hide (ca.out.keep hb3)
  obtain ⟨r0, r1, r2, r3⟩ := cr.out
  obtain ⟨a0, a1⟩ := ca.out
  go_wp2_with fail
  refine (may_any _ _ _).mono ?_
  rintro r w4 ⟨rfl, rfl⟩
  clear r0 r1 r2 r3 a0 a1
  obtain ⟨r0, r1, r2, r3⟩ := (cr.out.alloc (spotO R C))
  go_wp2_with fail
  go_ret
  exact ⟨rfl, step B3.out _⟩

set_option maxHeartbeats 1000000 in
set_option maxRecDepth 100000 in
theorem there_n2 (R C : Int) (p q : Bool) (w : World) (ht : Tab w) (h : 65535 < R) (hm : mayB R C = false) :
    Calls Tryd.prog 4 #[refV R C p q] w fun e w' => e = .returned (.bool true) ∧ Below w.heap.size w w' := by
  have HB := hide (fun (w1 : World) (hb : Below w.heap.size w w1) => begun_any w1 (tab_below ht hb))
  have HT := hide (fun w => text_no R C w hm)
  have HR := hide (fun w => refText_no R C p q w hm)
  have n1 : ¬ R < 0 := by omega
  clear ht
  go_enter Tryd.func4, Tryd.ntmps4
  try simp only [List.append]
  go_wp2_with fail
  refine (HB.out _ (by go_grown)).mono ?_
  rintro r w1 ⟨rfl, hb1⟩
  have B1 := hide (next (step (Below.refl w.heap.size w) _) hb1)
  have cr := hide ((C4.new w (.int .i64 R) (.int .i64 C) (.bool p) (.bool q) 28).keep hb1)
  obtain ⟨r0, r1, r2, r3⟩ := cr.out
  go_wp2_with fail
  refine (HT.out _).mono ?_
  rintro r w2 ⟨rfl, hb2⟩
  clear r0 r1 r2 r3
  have B2 := hide (next (step B1.out _) hb2)
  replace cr := hide ((cr.out.alloc _).keep hb2)
  have ca := hide ((C2.new w1 (.int .i64 R) (.int .i64 C) 26).keep hb2)
  obtain ⟨r0, r1, r2, r3⟩ := cr.out
  obtain ⟨a0, a1⟩ := ca.out
  go_wp2_with fail
  refine (HR.out _).mono ?_
  rintro r w3 ⟨rfl, hb3⟩
  clear r0 r1 r2 r3 a0 a1
  have B3 := hide (next B2.out hb3)
  replace cr := hide (cr.out.keep hb3)
  replace ca := hide (ca.out.keep hb3)
  obtain ⟨r0, r1, r2, r3⟩ := cr.out
  obtain ⟨a0, a1⟩ := ca.out
  go_wp2_with fail
  refine (may_any _ _ _).mono ?_
  rintro r w4 ⟨rfl, rfl⟩
  clear r0 r1 r2 r3 a0 a1
  obtain ⟨r0, r1, r2, r3⟩ := (cr.out.alloc (spotO R C))
  go_wp2_with fail
  go_ret
  exact ⟨rfl, step B3.out _⟩

set_option maxHeartbeats 1000000 in
set_option maxRecDepth 100000 in
theorem there_n3 (R C : Int) (p q : Bool) (w : World) (ht : Tab w) (h1 : 0 ≤ R) (h2 : R ≤ 65535) (h : C < 0) (hm : mayB R C = false) :
    Calls Tryd.prog 4 #[refV R C p q] w fun e w' => e = .returned (.bool true) ∧ Below w.heap.size w w' := by
  have HB := hide (fun (w1 : World) (hb : Below w.heap.size w w1) => begun_any w1 (tab_below ht hb))
  have HT := hide (fun w => text_no R C w hm)
  have HR := hide (fun w => refText_no R C p q w hm)
  clear ht
  go_enter Tryd.func4, Tryd.ntmps4
  try simp only [List.append]
  go_wp2_with fail
  refine (HB.out _ (by go_grown)).mono ?_
  rintro r w1 ⟨rfl, hb1⟩
  have B1 := hide (next (step (Below.refl w.heap.size w) _) hb1)
  have cr := hide ((C4.new w (.int .i64 R) (.int .i64 C) (.bool p) (.bool q) 28).keep hb1)
  obtain ⟨r0, r1, r2, r3⟩ := cr.out
  go_wp2_with fail
  refine (HT.out _).mono ?_
  rintro r w2 ⟨rfl, hb2⟩
  clear r0 r1 r2 r3
  have B2 := hide (next (step B1.out _) hb2)
  replace cr := hide ((cr.out.alloc _).keep hb2)
  have ca := hide ((C2.new w1 (.int .i64 R) (.int .i64 C) 26).keep hb2)
  obtain ⟨r0, r1, r2, r3⟩ := cr.out
  obtain ⟨a0, a1⟩ := ca.out
  go_wp2_with fail
  refine (HR.out _).mono ?_
  rintro r w3 ⟨rfl, hb3⟩
  clear r0 r1 r2 r3 a0 a1
  have B3 := hide (next B2.out hb3)
  replace cr := hide (cr.out.keep hb3)
  replace ca := hide (ca.out.keep hb3)
  obtain ⟨r0, r1, r2, r3⟩ := cr.out
  obtain ⟨a0, a1⟩ := ca.out
  go_wp2_with fail
  refine (may_any _ _ _).mono ?_
  rintro r w4 ⟨rfl, rfl⟩
  clear r0 r1 r2 r3 a0 a1
  obtain ⟨r0, r1, r2, r3⟩ := (cr.out.alloc (spotO R C))
  go_wp2_with fail
  go_ret
  exact ⟨rfl, step B3.out _⟩

set_option maxHeartbeats 1000000 in
set_option maxRecDepth 100000 in
theorem there_n4 (R C : Int) (p q : Bool) (w : World) (ht : Tab w) (h1 : 0 ≤ R) (h2 : R ≤ 65535) (h3 : 0 ≤ C) (h : 701 < C) (hm : mayB R C = false) :
    Calls Tryd.prog 4 #[refV R C p q] w fun e w' => e = .returned (.bool true) ∧ Below w.heap.size w w' := by
  have HB := hide (fun (w1 : World) (hb : Below w.heap.size w w1) => begun_any w1 (tab_below ht hb))
  have HT := hide (fun w => text_no R C w hm)
  have HR := hide (fun w => refText_no R C p q w hm)
  clear ht
  go_enter Tryd.func4, Tryd.ntmps4
  try simp only [List.append]
  go_wp2_with fail
  refine (HB.out _ (by go_grown)).mono ?_
  rintro r w1 ⟨rfl, hb1⟩
  have B1 := hide (next (step (Below.refl w.heap.size w) _) hb1)
  have cr := hide ((C4.new w (.int .i64 R) (.int .i64 C) (.bool p) (.bool q) 28).keep hb1)
  obtain ⟨r0, r1, r2, r3⟩ := cr.out
  go_wp2_with fail
  refine (HT.out _).mono ?_
  rintro r w2 ⟨rfl, hb2⟩
  clear r0 r1 r2 r3
  have B2 := hide (next (step B1.out _) hb2)
  replace cr := hide ((cr.out.alloc _).keep hb2)
  have ca := hide ((C2.new w1 (.int .i64 R) (.int .i64 C) 26).keep hb2)
  obtain ⟨r0, r1, r2, r3⟩ := cr.out
  obtain ⟨a0, a1⟩ := ca.out
  go_wp2_with fail
  refine (HR.out _).mono ?_
  rintro r w3 ⟨rfl, hb3⟩
  clear r0 r1 r2 r3 a0 a1
  have B3 := hide (next B2.out hb3)
  replace cr := hide (cr.out.keep hb3)
  replace ca := hide (ca.out.keep hb3)
  obtain ⟨r0, r1, r2, r3⟩ := cr.out
  obtain ⟨a0, a1⟩ := ca.out
  go_wp2_with fail
  refine (may_any _ _ _).mono ?_
  rintro r w4 ⟨rfl, rfl⟩
  clear r0 r1 r2 r3 a0 a1
  obtain ⟨r0, r1, r2, r3⟩ := (cr.out.alloc (spotO R C))
  go_wp2_with fail
  go_ret
  exact ⟨rfl, step B3.out _⟩

set_option maxHeartbeats 2000000 in
set_option maxRecDepth 100000 in
theorem there_yff (R C : Nat) (s t : ByteArray) (w : World) (hm : mayB R C = true) (zs : s.size ≤ 24) (zt : t.size ≤ 24) (z0 : 0 < t.size) (zz : t.size = s.size + 0) (h0 : ((t[0].toNat : Int) == 36) = false)
    (HB : Hid (∀ w1, Below w.heap.size w w1 → Calls Tryd.prog 8 #[] w1 fun e w' => e = .returned (.bool true) ∧ Below w1.heap.size w1 w'))
    (HT : Hid (∀ w1, Below w.heap.size w w1 → Calls Tryd.prog 10 #[spotV R C] w1 fun e w' => e = .returned (.tuple #[.string s, .int .i64 0]) ∧ Below w1.heap.size w1 w'))
    (HR : Hid (∀ w1, Below w.heap.size w w1 → Calls Tryd.prog 11 #[refV R C false false] w1 fun e w' => e = .returned (.tuple #[.string t, .int .i64 0]) ∧ Below w1.heap.size w1 w'))
    (HU : Hid (∀ w1, Below w.heap.size w w1 → Calls Tryd.prog 11 #[refV R C false false] w1 fun e w' => e = .returned (.tuple #[.string s, .int .i64 0]) ∧ Below w1.heap.size w1 w'))
    (HG : Hid (∀ w, Calls Tryd.prog 13 #[.string s] w fun e w' => e = .returned (.tuple #[spotV R C, .int .i64 0]) ∧ Below w.heap.size w w'))
    (HQ : Hid (∀ w, Calls Tryd.prog 14 #[.string t] w fun e w' => e = .returned (.tuple #[refV R C false false, .int .i64 t.size, .int .i64 0]) ∧ Below w.heap.size w w'))
    (HI : Hid (∀ w, Calls Tryd.prog 13 #[.string t] w fun e w' => e = .returned (.tuple #[spotV R C, .int .i64 0]) ∧ Below w.heap.size w w'))
    (HD : Hid (∀ w, Calls Tryd.prog 15 #[.string t] w fun e w' => e = .returned (.int .i64 0) ∧ Below w.heap.size w w')) :
    Calls Tryd.prog 4 #[refV R C false false] w fun e w' => e = .returned (.bool true) ∧ Below w.heap.size w w' := by
  have zs' : s.size ≤ 9223372036854775807 := by omega
  have zt' : t.size ≤ 9223372036854775807 := by omega
  have zz' : ((t.size : Int) == (s.size : Int) + 0) = true := by rw [beq_iff_eq]; omega
  have zz3 : ((t.size : Int) == (s.size : Int)) = true := by rw [beq_iff_eq]; omega
  have zz2 : (t.size == s.size) = true := by rw [beq_iff_eq]; omega
  clear zz
  go_enter Tryd.func4, Tryd.ntmps4
  try simp only [List.append]
  go_wp2_with fail
  refine (HB.out _ (by go_grown)).mono ?_
  rintro r w1 ⟨rfl, hb1⟩
  have B1 := hide (next (step (Below.refl w.heap.size w) _) hb1)
  have cr := hide ((C4.new w (.int .i64 R) (.int .i64 C) (.bool false) (.bool false) 28).keep hb1)
  obtain ⟨r0, r1, r2, r3⟩ := cr.out
  go_wp2_with fail
  refine (HT.out _ (step B1.out _)).mono ?_
  rintro r w2 ⟨rfl, hb2⟩
  clear r0 r1 r2 r3
  have B2 := hide (next (step B1.out _) hb2)
  replace cr := hide ((cr.out.alloc _).keep hb2)
  have ca := hide ((C2.new w1 (.int .i64 R) (.int .i64 C) 26).keep hb2)
  obtain ⟨r0, r1, r2, r3⟩ := cr.out
  obtain ⟨a0, a1⟩ := ca.out
  go_wp2_with fail
  refine (HR.out _ B2.out).mono ?_
  rintro r w3 ⟨rfl, hb3⟩
  clear r0 r1 r2 r3 a0 a1
  have B3 := hide (next B2.out hb3)
  replace cr := hide (cr.out.keep hb3)
  replace ca := hide (ca.out.keep hb3)
  obtain ⟨r0, r1, r2, r3⟩ := cr.out
  obtain ⟨a0, a1⟩ := ca.out
  go_wp2_with fail
  refine (may_any _ _ _).mono ?_
  rintro r w4 ⟨rfl, rfl⟩
  clear r0 r1 r2 r3 a0 a1
  replace cr := hide (cr.out.alloc (spotO R C))
  replace ca := hide (ca.out.alloc (spotO R C))
  have B4 := hide (step B3.out (spotO R C))
  go_wp2_with fail
  refine (HG.out _).mono ?_
  rintro r w5 ⟨rfl, hb5⟩
  have B5 := hide (next B4.out hb5)
  replace cr := hide (cr.out.keep hb5)
  replace ca := hide (ca.out.keep hb5)
  go_wp2_with fail
  refine (HQ.out _).mono ?_
  rintro r w6 ⟨rfl, hb6⟩
  have B6 := hide (next (step B5.out _) hb6)
  replace cr := hide ((cr.out.alloc _).keep hb6)
  replace ca := hide ((ca.out.alloc _).keep hb6)
  have cb := hide ((C2.new w5 (.int .i64 R) (.int .i64 C) 26).keep hb6)
  obtain ⟨r0, r1, r2, r3⟩ := cr.out.any
  obtain ⟨a0, a1⟩ := ca.out.any
  obtain ⟨b0, b1⟩ := cb.out.any
  go_wp2_with fail
  refine (HU.out _ (step (step B6.out _) _)).mono ?_
  rintro r w7 ⟨rfl, hb7⟩
  clear r0 r1 r2 r3 a0 a1 b0 b1
  have B7 := hide (next (step (step B6.out _) _) hb7)
  replace cr := hide (((cr.out.alloc _).alloc _).keep hb7)
  go_wp2_with fail
  refine (HI.out _).mono ?_
  rintro r w8 ⟨rfl, hb8⟩
  have B8 := hide (next B7.out hb8)
  replace cr := hide (cr.out.keep hb8)
  go_wp2_with fail
  have r3 := cell_regrown (cr.out.alloc (spotO R C)).2.2.2
  have cD := fun d os => Calls.regrown_of (HD.out (grow (redrawn (w8.alloc (spotO R C)) d) os))
  refine wp_region_quiet_below (by kernel_rfl) (by kernel_rfl) ?_
  repeat (go_big_quiet_step (with_reducible exact cD _ _))
  refine wpQuiet_nil ?_
  intro _ hw'
  obtain ⟨⟨dq, osq⟩, hw''⟩ := hw'
  subst hw''
  go_wp2_with fail
  go_ret
  exact ⟨rfl, next (step B8.out _) (below_regrown _ dq osq)⟩

set_option maxHeartbeats 2000000 in
set_option maxRecDepth 100000 in
theorem there_yft (R C : Nat) (s t : ByteArray) (w : World) (hm : mayB R C = true) (zs : s.size ≤ 24) (zt : t.size ≤ 24) (z0 : 0 < t.size) (zz : t.size = s.size + 1) (h0 : ((t[0].toNat : Int) == 36) = true)
    (HB : Hid (∀ w1, Below w.heap.size w w1 → Calls Tryd.prog 8 #[] w1 fun e w' => e = .returned (.bool true) ∧ Below w1.heap.size w1 w'))
    (HT : Hid (∀ w1, Below w.heap.size w w1 → Calls Tryd.prog 10 #[spotV R C] w1 fun e w' => e = .returned (.tuple #[.string s, .int .i64 0]) ∧ Below w1.heap.size w1 w'))
    (HR : Hid (∀ w1, Below w.heap.size w w1 → Calls Tryd.prog 11 #[refV R C false true] w1 fun e w' => e = .returned (.tuple #[.string t, .int .i64 0]) ∧ Below w1.heap.size w1 w'))
    (HU : Hid (∀ w1, Below w.heap.size w w1 → Calls Tryd.prog 11 #[refV R C false false] w1 fun e w' => e = .returned (.tuple #[.string s, .int .i64 0]) ∧ Below w1.heap.size w1 w'))
    (HG : Hid (∀ w, Calls Tryd.prog 13 #[.string s] w fun e w' => e = .returned (.tuple #[spotV R C, .int .i64 0]) ∧ Below w.heap.size w w'))
    (HQ : Hid (∀ w, Calls Tryd.prog 14 #[.string t] w fun e w' => e = .returned (.tuple #[refV R C false true, .int .i64 t.size, .int .i64 0]) ∧ Below w.heap.size w w'))
    (HI : Hid (∀ w, Calls Tryd.prog 13 #[.string t] w fun e w' => e = .returned (.tuple #[spotV 0 0, .int .i64 20]) ∧ Below w.heap.size w w'))
    (HD : Hid (∀ w, Calls Tryd.prog 15 #[.string t] w fun e w' => e = .returned (.int .i64 1) ∧ Below w.heap.size w w')) :
    Calls Tryd.prog 4 #[refV R C false true] w fun e w' => e = .returned (.bool true) ∧ Below w.heap.size w w' := by
  have zs' : s.size ≤ 9223372036854775807 := by omega
  have zt' : t.size ≤ 9223372036854775807 := by omega
  have zz' : ((t.size : Int) == (s.size : Int) + 1) = true := by rw [beq_iff_eq]; omega
  have zz3 : ((t.size : Int) == (s.size : Int)) = false := by rw [beq_eq_false_iff_ne]; omega
  have zz2 : (t.size == s.size + 1) = true := by rw [beq_iff_eq]; omega
  clear zz
  go_enter Tryd.func4, Tryd.ntmps4
  try simp only [List.append]
  go_wp2_with fail
  refine (HB.out _ (by go_grown)).mono ?_
  rintro r w1 ⟨rfl, hb1⟩
  have B1 := hide (next (step (Below.refl w.heap.size w) _) hb1)
  have cr := hide ((C4.new w (.int .i64 R) (.int .i64 C) (.bool false) (.bool true) 28).keep hb1)
  obtain ⟨r0, r1, r2, r3⟩ := cr.out
  go_wp2_with fail
  refine (HT.out _ (step B1.out _)).mono ?_
  rintro r w2 ⟨rfl, hb2⟩
  clear r0 r1 r2 r3
  have B2 := hide (next (step B1.out _) hb2)
  replace cr := hide ((cr.out.alloc _).keep hb2)
  have ca := hide ((C2.new w1 (.int .i64 R) (.int .i64 C) 26).keep hb2)
  obtain ⟨r0, r1, r2, r3⟩ := cr.out
  obtain ⟨a0, a1⟩ := ca.out
  go_wp2_with fail
  refine (HR.out _ B2.out).mono ?_
  rintro r w3 ⟨rfl, hb3⟩
  clear r0 r1 r2 r3 a0 a1
  have B3 := hide (next B2.out hb3)
  replace cr := hide (cr.out.keep hb3)
  replace ca := hide (ca.out.keep hb3)
  obtain ⟨r0, r1, r2, r3⟩ := cr.out
  obtain ⟨a0, a1⟩ := ca.out
  go_wp2_with fail
  refine (may_any _ _ _).mono ?_
  rintro r w4 ⟨rfl, rfl⟩
  clear r0 r1 r2 r3 a0 a1
  replace cr := hide (cr.out.alloc (spotO R C))
  replace ca := hide (ca.out.alloc (spotO R C))
  have B4 := hide (step B3.out (spotO R C))
  go_wp2_with fail
  refine (HG.out _).mono ?_
  rintro r w5 ⟨rfl, hb5⟩
  have B5 := hide (next B4.out hb5)
  replace cr := hide (cr.out.keep hb5)
  replace ca := hide (ca.out.keep hb5)
  go_wp2_with fail
  refine (HQ.out _).mono ?_
  rintro r w6 ⟨rfl, hb6⟩
  have B6 := hide (next (step B5.out _) hb6)
  replace cr := hide ((cr.out.alloc _).keep hb6)
  replace ca := hide ((ca.out.alloc _).keep hb6)
  have cb := hide ((C2.new w5 (.int .i64 R) (.int .i64 C) 26).keep hb6)
  obtain ⟨r0, r1, r2, r3⟩ := cr.out.any
  obtain ⟨a0, a1⟩ := ca.out.any
  obtain ⟨b0, b1⟩ := cb.out.any
  go_wp2_with fail
  refine (HU.out _ (step (step B6.out _) _)).mono ?_
  rintro r w7 ⟨rfl, hb7⟩
  clear r0 r1 r2 r3 a0 a1 b0 b1
  have B7 := hide (next (step (step B6.out _) _) hb7)
  replace cr := hide (((cr.out.alloc _).alloc _).keep hb7)
  go_wp2_with fail
  refine (HI.out _).mono ?_
  rintro r w8 ⟨rfl, hb8⟩
  have B8 := hide (next B7.out hb8)
  replace cr := hide (cr.out.keep hb8)
  go_wp2_with fail
  have r3 := cell_regrown (cr.out.alloc (spotO 0 0)).2.2.2
  have cD := fun d os => Calls.regrown_of (HD.out (grow (redrawn (w8.alloc (spotO 0 0)) d) os))
  refine wp_region_quiet_below (by kernel_rfl) (by kernel_rfl) ?_
  repeat (go_big_quiet_step (with_reducible exact cD _ _))
  refine wpQuiet_nil ?_
  intro _ hw'
  obtain ⟨⟨dq, osq⟩, hw''⟩ := hw'
  subst hw''
  go_wp2_with fail
  go_ret
  exact ⟨rfl, next (step B8.out _) (below_regrown _ dq osq)⟩

set_option maxHeartbeats 2000000 in
set_option maxRecDepth 100000 in
theorem there_ytf (R C : Nat) (s t : ByteArray) (w : World) (hm : mayB R C = true) (zs : s.size ≤ 24) (zt : t.size ≤ 24) (z0 : 0 < t.size) (zz : t.size = s.size + 1) (h0 : ((t[0].toNat : Int) == 36) = false)
    (HB : Hid (∀ w1, Below w.heap.size w w1 → Calls Tryd.prog 8 #[] w1 fun e w' => e = .returned (.bool true) ∧ Below w1.heap.size w1 w'))
    (HT : Hid (∀ w1, Below w.heap.size w w1 → Calls Tryd.prog 10 #[spotV R C] w1 fun e w' => e = .returned (.tuple #[.string s, .int .i64 0]) ∧ Below w1.heap.size w1 w'))
    (HR : Hid (∀ w1, Below w.heap.size w w1 → Calls Tryd.prog 11 #[refV R C true false] w1 fun e w' => e = .returned (.tuple #[.string t, .int .i64 0]) ∧ Below w1.heap.size w1 w'))
    (HU : Hid (∀ w1, Below w.heap.size w w1 → Calls Tryd.prog 11 #[refV R C false false] w1 fun e w' => e = .returned (.tuple #[.string s, .int .i64 0]) ∧ Below w1.heap.size w1 w'))
    (HG : Hid (∀ w, Calls Tryd.prog 13 #[.string s] w fun e w' => e = .returned (.tuple #[spotV R C, .int .i64 0]) ∧ Below w.heap.size w w'))
    (HQ : Hid (∀ w, Calls Tryd.prog 14 #[.string t] w fun e w' => e = .returned (.tuple #[refV R C true false, .int .i64 t.size, .int .i64 0]) ∧ Below w.heap.size w w'))
    (HI : Hid (∀ w, Calls Tryd.prog 13 #[.string t] w fun e w' => e = .returned (.tuple #[spotV 0 0, .int .i64 20]) ∧ Below w.heap.size w w'))
    (HD : Hid (∀ w, Calls Tryd.prog 15 #[.string t] w fun e w' => e = .returned (.int .i64 1) ∧ Below w.heap.size w w')) :
    Calls Tryd.prog 4 #[refV R C true false] w fun e w' => e = .returned (.bool true) ∧ Below w.heap.size w w' := by
  have zs' : s.size ≤ 9223372036854775807 := by omega
  have zt' : t.size ≤ 9223372036854775807 := by omega
  have zz' : ((t.size : Int) == (s.size : Int) + 1) = true := by rw [beq_iff_eq]; omega
  have zz3 : ((t.size : Int) == (s.size : Int)) = false := by rw [beq_eq_false_iff_ne]; omega
  have zz2 : (t.size == s.size + 1) = true := by rw [beq_iff_eq]; omega
  clear zz
  go_enter Tryd.func4, Tryd.ntmps4
  try simp only [List.append]
  go_wp2_with fail
  refine (HB.out _ (by go_grown)).mono ?_
  rintro r w1 ⟨rfl, hb1⟩
  have B1 := hide (next (step (Below.refl w.heap.size w) _) hb1)
  have cr := hide ((C4.new w (.int .i64 R) (.int .i64 C) (.bool true) (.bool false) 28).keep hb1)
  obtain ⟨r0, r1, r2, r3⟩ := cr.out
  go_wp2_with fail
  refine (HT.out _ (step B1.out _)).mono ?_
  rintro r w2 ⟨rfl, hb2⟩
  clear r0 r1 r2 r3
  have B2 := hide (next (step B1.out _) hb2)
  replace cr := hide ((cr.out.alloc _).keep hb2)
  have ca := hide ((C2.new w1 (.int .i64 R) (.int .i64 C) 26).keep hb2)
  obtain ⟨r0, r1, r2, r3⟩ := cr.out
  obtain ⟨a0, a1⟩ := ca.out
  go_wp2_with fail
  refine (HR.out _ B2.out).mono ?_
  rintro r w3 ⟨rfl, hb3⟩
  clear r0 r1 r2 r3 a0 a1
  have B3 := hide (next B2.out hb3)
  replace cr := hide (cr.out.keep hb3)
  replace ca := hide (ca.out.keep hb3)
  obtain ⟨r0, r1, r2, r3⟩ := cr.out
  obtain ⟨a0, a1⟩ := ca.out
  go_wp2_with fail
  refine (may_any _ _ _).mono ?_
  rintro r w4 ⟨rfl, rfl⟩
  clear r0 r1 r2 r3 a0 a1
  replace cr := hide (cr.out.alloc (spotO R C))
  replace ca := hide (ca.out.alloc (spotO R C))
  have B4 := hide (step B3.out (spotO R C))
  go_wp2_with fail
  refine (HG.out _).mono ?_
  rintro r w5 ⟨rfl, hb5⟩
  have B5 := hide (next B4.out hb5)
  replace cr := hide (cr.out.keep hb5)
  replace ca := hide (ca.out.keep hb5)
  go_wp2_with fail
  refine (HQ.out _).mono ?_
  rintro r w6 ⟨rfl, hb6⟩
  have B6 := hide (next (step B5.out _) hb6)
  replace cr := hide ((cr.out.alloc _).keep hb6)
  replace ca := hide ((ca.out.alloc _).keep hb6)
  have cb := hide ((C2.new w5 (.int .i64 R) (.int .i64 C) 26).keep hb6)
  obtain ⟨r0, r1, r2, r3⟩ := cr.out.any
  obtain ⟨a0, a1⟩ := ca.out.any
  obtain ⟨b0, b1⟩ := cb.out.any
  go_wp2_with fail
  refine (HU.out _ (step (step B6.out _) _)).mono ?_
  rintro r w7 ⟨rfl, hb7⟩
  clear r0 r1 r2 r3 a0 a1 b0 b1
  have B7 := hide (next (step (step B6.out _) _) hb7)
  replace cr := hide (((cr.out.alloc _).alloc _).keep hb7)
  go_wp2_with fail
  refine (HI.out _).mono ?_
  rintro r w8 ⟨rfl, hb8⟩
  have B8 := hide (next B7.out hb8)
  replace cr := hide (cr.out.keep hb8)
  go_wp2_with fail
  have r3 := cell_regrown (cr.out.alloc (spotO 0 0)).2.2.2
  have cD := fun d os => Calls.regrown_of (HD.out (grow (redrawn (w8.alloc (spotO 0 0)) d) os))
  refine wp_region_quiet_below (by kernel_rfl) (by kernel_rfl) ?_
  repeat (go_big_quiet_step (with_reducible exact cD _ _))
  refine wpQuiet_nil ?_
  intro _ hw'
  obtain ⟨⟨dq, osq⟩, hw''⟩ := hw'
  subst hw''
  go_wp2_with fail
  go_ret
  exact ⟨rfl, next (step B8.out _) (below_regrown _ dq osq)⟩

set_option maxHeartbeats 2000000 in
set_option maxRecDepth 100000 in
theorem there_ytt (R C : Nat) (s t : ByteArray) (w : World) (hm : mayB R C = true) (zs : s.size ≤ 24) (zt : t.size ≤ 24) (z0 : 0 < t.size) (zz : t.size = s.size + 2) (h0 : ((t[0].toNat : Int) == 36) = true)
    (HB : Hid (∀ w1, Below w.heap.size w w1 → Calls Tryd.prog 8 #[] w1 fun e w' => e = .returned (.bool true) ∧ Below w1.heap.size w1 w'))
    (HT : Hid (∀ w1, Below w.heap.size w w1 → Calls Tryd.prog 10 #[spotV R C] w1 fun e w' => e = .returned (.tuple #[.string s, .int .i64 0]) ∧ Below w1.heap.size w1 w'))
    (HR : Hid (∀ w1, Below w.heap.size w w1 → Calls Tryd.prog 11 #[refV R C true true] w1 fun e w' => e = .returned (.tuple #[.string t, .int .i64 0]) ∧ Below w1.heap.size w1 w'))
    (HU : Hid (∀ w1, Below w.heap.size w w1 → Calls Tryd.prog 11 #[refV R C false false] w1 fun e w' => e = .returned (.tuple #[.string s, .int .i64 0]) ∧ Below w1.heap.size w1 w'))
    (HG : Hid (∀ w, Calls Tryd.prog 13 #[.string s] w fun e w' => e = .returned (.tuple #[spotV R C, .int .i64 0]) ∧ Below w.heap.size w w'))
    (HQ : Hid (∀ w, Calls Tryd.prog 14 #[.string t] w fun e w' => e = .returned (.tuple #[refV R C true true, .int .i64 t.size, .int .i64 0]) ∧ Below w.heap.size w w'))
    (HI : Hid (∀ w, Calls Tryd.prog 13 #[.string t] w fun e w' => e = .returned (.tuple #[spotV 0 0, .int .i64 20]) ∧ Below w.heap.size w w'))
    (HD : Hid (∀ w, Calls Tryd.prog 15 #[.string t] w fun e w' => e = .returned (.int .i64 2) ∧ Below w.heap.size w w')) :
    Calls Tryd.prog 4 #[refV R C true true] w fun e w' => e = .returned (.bool true) ∧ Below w.heap.size w w' := by
  have zs' : s.size ≤ 9223372036854775807 := by omega
  have zt' : t.size ≤ 9223372036854775807 := by omega
  have zz' : ((t.size : Int) == (s.size : Int) + 2) = true := by rw [beq_iff_eq]; omega
  have zz3 : ((t.size : Int) == (s.size : Int)) = false := by rw [beq_eq_false_iff_ne]; omega
  have zz2 : (t.size == s.size + 2) = true := by rw [beq_iff_eq]; omega
  clear zz
  go_enter Tryd.func4, Tryd.ntmps4
  try simp only [List.append]
  go_wp2_with fail
  refine (HB.out _ (by go_grown)).mono ?_
  rintro r w1 ⟨rfl, hb1⟩
  have B1 := hide (next (step (Below.refl w.heap.size w) _) hb1)
  have cr := hide ((C4.new w (.int .i64 R) (.int .i64 C) (.bool true) (.bool true) 28).keep hb1)
  obtain ⟨r0, r1, r2, r3⟩ := cr.out
  go_wp2_with fail
  refine (HT.out _ (step B1.out _)).mono ?_
  rintro r w2 ⟨rfl, hb2⟩
  clear r0 r1 r2 r3
  have B2 := hide (next (step B1.out _) hb2)
  replace cr := hide ((cr.out.alloc _).keep hb2)
  have ca := hide ((C2.new w1 (.int .i64 R) (.int .i64 C) 26).keep hb2)
  obtain ⟨r0, r1, r2, r3⟩ := cr.out
  obtain ⟨a0, a1⟩ := ca.out
  go_wp2_with fail
  refine (HR.out _ B2.out).mono ?_
  rintro r w3 ⟨rfl, hb3⟩
  clear r0 r1 r2 r3 a0 a1
  have B3 := hide (next B2.out hb3)
  replace cr := hide (cr.out.keep hb3)
  replace ca := hide (ca.out.keep hb3)
  obtain ⟨r0, r1, r2, r3⟩ := cr.out
  obtain ⟨a0, a1⟩ := ca.out
  go_wp2_with fail
  refine (may_any _ _ _).mono ?_
  rintro r w4 ⟨rfl, rfl⟩
  clear r0 r1 r2 r3 a0 a1
  replace cr := hide (cr.out.alloc (spotO R C))
  replace ca := hide (ca.out.alloc (spotO R C))
  have B4 := hide (step B3.out (spotO R C))
  go_wp2_with fail
  refine (HG.out _).mono ?_
  rintro r w5 ⟨rfl, hb5⟩
  have B5 := hide (next B4.out hb5)
  replace cr := hide (cr.out.keep hb5)
  replace ca := hide (ca.out.keep hb5)
  go_wp2_with fail
  refine (HQ.out _).mono ?_
  rintro r w6 ⟨rfl, hb6⟩
  have B6 := hide (next (step B5.out _) hb6)
  replace cr := hide ((cr.out.alloc _).keep hb6)
  replace ca := hide ((ca.out.alloc _).keep hb6)
  have cb := hide ((C2.new w5 (.int .i64 R) (.int .i64 C) 26).keep hb6)
  obtain ⟨r0, r1, r2, r3⟩ := cr.out.any
  obtain ⟨a0, a1⟩ := ca.out.any
  obtain ⟨b0, b1⟩ := cb.out.any
  go_wp2_with fail
  refine (HU.out _ (step (step B6.out _) _)).mono ?_
  rintro r w7 ⟨rfl, hb7⟩
  clear r0 r1 r2 r3 a0 a1 b0 b1
  have B7 := hide (next (step (step B6.out _) _) hb7)
  replace cr := hide (((cr.out.alloc _).alloc _).keep hb7)
  go_wp2_with fail
  refine (HI.out _).mono ?_
  rintro r w8 ⟨rfl, hb8⟩
  have B8 := hide (next B7.out hb8)
  replace cr := hide (cr.out.keep hb8)
  go_wp2_with fail
  have r3 := cell_regrown (cr.out.alloc (spotO 0 0)).2.2.2
  have cD := fun d os => Calls.regrown_of (HD.out (grow (redrawn (w8.alloc (spotO 0 0)) d) os))
  refine wp_region_quiet_below (by kernel_rfl) (by kernel_rfl) ?_
  repeat (go_big_quiet_step (with_reducible exact cD _ _))
  refine wpQuiet_nil ?_
  intro _ hw'
  obtain ⟨⟨dq, osq⟩, hw''⟩ := hw'
  subst hw''
  go_wp2_with fail
  go_ret
  exact ⟨rfl, next (step B8.out _) (below_regrown _ dq osq)⟩

theorem spotThere_walk (R C : Int) (p q : Bool) (w : World) (ht : Tab w) :
    Calls Tryd.prog 4 #[refV R C p q] w fun e w' => e = .returned (.bool true) ∧ Below w.heap.size w w' := by
  by_cases h1 : R < 0
  · exact there_n1 R C p q w ht h1 (by simp [mayB]; omega)
  by_cases h2 : 65535 < R
  · exact there_n2 R C p q w ht h2 (by simp [mayB]; omega)
  by_cases h3 : C < 0
  · exact there_n3 R C p q w ht (by omega) (by omega) h3 (by simp [mayB]; omega)
  by_cases h4 : 701 < C
  · exact there_n4 R C p q w ht (by omega) (by omega) (by omega) h4 (by simp [mayB]; omega)
  obtain ⟨r, rfl⟩ : ∃ r : Nat, R = r := ⟨R.toNat, by omega⟩
  obtain ⟨c, rfl⟩ : ∃ c : Nat, C = c := ⟨C.toNat, by omega⟩
  have hr : r < 65536 := by omega
  have hc : c < 702 := by omega
  have hm : mayB r c = true := by simp [mayB]; omega
  have HB := hide (fun (w1 : World) (hb : Below w.heap.size w w1) => begun_any w1 (tab_below ht hb))
  have HT := hide (fun (w1 : World) (hb : Below w.heap.size w w1) => text_yes r c w1 hr hc (tab_below ht hb))
  have HU := hide (fun (w1 : World) (hb : Below w.heap.size w w1) => refText_yes r c false false w1 hr hc (tab_below ht hb))
  have HR := hide (fun (w1 : World) (hb : Below w.heap.size w w1) => refText_yes r c p q w1 hr hc (tab_below ht hb))
  have bs := refB_bounds r c false false hr hc
  have bt := refB_bounds r c p q hr hc
  have zs : (refB r c false false).size ≤ maxLen := by unfold maxLen; omega
  have zt : (refB r c p q).size ≤ maxLen := by unfold maxLen; omega
  have zz := refB_size r c p q hc
  have h0 := head_ref r c p q hc (by omega)
  have ks := read_ref (refB r c false false) r c false false [] hr hc (by simp) rfl
  have kt := read_ref (refB r c p q) r c p q [] hr hc (by simp) rfl
  have HG : Hid (∀ w, Calls Tryd.prog 13 #[.string (refB r c false false)] w fun e w' => e = .returned (.tuple #[spotV r c, .int .i64 0]) ∧ Below w.heap.size w w') := hide fun w => by
    have := read_good (refB r c false false) w zs (rdBad_ref r c false false hr hc)
    rwa [ks.1, ks.2.1, ks.2.2.1] at this
  have HQ : Hid (∀ w, Calls Tryd.prog 14 #[.string (refB r c p q)] w fun e w' => e = .returned (.tuple #[refV r c p q, .int .i64 (refB r c p q).size, .int .i64 0]) ∧ Below w.heap.size w w') := hide fun w => by
    have := readRef_any (refB r c p q) w zt
    rw [kt.1, kt.2.1, kt.2.2.1, kt.2.2.2.1, kt.2.2.2.2.1, kt.2.2.2.2.2] at this
    exact this.mono fun e w' ⟨h, h'⟩ => ⟨h, h' ▸ (Below.refl _ _).alloc (Nat.le_refl _) _⟩
  have HD : Hid (∀ w, Calls Tryd.prog 15 #[.string (refB r c p q)] w fun e w' => e = .returned (.int .i64 (pinsOf p q)) ∧ Below w.heap.size w w') := hide fun w => by
    have := dollars_any (refB r c p q) w zt
    rw [pinsIn_ref r c p q hc] at this
    exact this.mono fun e w' ⟨h, h'⟩ => ⟨h, h' ▸ Below.refl _ _⟩
  have HI : Hid (∀ w, Calls Tryd.prog 13 #[.string (refB r c p q)] w fun e w' => e = .returned (if p || q then .tuple #[spotV 0 0, .int .i64 20] else .tuple #[spotV r c, .int .i64 0]) ∧ Below w.heap.size w w') := hide fun w => by
    have hb := rdBad_ref r c p q hr hc
    cases hpq : (p || q)
    · rw [hpq] at hb
      have := read_good (refB r c p q) w zt hb
      rwa [kt.1, kt.2.1, kt.2.2.1] at this
    · rw [hpq] at hb
      exact read_bad (refB r c p q) w zt hb
  clear ks kt
  cases p <;> cases q
  · exact there_yff r c _ _ w hm (by omega) (by omega) (by omega) zz h0 HB HT HR HU HG HQ HI HD
  · exact there_yft r c _ _ w hm (by omega) (by omega) (by omega) zz h0 HB HT HR HU HG HQ HI HD
  · exact there_ytf r c _ _ w hm (by omega) (by omega) (by omega) zz h0 HB HT HR HU HG HQ HI HD
  · exact there_ytt r c _ _ w hm (by omega) (by omega) (by omega) zz h0 HB HT HR HU HG HQ HI HD
end Go.Proofs.YtjhfjpofmkofhaaDoor
