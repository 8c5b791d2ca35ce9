/- Ways through the law SpotBegins where the reference's error is 10. -/
import Derived.Test.YtjhfjpofmkofhaaDoorFrame2
import Derived.Test.YtjhfjpofmkofhaaDoorCapitals
import Derived.Test.YtjhfjpofmkofhaaDoorBeginsDefs
namespace Go.Proofs.YtjhfjpofmkofhaaDoor
open Go.RowKit Go.Sort
set_option linter.unusedVariables false

set_option maxHeartbeats 2000000 in
set_option maxRecDepth 100000 in
theorem begins_10le (s more u T : ByteArray) (m : Nat) (w : World) (zs : s.size ≤ 1048576) (zm : more.size ≤ 1048576) (zT : T.size = m + 1) (hm : m < s.size) (hl1 : 48 ≤ (s[m].toNat : Int)) (hl2 : (s[m].toNat : Int) ≤ 57) (hn : m + 1 < s.size) (hc : (s[m + 1].toNat : Int) < 48) (hk : more.size = 0)
    (hu : s.extract 0 (m + 1) = u) (HB : BegunAt w) (HR : ReadRefIs s 0 0 false false (m + 1) 10) (HC : CapsIs u T) (HQ : ReadRefIs (T ++ more) 0 0 false false (m + 1) 10) :
    Calls Tryd.prog 5 #[.string s, .string more] w fun e w' => e = .returned (.bool true) ∧ Below w.heap.size w w' := by
  have zs' : s.size ≤ 9223372036854775807 := by omega
  have zm' : more.size ≤ 9223372036854775807 := by omega
  have ys : ¬ (1048576 : Int) < s.size := by omega
  have ym : ¬ (1048576 : Int) < more.size := by omega
  have i1 : (m : Int) + 1 ≤ s.size := by omega
  have i2 : ¬ (s.size : Int) < (m : Int) + 1 := by omega
  have i3 : (((m : Int) + 1) == 0) = false := by rw [beq_eq_false_iff_ne]; omega
  have i4 : ¬ (m : Int) + 1 < 0 := by omega
  have s1 := fun w => add_run (a := T) (b := more) (by omega) w
  have n1 : (m : Int) + 1 < s.size := by omega
  have k1 : ¬ 0 < more.size := by omega
  have k2 : ¬ (0 : Int) < more.size := by omega
  clear zT
  go_enter Tryd.func5, Tryd.ntmps5
  try simp only [List.append]
  go_wp2_with fail
  refine (HB.out _ (Below.refl _ _)).mono ?_
  rintro r w1 ⟨rfl, B1⟩
  go_wp2_with fail
  refine (HR.out _).mono ?_
  rintro r w2 ⟨rfl, hb2⟩
  have B2 := hide (next B1 hb2)
  clear B1 hb2
  go_wp2_with fail
  refine (HC.out _).mono ?_
  rintro r w5 ⟨rfl, hb5⟩
  have B5 := hide (next (step B2.out _) hb5)
  have cr := hide ((C4.new w2 (.int .i64 0) (.int .i64 0) (.bool false) (.bool false) 28).keep hb5)
  clear hb5
  go_wp2_with fail
  refine (HQ.out _).mono ?_
  rintro r w6 ⟨rfl, hb6⟩
  have B6 := hide (next B5.out hb6)
  replace cr := hide (cr.out.keep hb6)
  clear hb6
  obtain ⟨r0, r1, r2, r3⟩ := cr.out.any
  go_wp2_with fail
  go_ret
  exact ⟨rfl, step B6.out _⟩

set_option maxHeartbeats 2000000 in
set_option maxRecDepth 100000 in
theorem begins_10ld (s more u T : ByteArray) (m : Nat) (w : World) (zs : s.size ≤ 1048576) (zm : more.size ≤ 1048576) (zT : T.size = m + 1) (hm : m < s.size) (hl1 : 48 ≤ (s[m].toNat : Int)) (hl2 : (s[m].toNat : Int) ≤ 57) (hn : m + 1 < s.size) (hc : (s[m + 1].toNat : Int) < 48) (hk : 0 < more.size) (hd1 : 48 ≤ (more[0].toNat : Int)) (hd2 : (more[0].toNat : Int) ≤ 57)
    (hu : s.extract 0 (m + 1) = u) (HB : BegunAt w) (HR : ReadRefIs s 0 0 false false (m + 1) 10) (HC : CapsIs u T) :
    Calls Tryd.prog 5 #[.string s, .string more] w fun e w' => e = .returned (.bool true) ∧ Below w.heap.size w w' := by
  have zs' : s.size ≤ 9223372036854775807 := by omega
  have zm' : more.size ≤ 9223372036854775807 := by omega
  have ys : ¬ (1048576 : Int) < s.size := by omega
  have ym : ¬ (1048576 : Int) < more.size := by omega
  have i1 : (m : Int) + 1 ≤ s.size := by omega
  have i2 : ¬ (s.size : Int) < (m : Int) + 1 := by omega
  have i3 : (((m : Int) + 1) == 0) = false := by rw [beq_eq_false_iff_ne]; omega
  have i4 : ¬ (m : Int) + 1 < 0 := by omega
  have s1 := fun w => add_run (a := T) (b := more) (by omega) w
  have n1 : (m : Int) + 1 < s.size := by omega
  have k2 : (0 : Int) < more.size := by omega
  clear zT
  go_enter Tryd.func5, Tryd.ntmps5
  try simp only [List.append]
  go_wp2_with fail
  refine (HB.out _ (Below.refl _ _)).mono ?_
  rintro r w1 ⟨rfl, B1⟩
  go_wp2_with fail
  refine (HR.out _).mono ?_
  rintro r w2 ⟨rfl, hb2⟩
  have B2 := hide (next B1 hb2)
  clear B1 hb2
  go_wp2_with fail
  go_ret
  exact ⟨rfl, step B2.out _⟩

set_option maxHeartbeats 2000000 in
set_option maxRecDepth 100000 in
theorem begins_10ll (s more u T : ByteArray) (m : Nat) (w : World) (zs : s.size ≤ 1048576) (zm : more.size ≤ 1048576) (zT : T.size = m + 1) (hm : m < s.size) (hl1 : 48 ≤ (s[m].toNat : Int)) (hl2 : (s[m].toNat : Int) ≤ 57) (hn : m + 1 < s.size) (hc : (s[m + 1].toNat : Int) < 48) (hk : 0 < more.size) (hd : (more[0].toNat : Int) < 48)
    (hu : s.extract 0 (m + 1) = u) (HB : BegunAt w) (HR : ReadRefIs s 0 0 false false (m + 1) 10) (HC : CapsIs u T) (HQ : ReadRefIs (T ++ more) 0 0 false false (m + 1) 10) :
    Calls Tryd.prog 5 #[.string s, .string more] w fun e w' => e = .returned (.bool true) ∧ Below w.heap.size w w' := by
  have zs' : s.size ≤ 9223372036854775807 := by omega
  have zm' : more.size ≤ 9223372036854775807 := by omega
  have ys : ¬ (1048576 : Int) < s.size := by omega
  have ym : ¬ (1048576 : Int) < more.size := by omega
  have i1 : (m : Int) + 1 ≤ s.size := by omega
  have i2 : ¬ (s.size : Int) < (m : Int) + 1 := by omega
  have i3 : (((m : Int) + 1) == 0) = false := by rw [beq_eq_false_iff_ne]; omega
  have i4 : ¬ (m : Int) + 1 < 0 := by omega
  have s1 := fun w => add_run (a := T) (b := more) (by omega) w
  have n1 : (m : Int) + 1 < s.size := by omega
  have k2 : (0 : Int) < more.size := by omega
  clear zT
  go_enter Tryd.func5, Tryd.ntmps5
  try simp only [List.append]
  go_wp2_with fail
  refine (HB.out _ (Below.refl _ _)).mono ?_
  rintro r w1 ⟨rfl, B1⟩
  go_wp2_with fail
  refine (HR.out _).mono ?_
  rintro r w2 ⟨rfl, hb2⟩
  have B2 := hide (next B1 hb2)
  clear B1 hb2
  go_wp2_with fail
  refine (HC.out _).mono ?_
  rintro r w5 ⟨rfl, hb5⟩
  have B5 := hide (next (step B2.out _) hb5)
  have cr := hide ((C4.new w2 (.int .i64 0) (.int .i64 0) (.bool false) (.bool false) 28).keep hb5)
  clear hb5
  go_wp2_with fail
  refine (HQ.out _).mono ?_
  rintro r w6 ⟨rfl, hb6⟩
  have B6 := hide (next B5.out hb6)
  replace cr := hide (cr.out.keep hb6)
  clear hb6
  obtain ⟨r0, r1, r2, r3⟩ := cr.out.any
  go_wp2_with fail
  go_ret
  exact ⟨rfl, step B6.out _⟩

set_option maxHeartbeats 2000000 in
set_option maxRecDepth 100000 in
theorem begins_10lg (s more u T : ByteArray) (m : Nat) (w : World) (zs : s.size ≤ 1048576) (zm : more.size ≤ 1048576) (zT : T.size = m + 1) (hm : m < s.size) (hl1 : 48 ≤ (s[m].toNat : Int)) (hl2 : (s[m].toNat : Int) ≤ 57) (hn : m + 1 < s.size) (hc : (s[m + 1].toNat : Int) < 48) (hk : 0 < more.size) (hd : 57 < (more[0].toNat : Int))
    (hu : s.extract 0 (m + 1) = u) (HB : BegunAt w) (HR : ReadRefIs s 0 0 false false (m + 1) 10) (HC : CapsIs u T) (HQ : ReadRefIs (T ++ more) 0 0 false false (m + 1) 10) :
    Calls Tryd.prog 5 #[.string s, .string more] w fun e w' => e = .returned (.bool true) ∧ Below w.heap.size w w' := by
  have zs' : s.size ≤ 9223372036854775807 := by omega
  have zm' : more.size ≤ 9223372036854775807 := by omega
  have ys : ¬ (1048576 : Int) < s.size := by omega
  have ym : ¬ (1048576 : Int) < more.size := by omega
  have i1 : (m : Int) + 1 ≤ s.size := by omega
  have i2 : ¬ (s.size : Int) < (m : Int) + 1 := by omega
  have i3 : (((m : Int) + 1) == 0) = false := by rw [beq_eq_false_iff_ne]; omega
  have i4 : ¬ (m : Int) + 1 < 0 := by omega
  have s1 := fun w => add_run (a := T) (b := more) (by omega) w
  have n1 : (m : Int) + 1 < s.size := by omega
  have k2 : (0 : Int) < more.size := by omega
  have k3 : 48 ≤ (more[0].toNat : Int) := by omega
  clear zT
  go_enter Tryd.func5, Tryd.ntmps5
  try simp only [List.append]
  go_wp2_with fail
  refine (HB.out _ (Below.refl _ _)).mono ?_
  rintro r w1 ⟨rfl, B1⟩
  go_wp2_with fail
  refine (HR.out _).mono ?_
  rintro r w2 ⟨rfl, hb2⟩
  have B2 := hide (next B1 hb2)
  clear B1 hb2
  go_wp2_with fail
  refine (HC.out _).mono ?_
  rintro r w5 ⟨rfl, hb5⟩
  have B5 := hide (next (step B2.out _) hb5)
  have cr := hide ((C4.new w2 (.int .i64 0) (.int .i64 0) (.bool false) (.bool false) 28).keep hb5)
  clear hb5
  go_wp2_with fail
  refine (HQ.out _).mono ?_
  rintro r w6 ⟨rfl, hb6⟩
  have B6 := hide (next B5.out hb6)
  replace cr := hide (cr.out.keep hb6)
  clear hb6
  obtain ⟨r0, r1, r2, r3⟩ := cr.out.any
  go_wp2_with fail
  go_ret
  exact ⟨rfl, step B6.out _⟩

end Go.Proofs.YtjhfjpofmkofhaaDoor
