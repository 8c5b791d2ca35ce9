/- What the reference's RefText answers where the place is there: the text that package spot writes. Proved of the Go text. -/
import Derived.Test.YtjhfjpofmkofhaaDoorR2Text
namespace Go.Proofs.YtjhfjpofmkofhaaDoor
open Go.RowKit Go.Sort
set_option linter.unusedVariables false

theorem parts_00 (r c : Nat) : letB c ++ numeral (r + 1) = refB r c false false := by
  apply ba_eq
  unfold refB
  simp only [append_data, pinB_data]
  simp [pinL]
set_option maxHeartbeats 1000000 in
theorem refTextR_00 (r c : Nat) (w : World) (h1 : r < 65536) (h2 : c < 702) :
    Calls Tryd.prog 22 #[refV r c false false] w fun e w' => e = .returned (.tuple #[.string (refB r c false false), .int .i64 0]) ∧ Below w.heap.size w w' := by
  have hm : mayB r c = true := by simp [mayB]; omega
  have HE := hide (parts_00 r c)
  have z3 := letB_size c
  have z4 := (numeral_len (r + 1) (by omega) (by omega)).2
  have s3 := fun w => add_run (a := letB c) (b := numeral (r + 1)) (by show (letB c).size + (numeral (r + 1)).size ≤ _; omega) w
  clear z3 z4
  have cr := hide ((C4.new w (.int .i64 r) (.int .i64 c) (.bool false) (.bool false) 28).alloc (spotO r c))
  have B0 := hide (step (step (Below.refl w.heap.size w) (refO r c false false)) (spotO r c))
  have HL := hide (fun w => lettersR c w h2)
  have HD := hide (fun w => digitsR (r + 1) w (by omega))
  rw [show ((r + 1 : Nat) : Int) = (r : Int) + 1 from rfl] at HD
  go_enter Tryd.func22, Tryd.ntmps22
  go_wp2_with (go_at_call 19; refine (refMay_any _ _ _).mono ?_; rintro e w' ⟨rfl, rfl⟩)
  refine (HL.out _).mono ?_
  rintro e w1 ⟨rfl, hb1⟩
  replace cr := hide (cr.out.keep hb1)
  obtain ⟨r0, r1, r2, r3⟩ := cr.out
  go_wp2_with fail
  refine (HD.out _).mono ?_
  rintro e w2 ⟨rfl, hb2⟩
  go_wp2_with fail
  go_ret2
  rw [← HE.out]
  exact ⟨rfl, next (next B0.out hb1) hb2⟩

theorem parts_01 (r c : Nat) : ({ data := #[36] } ++ letB c) ++ numeral (r + 1) = refB r c false true := by
  apply ba_eq
  unfold refB
  simp only [append_data, pinB_data]
  simp [pinL]
set_option maxHeartbeats 1000000 in
theorem refTextR_01 (r c : Nat) (w : World) (h1 : r < 65536) (h2 : c < 702) :
    Calls Tryd.prog 22 #[refV r c false true] w fun e w' => e = .returned (.tuple #[.string (refB r c false true), .int .i64 0]) ∧ Below w.heap.size w w' := by
  have hm : mayB r c = true := by simp [mayB]; omega
  have HE := hide (parts_01 r c)
  have z3 := letB_size c
  have z4 := (numeral_len (r + 1) (by omega) (by omega)).2
  have s1 := fun w => add_run (a := { data := #[36] }) (b := letB c) (by show 1 + (letB c).size ≤ _; omega) w
  have s3 := fun w => add_run (a := ({ data := #[36] } ++ letB c)) (b := numeral (r + 1)) (by rw [ByteArray.size_append]; show 1 + (letB c).size + (numeral (r + 1)).size ≤ _; omega) w
  clear z3 z4
  have cr := hide ((C4.new w (.int .i64 r) (.int .i64 c) (.bool false) (.bool true) 28).alloc (spotO r c))
  have B0 := hide (step (step (Below.refl w.heap.size w) (refO r c false true)) (spotO r c))
  have HL := hide (fun w => lettersR c w h2)
  have HD := hide (fun w => digitsR (r + 1) w (by omega))
  rw [show ((r + 1 : Nat) : Int) = (r : Int) + 1 from rfl] at HD
  go_enter Tryd.func22, Tryd.ntmps22
  go_wp2_with (go_at_call 19; refine (refMay_any _ _ _).mono ?_; rintro e w' ⟨rfl, rfl⟩)
  refine (HL.out _).mono ?_
  rintro e w1 ⟨rfl, hb1⟩
  replace cr := hide (cr.out.keep hb1)
  obtain ⟨r0, r1, r2, r3⟩ := cr.out
  go_wp2_with fail
  refine (HD.out _).mono ?_
  rintro e w2 ⟨rfl, hb2⟩
  go_wp2_with fail
  go_ret2
  rw [← HE.out]
  exact ⟨rfl, next (next B0.out hb1) hb2⟩

theorem parts_10 (r c : Nat) : (letB c ++ { data := #[36] }) ++ numeral (r + 1) = refB r c true false := by
  apply ba_eq
  unfold refB
  simp only [append_data, pinB_data]
  simp [pinL]
set_option maxHeartbeats 1000000 in
theorem refTextR_10 (r c : Nat) (w : World) (h1 : r < 65536) (h2 : c < 702) :
    Calls Tryd.prog 22 #[refV r c true false] w fun e w' => e = .returned (.tuple #[.string (refB r c true false), .int .i64 0]) ∧ Below w.heap.size w w' := by
  have hm : mayB r c = true := by simp [mayB]; omega
  have HE := hide (parts_10 r c)
  have z3 := letB_size c
  have z4 := (numeral_len (r + 1) (by omega) (by omega)).2
  have s2 := fun w => add_run (a := letB c) (b := { data := #[36] }) (by show (letB c).size + 1 ≤ _; omega) w
  have s3 := fun w => add_run (a := (letB c ++ { data := #[36] })) (b := numeral (r + 1)) (by rw [ByteArray.size_append]; show (letB c).size + 1 + (numeral (r + 1)).size ≤ _; omega) w
  clear z3 z4
  have cr := hide ((C4.new w (.int .i64 r) (.int .i64 c) (.bool true) (.bool false) 28).alloc (spotO r c))
  have B0 := hide (step (step (Below.refl w.heap.size w) (refO r c true false)) (spotO r c))
  have HL := hide (fun w => lettersR c w h2)
  have HD := hide (fun w => digitsR (r + 1) w (by omega))
  rw [show ((r + 1 : Nat) : Int) = (r : Int) + 1 from rfl] at HD
  go_enter Tryd.func22, Tryd.ntmps22
  go_wp2_with (go_at_call 19; refine (refMay_any _ _ _).mono ?_; rintro e w' ⟨rfl, rfl⟩)
  refine (HL.out _).mono ?_
  rintro e w1 ⟨rfl, hb1⟩
  replace cr := hide (cr.out.keep hb1)
  obtain ⟨r0, r1, r2, r3⟩ := cr.out
  go_wp2_with fail
  refine (HD.out _).mono ?_
  rintro e w2 ⟨rfl, hb2⟩
  go_wp2_with fail
  go_ret2
  rw [← HE.out]
  exact ⟨rfl, next (next B0.out hb1) hb2⟩

theorem parts_11 (r c : Nat) : (({ data := #[36] } ++ letB c) ++ { data := #[36] }) ++ numeral (r + 1) = refB r c true true := by
  apply ba_eq
  unfold refB
  simp only [append_data, pinB_data]
  simp [pinL]
set_option maxHeartbeats 1000000 in
theorem refTextR_11 (r c : Nat) (w : World) (h1 : r < 65536) (h2 : c < 702) :
    Calls Tryd.prog 22 #[refV r c true true] w fun e w' => e = .returned (.tuple #[.string (refB r c true true), .int .i64 0]) ∧ Below w.heap.size w w' := by
  have hm : mayB r c = true := by simp [mayB]; omega
  have HE := hide (parts_11 r c)
  have z3 := letB_size c
  have z4 := (numeral_len (r + 1) (by omega) (by omega)).2
  have s1 := fun w => add_run (a := { data := #[36] }) (b := letB c) (by show 1 + (letB c).size ≤ _; omega) w
  have s2 := fun w => add_run (a := ({ data := #[36] } ++ letB c)) (b := { data := #[36] }) (by rw [ByteArray.size_append]; show 1 + (letB c).size + 1 ≤ _; omega) w
  have s3 := fun w => add_run (a := (({ data := #[36] } ++ letB c) ++ { data := #[36] })) (b := numeral (r + 1)) (by rw [ByteArray.size_append, ByteArray.size_append]; show 1 + (letB c).size + 1 + (numeral (r + 1)).size ≤ _; omega) w
  clear z3 z4
  have cr := hide ((C4.new w (.int .i64 r) (.int .i64 c) (.bool true) (.bool true) 28).alloc (spotO r c))
  have B0 := hide (step (step (Below.refl w.heap.size w) (refO r c true true)) (spotO r c))
  have HL := hide (fun w => lettersR c w h2)
  have HD := hide (fun w => digitsR (r + 1) w (by omega))
  rw [show ((r + 1 : Nat) : Int) = (r : Int) + 1 from rfl] at HD
  go_enter Tryd.func22, Tryd.ntmps22
  go_wp2_with (go_at_call 19; refine (refMay_any _ _ _).mono ?_; rintro e w' ⟨rfl, rfl⟩)
  refine (HL.out _).mono ?_
  rintro e w1 ⟨rfl, hb1⟩
  replace cr := hide (cr.out.keep hb1)
  obtain ⟨r0, r1, r2, r3⟩ := cr.out
  go_wp2_with fail
  refine (HD.out _).mono ?_
  rintro e w2 ⟨rfl, hb2⟩
  go_wp2_with fail
  go_ret2
  rw [← HE.out]
  exact ⟨rfl, next (next B0.out hb1) hb2⟩

theorem refTextR_yes (r c : Nat) (p q : Bool) (w : World) (h1 : r < 65536) (h2 : c < 702) :
    Calls Tryd.prog 22 #[refV r c p q] w fun e w' => e = .returned (.tuple #[.string (refB r c p q), .int .i64 0]) ∧ Below w.heap.size w w' := by
  cases p <;> cases q
  · exact refTextR_00 r c w h1 h2
  · exact refTextR_01 r c w h1 h2
  · exact refTextR_10 r c w h1 h2
  · exact refTextR_11 r c w h1 h2
end Go.Proofs.YtjhfjpofmkofhaaDoor
