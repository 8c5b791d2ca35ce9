/- What the reference's small functions answer: which places there are, letters, digits, a column's letters, a number's digits, columns and rows. Proved of the Go text. What the reference's Letters, Digits, Text and RefText answer: the texts that package spot writes. Proved of the Go text. What the reference's RefText answers where the place is there: the text that package spot writes. Proved of the Go text. -/
import Derived.Test.YtbpogngnhhkjbaaDoorCaps
import Derived.StillTactics
namespace Go.Proofs.YtbpogngnhhkjbaaDoor
open Go.RowKit Go.Sort
set_option linter.unusedVariables false
set_option maxRecDepth 100000

theorem refMay_any (r c : Int) (w : World) : Calls Tryd.prog 42 #[spotV r c] w fun e w' => e = .returned (.bool (mayB r c)) ∧ w' = w.alloc (spotO r c) := by
  by_cases h1 : 0 ≤ r
  · by_cases h2 : r < 65536
    · by_cases h3 : 0 ≤ c
      · by_cases h4 : c < 702
        · go_enter Tryd.func42, Tryd.ntmps42
          go_wp2
          go_ret
          exact ⟨ret_bool (by simp [mayB]; omega), rfl⟩
        · go_enter Tryd.func42, Tryd.ntmps42
          go_wp2
          go_ret
          exact ⟨ret_bool (by simp [mayB]; omega), rfl⟩
      · go_enter Tryd.func42, Tryd.ntmps42
        go_wp2
        go_ret
        exact ⟨ret_bool (by simp [mayB]; omega), rfl⟩
    · go_enter Tryd.func42, Tryd.ntmps42
      go_wp2
      go_ret
      exact ⟨ret_bool (by simp [mayB]; omega), rfl⟩
  · go_enter Tryd.func42, Tryd.ntmps42
    go_wp2
    go_ret
    exact ⟨ret_bool (by simp [mayB]; omega), rfl⟩

theorem still_all {P : Program} {id : Nat} {Q : Exit → Act → World → Prop} {a : Act} {w : World} {l : List Oper} (hm : P.follows .mixedOrders = true) (hB : Region.lexB .any l.toArray = true)
    (h : wpStill P l.toArray w.drew (fun a' => Q .normal a' w.drew) l a) : (Code.region id l.toArray true).wp P Q a w := wp_region_still_lit hm hB h
/-- Which letter, A being 0; none: -1. -/
def ltrI (c : UInt8) : Int := if isL c then (ltr c : Int) - 1 else -1
theorem ltrI_cap (c : UInt8) (h1 : 65 ≤ (c.toNat : Int)) (h2 : (c.toNat : Int) ≤ 90) : ltrI c = (c.toNat : Int) - 65 := by
  have hs : isS c = false := by simp [isS]; omega
  have hl : isL c = true := by simp [isL, isC]; omega
  obtain ⟨e1, e2, e3⟩ := ltr_cap c hl hs
  unfold ltrI
  rw [if_pos hl, e3]; omega
theorem ltrI_small (c : UInt8) (h1 : 97 ≤ (c.toNat : Int)) (h2 : (c.toNat : Int) ≤ 122) : ltrI c = (c.toNat : Int) - 97 := by
  have hs : isS c = true := by simp [isS]; omega
  have hl : isL c = true := by simp [isL, hs]
  obtain ⟨e1, e2, e3⟩ := ltr_small c hs
  unfold ltrI
  rw [if_pos hl, e3]; omega
theorem ltrI_none (c : UInt8) (h : (c.toNat : Int) < 65 ∨ (90 < (c.toNat : Int) ∧ (c.toNat : Int) < 97) ∨ 122 < (c.toNat : Int)) : ltrI c = -1 := by
  unfold ltrI
  rw [if_neg (by simp [isL, isC, isS]; omega)]

/-- The reference's column of some letters: 702 where there is none. -/
def colR (l : List UInt8) : Int := if col l ≤ 702 then (col l : Int) - 1 else 702
/-- The reference's row of some digits: 65536 where there is none. -/
def rowR (l : List UInt8) : Int := if val l ≤ 65536 then (val l : Int) - 1 else 65536
end Go.Proofs.YtbpogngnhhkjbaaDoor
namespace Go.Proofs.YtbpogngnhhkjbaaDoor
open Go.RowKit Go.Sort
set_option linter.unusedVariables false

abbrev alpha : ByteArray := { data := #[65, 66, 67, 68, 69, 70, 71, 72, 73, 74, 75, 76, 77, 78, 79, 80, 81, 82, 83, 84, 85, 86, 87, 88, 89, 90] }
abbrev digs : ByteArray := { data := #[48, 49, 50, 51, 52, 53, 54, 55, 56, 57] }
theorem alpha_at : ∀ c, c < 26 → (alpha.extract c (c + 1)).data.toList = [ltrOf c] := by decide +kernel
theorem digs_at : ∀ c, c < 10 → (digs.extract c (c + 1)).data.toList = [UInt8.ofNat (48 + c)] := by decide +kernel
theorem alpha_size (c : Nat) (h : c < 26) : (alpha.extract c (c + 1)).size = 1 := by rw [Lib.size_eq, alpha_at c h]; rfl
theorem digs_size (c : Nat) (h : c < 10) : (digs.extract c (c + 1)).size = 1 := by rw [Lib.size_eq, digs_at c h]; rfl
theorem lett1 (n : Nat) (h : n < 26) : alpha.extract n (n + 1) = letB n := by
  apply ba_eq
  rw [alpha_at n h, letB_data n (by omega)]
  unfold letL; rw [if_pos h]
theorem lett2 (k : Nat) (h : k < 676) : alpha.extract (k / 26) (k / 26 + 1) ++ alpha.extract (k % 26) (k % 26 + 1) = letB (k + 26) := by
  apply ba_eq
  rw [append_data, alpha_at _ (by omega), alpha_at _ (by omega), letB_data (k + 26) (by omega)]
  unfold letL
  rw [if_neg (by omega), show (k + 26) / 26 - 1 = k / 26 by omega, show (k + 26) % 26 = k % 26 by omega]; rfl
set_option maxHeartbeats 400000 in
theorem lettersR_one (n : Nat) (w : World) (h : n < 26) :
    Calls Tryd.prog 43 #[.int .i64 n] w fun e w' => e = .returned (.string (letB n)) ∧ Below w.heap.size w w' := by
  have HE := hide (lett1 n h)
  have h1 : (n : Int) < 26 := by omega
  go_enter Tryd.func43, Tryd.ntmps43
  go_wp2_with fail
  go_ret
  rw [← HE.out]
  exact ⟨rfl, Below.refl _ _⟩
set_option maxHeartbeats 400000 in
theorem lettersR_two (k : Nat) (w : World) (h : k < 676) :
    Calls Tryd.prog 43 #[.int .i64 (k + 26 : Nat)] w fun e w' => e = .returned (.string (letB (k + 26))) ∧ Below w.heap.size w w' := by
  have HE := hide (lett2 k h)
  have h1 : ¬ (k : Int) + 26 < 26 := by omega
  have z1 := alpha_size (k / 26) (by omega)
  have z2 := alpha_size (k % 26) (by omega)
  have s1 := fun w => add_run (a := alpha.extract (k / 26) (k / 26 + 1)) (b := alpha.extract (k % 26) (k % 26 + 1)) (by omega) w
  clear z1 z2
  have q1 : (k : Int) / 26 < 26 := by omega
  have q2 : (k : Int) % 26 < 26 := by omega
  have q3 : (0 : Int) ≤ (k : Int) / 26 := by omega
  have q4 : (0 : Int) ≤ (k : Int) % 26 := by omega
  go_enter Tryd.func43, Tryd.ntmps43
  go_wp2_with fail
  go_quiet (fail)
  go_wp2_with fail
  go_ret
  rw [← HE.out]
  exact ⟨rfl, below_drewN (Below.refl _ _) _⟩
def DInv (u m : Nat) (l : List UInt8) : Prop := Lib.decDigits u = (if m < 10 then [] else Lib.decDigits (m / 10)) ++ l
theorem dinv_start (u : Nat) : DInv u u (digs.extract (u % 10) (u % 10 + 1)).data.toList := by
  unfold DInv
  rw [digs_at _ (by omega)]
  by_cases h : u < 10
  · rw [if_pos h, dec_small h, show u % 10 = u by omega]; rfl
  · rw [if_neg h, dec_big h]
theorem dinv_step (u m : Nat) (b : ByteArray) (h : DInv u m b.data.toList) (hm : ¬ m < 10) : DInv u (m / 10) (digs.extract (m / 10 % 10) (m / 10 % 10 + 1) ++ b).data.toList := by
  unfold DInv at *
  rw [if_neg hm] at h
  rw [h, append_data, digs_at _ (by omega)]
  by_cases h' : m / 10 < 10
  · rw [if_pos h', dec_small h', show m / 10 % 10 = m / 10 by omega]; rfl
  · rw [if_neg h', dec_big h', List.append_assoc]
theorem dinv_end (u m : Nat) (b : ByteArray) (h : DInv u m b.data.toList) (hm : m < 10) : b = numeral u := by
  apply ba_eq
  unfold DInv at h
  rw [if_pos hm, List.nil_append] at h
  rw [numeral_data, itoa_pos, h]
theorem dinv_len (u m : Nat) (b : ByteArray) (h : DInv u m b.data.toList) (hu : u ≤ 65536) : b.size ≤ 19 := by
  unfold DInv at h
  have h1 := dec_len 18 u (by omega)
  rw [h, List.length_append, ← Lib.size_eq] at h1
  omega
set_option maxHeartbeats 1000000 in
theorem digitsR (u : Nat) (w : World) (hu : u ≤ 65536) :
    Calls Tryd.prog 44 #[.int .i64 u] w fun e w' => e = .returned (.string (numeral u)) ∧ Below w.heap.size w w' := by
  have q2 : (u : Int) % 10 < 10 := by omega
  have q4 : (0 : Int) ≤ (u : Int) % 10 := by omega
  have HS := hide (dinv_start u)
  go_enter Tryd.func44, Tryd.ntmps44
  go_wp2_with fail
  go_loop [0, 4] (fun n s => ∃ (m : Nat) (b : ByteArray), n = .int .i64 m ∧ s = .string b ∧ m ≤ 65536 ∧ Hid (DInv u m b.data.toList)) (fun n _ => (intOf n).toNat)
  case atStart => exact ⟨u, _, rfl, rfl, hu, HS⟩
  case round =>
    obtain ⟨m, b, rfl, rfl, hm, Hd⟩ := hrel
    by_cases h : m < 10
    · have HE := hide (dinv_end u m b Hd.out h)
      have h' : ¬ (10 : Int) ≤ m := by omega
      go_wp2_with fail
      go_ret
      rw [← HE.out]
      exact ⟨rfl, Below.refl _ _⟩
    · have HE := hide (dinv_step u m b Hd.out h)
      have h' : (10 : Int) ≤ m := by omega
      have z1 := digs_size (m / 10 % 10) (by omega)
      have z2 := dinv_len u m b Hd.out hu
      have s1 := fun w => add_run (a := digs.extract (m / 10 % 10) (m / 10 % 10 + 1)) (b := b) (by omega) w
      have p2 : (m : Int) / 10 % 10 < 10 := by omega
      have p4 : (0 : Int) ≤ (m : Int) / 10 % 10 := by omega
      clear z1 z2
      go_wp2_with fail
      go_round
      case rel => exact ⟨m / 10, _, by go_num, rfl, by omega, HE⟩
      case measure => simp [intOf]; omega
theorem lettersR (c : Nat) (w : World) (h : c < 702) :
    Calls Tryd.prog 43 #[.int .i64 c] w fun e w' => e = .returned (.string (letB c)) ∧ Below w.heap.size w w' := by
  by_cases h1 : c < 26
  · exact lettersR_one c w h1
  · obtain ⟨k, rfl⟩ : ∃ k, c = k + 26 := ⟨c - 26, by omega⟩
    exact lettersR_two k w (by omega)

theorem two_parts (r c : Nat) : letB c ++ numeral (r + 1) = refB r c false false := by
  apply ba_eq
  unfold refB
  rw [append_data, append_data, append_data, append_data, pinB_data]
  show _ = ([] ++ _ ++ []) ++ _
  simp
set_option maxHeartbeats 400000 in
theorem refTextR_no (r c : Int) (p q : Bool) (w : World) (h : mayB r c = false) :
    Calls Tryd.prog 22 #[refV r c p q] w fun e w' => e = .returned (.tuple #[.string ⟨#[]⟩, .int .i64 10]) ∧ Below w.heap.size w w' := by
  go_enter Tryd.func22, Tryd.ntmps22
  go_wp2_with (go_at_call 42; refine (refMay_any _ _ _).mono ?_; rintro e w' ⟨rfl, rfl⟩)
  go_ret2
  exact ⟨rfl, step (step (Below.refl _ _) _) _⟩
end Go.Proofs.YtbpogngnhhkjbaaDoor
namespace Go.Proofs.YtbpogngnhhkjbaaDoor
open Go.RowKit Go.Sort
set_option linter.unusedVariables false

theorem parts_00 (r c : Nat) : letB c ++ numeral (r + 1) = refB r c false false := by
  apply ba_eq
  unfold refB
  simp only [append_data, pinB_data]
  simp [pinL]
set_option maxHeartbeats 1000000 in
theorem refTextR_00 (r c : Nat) (w : World) (h1 : r < 65536) (h2 : c < 702) :
    Calls Tryd.prog 22 #[refV r c false false] w fun e w' => e = .returned (.tuple #[.string (refB r c false false), .int .i64 0]) ∧ Below w.heap.size w w' := by
  have hm : mayB r c = true := by simp [mayB]; omega
  have HE := hide (parts_00 r c)
  have z3 := letB_size c
  have z4 := (numeral_len (r + 1) (by omega) (by omega)).2
  have s3 := fun w => add_run (a := letB c) (b := numeral (r + 1)) (by show (letB c).size + (numeral (r + 1)).size ≤ _; omega) w
  clear z3 z4
  have cr := hide ((C4.new w (.int .i64 r) (.int .i64 c) (.bool false) (.bool false) 28).alloc (spotO r c))
  have B0 := hide (step (step (Below.refl w.heap.size w) (refO r c false false)) (spotO r c))
  have HL := hide (fun w => lettersR c w h2)
  have HD := hide (fun w => digitsR (r + 1) w (by omega))
  rw [show ((r + 1 : Nat) : Int) = (r : Int) + 1 from rfl] at HD
  go_enter Tryd.func22, Tryd.ntmps22
  go_wp2_with (go_at_call 42; refine (refMay_any _ _ _).mono ?_; rintro e w' ⟨rfl, rfl⟩)
  refine (HL.out _).mono ?_
  rintro e w1 ⟨rfl, hb1⟩
  replace cr := hide (cr.out.keep hb1)
  obtain ⟨r0, r1, r2, r3⟩ := cr.out
  go_wp2_with fail
  refine (HD.out _).mono ?_
  rintro e w2 ⟨rfl, hb2⟩
  go_wp2_with fail
  go_ret2
  rw [← HE.out]
  exact ⟨rfl, next (next B0.out hb1) hb2⟩

theorem parts_01 (r c : Nat) : ({ data := #[36] } ++ letB c) ++ numeral (r + 1) = refB r c false true := by
  apply ba_eq
  unfold refB
  simp only [append_data, pinB_data]
  simp [pinL]
set_option maxHeartbeats 1000000 in
theorem refTextR_01 (r c : Nat) (w : World) (h1 : r < 65536) (h2 : c < 702) :
    Calls Tryd.prog 22 #[refV r c false true] w fun e w' => e = .returned (.tuple #[.string (refB r c false true), .int .i64 0]) ∧ Below w.heap.size w w' := by
  have hm : mayB r c = true := by simp [mayB]; omega
  have HE := hide (parts_01 r c)
  have z3 := letB_size c
  have z4 := (numeral_len (r + 1) (by omega) (by omega)).2
  have s1 := fun w => add_run (a := { data := #[36] }) (b := letB c) (by show 1 + (letB c).size ≤ _; omega) w
  have s3 := fun w => add_run (a := ({ data := #[36] } ++ letB c)) (b := numeral (r + 1)) (by rw [ByteArray.size_append]; show 1 + (letB c).size + (numeral (r + 1)).size ≤ _; omega) w
  clear z3 z4
  have cr := hide ((C4.new w (.int .i64 r) (.int .i64 c) (.bool false) (.bool true) 28).alloc (spotO r c))
  have B0 := hide (step (step (Below.refl w.heap.size w) (refO r c false true)) (spotO r c))
  have HL := hide (fun w => lettersR c w h2)
  have HD := hide (fun w => digitsR (r + 1) w (by omega))
  rw [show ((r + 1 : Nat) : Int) = (r : Int) + 1 from rfl] at HD
  go_enter Tryd.func22, Tryd.ntmps22
  go_wp2_with (go_at_call 42; refine (refMay_any _ _ _).mono ?_; rintro e w' ⟨rfl, rfl⟩)
  refine (HL.out _).mono ?_
  rintro e w1 ⟨rfl, hb1⟩
  replace cr := hide (cr.out.keep hb1)
  obtain ⟨r0, r1, r2, r3⟩ := cr.out
  go_wp2_with fail
  refine (HD.out _).mono ?_
  rintro e w2 ⟨rfl, hb2⟩
  go_wp2_with fail
  go_ret2
  rw [← HE.out]
  exact ⟨rfl, next (next B0.out hb1) hb2⟩

theorem parts_10 (r c : Nat) : (letB c ++ { data := #[36] }) ++ numeral (r + 1) = refB r c true false := by
  apply ba_eq
  unfold refB
  simp only [append_data, pinB_data]
  simp [pinL]
set_option maxHeartbeats 1000000 in
theorem refTextR_10 (r c : Nat) (w : World) (h1 : r < 65536) (h2 : c < 702) :
    Calls Tryd.prog 22 #[refV r c true false] w fun e w' => e = .returned (.tuple #[.string (refB r c true false), .int .i64 0]) ∧ Below w.heap.size w w' := by
  have hm : mayB r c = true := by simp [mayB]; omega
  have HE := hide (parts_10 r c)
  have z3 := letB_size c
  have z4 := (numeral_len (r + 1) (by omega) (by omega)).2
  have s2 := fun w => add_run (a := letB c) (b := { data := #[36] }) (by show (letB c).size + 1 ≤ _; omega) w
  have s3 := fun w => add_run (a := (letB c ++ { data := #[36] })) (b := numeral (r + 1)) (by rw [ByteArray.size_append]; show (letB c).size + 1 + (numeral (r + 1)).size ≤ _; omega) w
  clear z3 z4
  have cr := hide ((C4.new w (.int .i64 r) (.int .i64 c) (.bool true) (.bool false) 28).alloc (spotO r c))
  have B0 := hide (step (step (Below.refl w.heap.size w) (refO r c true false)) (spotO r c))
  have HL := hide (fun w => lettersR c w h2)
  have HD := hide (fun w => digitsR (r + 1) w (by omega))
  rw [show ((r + 1 : Nat) : Int) = (r : Int) + 1 from rfl] at HD
  go_enter Tryd.func22, Tryd.ntmps22
  go_wp2_with (go_at_call 42; refine (refMay_any _ _ _).mono ?_; rintro e w' ⟨rfl, rfl⟩)
  refine (HL.out _).mono ?_
  rintro e w1 ⟨rfl, hb1⟩
  replace cr := hide (cr.out.keep hb1)
  obtain ⟨r0, r1, r2, r3⟩ := cr.out
  go_wp2_with fail
  refine (HD.out _).mono ?_
  rintro e w2 ⟨rfl, hb2⟩
  go_wp2_with fail
  go_ret2
  rw [← HE.out]
  exact ⟨rfl, next (next B0.out hb1) hb2⟩

theorem parts_11 (r c : Nat) : (({ data := #[36] } ++ letB c) ++ { data := #[36] }) ++ numeral (r + 1) = refB r c true true := by
  apply ba_eq
  unfold refB
  simp only [append_data, pinB_data]
  simp [pinL]
set_option maxHeartbeats 1000000 in
theorem refTextR_11 (r c : Nat) (w : World) (h1 : r < 65536) (h2 : c < 702) :
    Calls Tryd.prog 22 #[refV r c true true] w fun e w' => e = .returned (.tuple #[.string (refB r c true true), .int .i64 0]) ∧ Below w.heap.size w w' := by
  have hm : mayB r c = true := by simp [mayB]; omega
  have HE := hide (parts_11 r c)
  have z3 := letB_size c
  have z4 := (numeral_len (r + 1) (by omega) (by omega)).2
  have s1 := fun w => add_run (a := { data := #[36] }) (b := letB c) (by show 1 + (letB c).size ≤ _; omega) w
  have s2 := fun w => add_run (a := ({ data := #[36] } ++ letB c)) (b := { data := #[36] }) (by rw [ByteArray.size_append]; show 1 + (letB c).size + 1 ≤ _; omega) w
  have s3 := fun w => add_run (a := (({ data := #[36] } ++ letB c) ++ { data := #[36] })) (b := numeral (r + 1)) (by rw [ByteArray.size_append, ByteArray.size_append]; show 1 + (letB c).size + 1 + (numeral (r + 1)).size ≤ _; omega) w
  clear z3 z4
  have cr := hide ((C4.new w (.int .i64 r) (.int .i64 c) (.bool true) (.bool true) 28).alloc (spotO r c))
  have B0 := hide (step (step (Below.refl w.heap.size w) (refO r c true true)) (spotO r c))
  have HL := hide (fun w => lettersR c w h2)
  have HD := hide (fun w => digitsR (r + 1) w (by omega))
  rw [show ((r + 1 : Nat) : Int) = (r : Int) + 1 from rfl] at HD
  go_enter Tryd.func22, Tryd.ntmps22
  go_wp2_with (go_at_call 42; refine (refMay_any _ _ _).mono ?_; rintro e w' ⟨rfl, rfl⟩)
  refine (HL.out _).mono ?_
  rintro e w1 ⟨rfl, hb1⟩
  replace cr := hide (cr.out.keep hb1)
  obtain ⟨r0, r1, r2, r3⟩ := cr.out
  go_wp2_with fail
  refine (HD.out _).mono ?_
  rintro e w2 ⟨rfl, hb2⟩
  go_wp2_with fail
  go_ret2
  rw [← HE.out]
  exact ⟨rfl, next (next B0.out hb1) hb2⟩

theorem refTextR_yes (r c : Nat) (p q : Bool) (w : World) (h1 : r < 65536) (h2 : c < 702) :
    Calls Tryd.prog 22 #[refV r c p q] w fun e w' => e = .returned (.tuple #[.string (refB r c p q), .int .i64 0]) ∧ Below w.heap.size w w' := by
  cases p <;> cases q
  · exact refTextR_00 r c w h1 h2
  · exact refTextR_01 r c w h1 h2
  · exact refTextR_10 r c w h1 h2
  · exact refTextR_11 r c w h1 h2
end Go.Proofs.YtbpogngnhhkjbaaDoor
