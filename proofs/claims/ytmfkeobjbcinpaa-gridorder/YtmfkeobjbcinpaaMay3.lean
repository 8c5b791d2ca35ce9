/- What spot.May, the law's own test of a place, area.firstOf, area.lastOf, area.May and the reference's May answer, for every place and area. Proved of the Go text. -/
import Derived.Test.YtmfkeobjbcinpaaKit3
namespace Go.Proofs.Ytmfkeobjbcinpaa
open Go.RowKit Go.Sort
set_option linter.unusedVariables false

theorem may_any (r c : Int) (w : World) : Calls Try.prog 45 #[spotV r c] w fun e w' => e = .returned (.bool (mayB r c)) ∧ w' = w.alloc (spotO r c) := by
  by_cases h1 : 0 ≤ r
  · by_cases h2 : r < 65536
    · by_cases h3 : 0 ≤ c
      · by_cases h4 : c < 702
        · go_enter Try.func45, Try.ntmps45
          go_wp2
          go_ret
          exact ⟨ret_bool (by simp [mayB]; omega), rfl⟩
        · go_enter Try.func45, Try.ntmps45
          go_wp2
          go_ret
          exact ⟨ret_bool (by simp [mayB]; omega), rfl⟩
      · go_enter Try.func45, Try.ntmps45
        go_wp2
        go_ret
        exact ⟨ret_bool (by simp [mayB]; omega), rfl⟩
    · go_enter Try.func45, Try.ntmps45
      go_wp2
      go_ret
      exact ⟨ret_bool (by simp [mayB]; omega), rfl⟩
  · go_enter Try.func45, Try.ntmps45
    go_wp2
    go_ret
    exact ⟨ret_bool (by simp [mayB]; omega), rfl⟩
theorem first_any (t l b r : Int) (w : World) : Calls Try.prog 83 #[areaV t l b r] w fun e w' => e = .returned (spotV t l) ∧ Below w.heap.size w w' := by
  go_enter Try.func83, Try.ntmps83
  go_wp2_with fail
  go_returns
  exact ⟨rfl, by go_grown⟩
theorem last_any (t l b r : Int) (w : World) : Calls Try.prog 84 #[areaV t l b r] w fun e w' => e = .returned (spotV b r) ∧ Below w.heap.size w w' := by
  go_enter Try.func84, Try.ntmps84
  go_wp2_with fail
  go_returns
  exact ⟨rfl, by go_grown⟩
set_option maxHeartbeats 1000000 in
theorem amay_1 (t l b r : Int) (w : World) (hm1 : mayB t l = false) : Calls Try.prog 72 #[areaV t l b r] w fun e w' => e = .returned (.int .i64 11) ∧ Below w.heap.size w w' := by
  have HF := hide (first_any t l b r)
  have HL := hide (last_any t l b r)
  have HM := hide may_any
  go_enter Try.func72, Try.ntmps72
  go_wp2_with fail
  refine (HF.out _).mono ?_
  rintro e w1 ⟨rfl, hb1⟩
  have ca := hide ((C4.new w (.int .i64 t) (.int .i64 l) (.int .i64 b) (.int .i64 r) 37).keep hb1)
  have B1 := hide (next (step (Below.refl w.heap.size w) _) hb1)
  go_wp2_with fail
  refine (HM.out _ _ _).mono ?_
  rintro e w' ⟨rfl, rfl⟩
  rw [hm1]
  go_wp2_with fail
  go_returns
  exact ⟨rfl, step B1.out _⟩
set_option maxHeartbeats 1000000 in
theorem amay_2 (t l b r : Int) (w : World) (hm1 : mayB t l = true) (hm2 : mayB b r = false) : Calls Try.prog 72 #[areaV t l b r] w fun e w' => e = .returned (.int .i64 11) ∧ Below w.heap.size w w' := by
  have HF := hide (first_any t l b r)
  have HL := hide (last_any t l b r)
  have HM := hide may_any
  go_enter Try.func72, Try.ntmps72
  go_wp2_with fail
  refine (HF.out _).mono ?_
  rintro e w1 ⟨rfl, hb1⟩
  have ca := hide ((C4.new w (.int .i64 t) (.int .i64 l) (.int .i64 b) (.int .i64 r) 37).keep hb1)
  have B1 := hide (next (step (Below.refl w.heap.size w) _) hb1)
  go_wp2_with fail
  refine (HM.out _ _ _).mono ?_
  rintro e w' ⟨rfl, rfl⟩
  rw [hm1]
  obtain ⟨a0, a1, a2, a3⟩ := ca.out.any
  go_wp2_with fail
  refine (HL.out _).mono ?_
  rintro e w2 ⟨rfl, hb2⟩
  clear a0 a1 a2 a3
  replace ca := hide ((ca.out.alloc _).keep hb2)
  have B2 := hide (next (step B1.out _) hb2)
  go_wp2_with fail
  refine (HM.out _ _ _).mono ?_
  rintro e w' ⟨rfl, rfl⟩
  rw [hm2]
  obtain ⟨a0, a1, a2, a3⟩ := ca.out.any
  go_wp2_with fail
  go_returns
  exact ⟨rfl, step B2.out _⟩
set_option maxHeartbeats 1000000 in
theorem amay_3 (t l b r : Int) (w : World) (hm1 : mayB t l = true) (hm2 : mayB b r = true) (h : b < t) : Calls Try.prog 72 #[areaV t l b r] w fun e w' => e = .returned (.int .i64 11) ∧ Below w.heap.size w w' := by
  have HF := hide (first_any t l b r)
  have HL := hide (last_any t l b r)
  have HM := hide may_any
  go_enter Try.func72, Try.ntmps72
  go_wp2_with fail
  refine (HF.out _).mono ?_
  rintro e w1 ⟨rfl, hb1⟩
  have ca := hide ((C4.new w (.int .i64 t) (.int .i64 l) (.int .i64 b) (.int .i64 r) 37).keep hb1)
  have B1 := hide (next (step (Below.refl w.heap.size w) _) hb1)
  go_wp2_with fail
  refine (HM.out _ _ _).mono ?_
  rintro e w' ⟨rfl, rfl⟩
  rw [hm1]
  obtain ⟨a0, a1, a2, a3⟩ := ca.out.any
  go_wp2_with fail
  refine (HL.out _).mono ?_
  rintro e w2 ⟨rfl, hb2⟩
  clear a0 a1 a2 a3
  replace ca := hide ((ca.out.alloc _).keep hb2)
  have B2 := hide (next (step B1.out _) hb2)
  go_wp2_with fail
  refine (HM.out _ _ _).mono ?_
  rintro e w' ⟨rfl, rfl⟩
  rw [hm2]
  obtain ⟨a0, a1, a2, a3⟩ := ca.out.any
  go_wp2_with fail
  go_returns
  exact ⟨rfl, step B2.out _⟩
set_option maxHeartbeats 1000000 in
theorem amay_4 (t l b r : Int) (w : World) (hm1 : mayB t l = true) (hm2 : mayB b r = true) (h : ¬ b < t) (h' : r < l) : Calls Try.prog 72 #[areaV t l b r] w fun e w' => e = .returned (.int .i64 11) ∧ Below w.heap.size w w' := by
  have HF := hide (first_any t l b r)
  have HL := hide (last_any t l b r)
  have HM := hide may_any
  go_enter Try.func72, Try.ntmps72
  go_wp2_with fail
  refine (HF.out _).mono ?_
  rintro e w1 ⟨rfl, hb1⟩
  have ca := hide ((C4.new w (.int .i64 t) (.int .i64 l) (.int .i64 b) (.int .i64 r) 37).keep hb1)
  have B1 := hide (next (step (Below.refl w.heap.size w) _) hb1)
  go_wp2_with fail
  refine (HM.out _ _ _).mono ?_
  rintro e w' ⟨rfl, rfl⟩
  rw [hm1]
  obtain ⟨a0, a1, a2, a3⟩ := ca.out.any
  go_wp2_with fail
  refine (HL.out _).mono ?_
  rintro e w2 ⟨rfl, hb2⟩
  clear a0 a1 a2 a3
  replace ca := hide ((ca.out.alloc _).keep hb2)
  have B2 := hide (next (step B1.out _) hb2)
  go_wp2_with fail
  refine (HM.out _ _ _).mono ?_
  rintro e w' ⟨rfl, rfl⟩
  rw [hm2]
  obtain ⟨a0, a1, a2, a3⟩ := ca.out.any
  go_wp2_with fail
  go_returns
  exact ⟨rfl, step B2.out _⟩
set_option maxHeartbeats 1000000 in
theorem amay_5 (t l b r : Int) (w : World) (hm1 : mayB t l = true) (hm2 : mayB b r = true) (h : ¬ b < t) (h' : ¬ r < l) : Calls Try.prog 72 #[areaV t l b r] w fun e w' => e = .returned (.int .i64 0) ∧ Below w.heap.size w w' := by
  have HF := hide (first_any t l b r)
  have HL := hide (last_any t l b r)
  have HM := hide may_any
  go_enter Try.func72, Try.ntmps72
  go_wp2_with fail
  refine (HF.out _).mono ?_
  rintro e w1 ⟨rfl, hb1⟩
  have ca := hide ((C4.new w (.int .i64 t) (.int .i64 l) (.int .i64 b) (.int .i64 r) 37).keep hb1)
  have B1 := hide (next (step (Below.refl w.heap.size w) _) hb1)
  go_wp2_with fail
  refine (HM.out _ _ _).mono ?_
  rintro e w' ⟨rfl, rfl⟩
  rw [hm1]
  obtain ⟨a0, a1, a2, a3⟩ := ca.out.any
  go_wp2_with fail
  refine (HL.out _).mono ?_
  rintro e w2 ⟨rfl, hb2⟩
  clear a0 a1 a2 a3
  replace ca := hide ((ca.out.alloc _).keep hb2)
  have B2 := hide (next (step B1.out _) hb2)
  go_wp2_with fail
  refine (HM.out _ _ _).mono ?_
  rintro e w' ⟨rfl, rfl⟩
  rw [hm2]
  obtain ⟨a0, a1, a2, a3⟩ := ca.out.any
  go_wp2_with fail
  go_returns
  exact ⟨rfl, step B2.out _⟩
theorem amay_any (t l b r : Int) (w : World) : Calls Try.prog 72 #[areaV t l b r] w fun e w' => e = .returned (.int .i64 (eA t l b r)) ∧ Below w.heap.size w w' := by
  by_cases h1 : 0 ≤ t ∧ t < 65536 ∧ 0 ≤ l ∧ l < 702
  · by_cases h2 : 0 ≤ b ∧ b < 65536 ∧ 0 ≤ r ∧ r < 702
    · by_cases h3 : b < t
      · rw [eA_no (by omega)]; exact amay_3 t l b r w (mayB_yes h1) (mayB_yes h2) h3
      · by_cases h4 : r < l
        · rw [eA_no (by omega)]; exact amay_4 t l b r w (mayB_yes h1) (mayB_yes h2) h3 h4
        · rw [eA_ok (by omega)]; exact amay_5 t l b r w (mayB_yes h1) (mayB_yes h2) h3 h4
    · rw [eA_no (by omega)]; exact amay_2 t l b r w (mayB_yes h1) (mayB_no h2)
  · rw [eA_no (by omega)]; exact amay_1 t l b r w (mayB_no h1)
set_option maxHeartbeats 1000000 in
theorem rmay_any (t l b r : Int) (w : World) : Calls Try.prog 51 #[areaV t l b r] w fun e w' => e = .returned (.int .i64 (eA t l b r)) ∧ Below w.heap.size w w' := by
  by_cases h0 : t < 0
  · have HE := hide (eA_no (t := t) (l := l) (b := b) (r := r) (by omega))
    go_enter Try.func51, Try.ntmps51
    go_wp2_with fail
    go_ret
    exact ⟨ret_int HE.out.symm, by go_grown⟩
  by_cases h1 : b < t
  · have HE := hide (eA_no (t := t) (l := l) (b := b) (r := r) (by omega))
    go_enter Try.func51, Try.ntmps51
    go_wp2_with fail
    go_ret
    exact ⟨ret_int HE.out.symm, by go_grown⟩
  by_cases h2 : 65536 ≤ b
  · have HE := hide (eA_no (t := t) (l := l) (b := b) (r := r) (by omega))
    go_enter Try.func51, Try.ntmps51
    go_wp2_with fail
    go_ret
    exact ⟨ret_int HE.out.symm, by go_grown⟩
  by_cases h3 : l < 0
  · have HE := hide (eA_no (t := t) (l := l) (b := b) (r := r) (by omega))
    go_enter Try.func51, Try.ntmps51
    go_wp2_with fail
    go_ret
    exact ⟨ret_int HE.out.symm, by go_grown⟩
  by_cases h4 : r < l
  · have HE := hide (eA_no (t := t) (l := l) (b := b) (r := r) (by omega))
    go_enter Try.func51, Try.ntmps51
    go_wp2_with fail
    go_ret
    exact ⟨ret_int HE.out.symm, by go_grown⟩
  by_cases h5 : 702 ≤ r
  · have HE := hide (eA_no (t := t) (l := l) (b := b) (r := r) (by omega))
    go_enter Try.func51, Try.ntmps51
    go_wp2_with fail
    go_ret
    exact ⟨ret_int HE.out.symm, by go_grown⟩
  have HE := hide (eA_ok (t := t) (l := l) (b := b) (r := r) (by omega))
  go_enter Try.func51, Try.ntmps51
  go_wp2_with fail
  go_ret
  exact ⟨ret_int HE.out.symm, by go_grown⟩
end Go.Proofs.Ytmfkeobjbcinpaa
