/- Package spot and the reference answer alike: ReadArea. -/
import Derived.Test.YtjhfjpofmkofhaaDoorR2Area
import Derived.Test.YtjhfjpofmkofhaaDoorArea
namespace Go.Proofs.YtjhfjpofmkofhaaDoor
open Go.RowKit Go.Sort
set_option linter.unusedVariables false

abbrev AreaSIs (s : ByteArray) (a b c d e : Int) : Prop := Hid (∀ w, Calls Tryd.prog 17 #[.string s] w fun e' w' => e' = .returned (.tuple #[areaV a b c d, .int .i64 e]) ∧ Below w.heap.size w w')
abbrev AreaRIs (s : ByteArray) (a b c d e : Int) : Prop := Hid (∀ w, Calls Tryd.prog 24 #[.string s] w fun e' w' => e' = .returned (.tuple #[areaV a b c d, .int .i64 e]) ∧ Below w.heap.size w w')
theorem may_bounds {r c : Int} (h : mayB r c = true) : 0 ≤ r ∧ r < 65536 ∧ 0 ≤ c ∧ c < 702 := by simpa [mayB] using h
theorem tail_at (s t : ByteArray) (n : Nat) (h : n < s.size) (ht : s.extract n s.size = t) (hz : 0 < t.size) : t[0] = s[n] := by
  obtain ⟨r, hr⟩ := toList_cons t hz
  have he : t.data.toList = s.data.toList.drop n := by
    rw [← ht, Lib.extract_data]
    exact List.take_of_length_le (by rw [List.length_drop, ← Lib.size_eq]; omega)
  rw [drop_cons s n h, hr] at he
  exact (List.cons.inj he).1
theorem tail_tail (s t u : ByteArray) (n : Nat) (h : n < s.size) (ht : s.extract n s.size = t) (hu : s.extract (n + 1) s.size = u) : t.extract 1 t.size = u := by
  apply ba_eq
  have he : t.data.toList = s.data.toList.drop n := by
    rw [← ht, Lib.extract_data]
    exact List.take_of_length_le (by rw [List.length_drop, ← Lib.size_eq]; omega)
  rw [← hu, Lib.extract_data, Lib.extract_data, he, List.drop_drop, show n + 1 = 1 + n by omega]
  rw [List.take_of_length_le (by rw [List.length_drop, ← Lib.size_eq, ← ht, ByteArray.size_extract]; omega), List.take_of_length_le (by rw [List.length_drop, ← Lib.size_eq]; omega)]
theorem area_agree (s : ByteArray) (hs : s.size ≤ maxLen) : ∃ a b c d e, AreaSIs s a b c d e ∧ AreaRIs s a b c d e := by
  have HR : RefRIs s (rR s) (rC s) (rP s) (rQ s) (rN s) (rE s) := hide fun w => refR_any s w hs
  cases hy : synS s
  case true =>
    obtain ⟨e1, e2, e3, e4, e5, e6, _⟩ := form_syn s hy
    rw [e1, e2, e3, e4, e5, e6] at HR
    exact ⟨0, 0, 0, 0, 20, hide fun w => area_syn s w hs (by rw [e1]; rfl), hide fun w => areaR_syn s w hs HR⟩
  have hp := cD_pos s hy
  have hn : rN s = cD s := by unfold rN; rw [hy]; simp
  have hE : (rE s == 20) = false := by unfold rE; rw [hy]; cases offS s <;> rfl
  have hE2 : rE s = 0 → mayB (rR s) (rC s) = true := fun h => by
    cases ho : offS s
    · exact (form_on s hy ho).2.2.2.2.2.2
    · have := (form_off s hy ho).2.1
      omega
  by_cases h1 : rN s = s.size
  · rw [h1] at HR
    cases he : (rE s != 0)
    · have hz : rE s = 0 := by simpa using he
      obtain ⟨b1, b2, b3, b4⟩ := may_bounds (hE2 hz)
      rw [hz] at HR
      refine ⟨rR s, rC s, rR s, rC s, 0, hide fun w => area_one s w hs hE h1 he _ _ _ _ _ (hide fun w => ?_), hide fun w => areaR_one s w hs _ _ _ _ (by omega) HR b1 b2 b3 b4⟩
      have := between_yes (rR s) (rC s) (rR s) (rC s) (rP s) (rQ s) (rP s) (rQ s) w b1 b2 b3 b4 b1 b2 b3 b4 (by simp)
      simpa using this
    · exact ⟨0, 0, 0, 0, 10, hide fun w => area_one_off s w hs hE h1 he, hide fun w => areaR_one_off s w hs _ _ _ _ _ (by omega) HR he⟩
  have h2 : rN s < s.size := by have := rN_le s; omega
  obtain ⟨t, ht⟩ : ∃ t, s.extract (rN s) s.size = t := ⟨_, rfl⟩
  obtain ⟨u, hu⟩ : ∃ u, s.extract (rN s + 1) s.size = u := ⟨_, rfl⟩
  have tz : t.size = s.size - rN s := by rw [← ht, ByteArray.size_extract]; omega
  have uz : u.size = s.size - (rN s + 1) := by rw [← hu, ByteArray.size_extract]; omega
  have hz : 0 < t.size := by omega
  have zt : t.size ≤ maxLen := by omega
  have zu : u.size ≤ maxLen := by omega
  have t0 := tail_at s t (rN s) h2 ht hz
  have tu := tail_tail s t u (rN s) h2 ht hu
  cases hk : ((s[rN s].toNat : Int) == 58)
  · exact ⟨0, 0, 0, 0, 20, hide fun w => area_two_syn s w hs t 0 0 20 false false hE h2 ht (hide fun w => corner_colon t w zt hz (by rw [t0, bne, hk]; rfl)) rfl, hide fun w => areaR_nocolon s w hs (rN s) _ _ _ _ _ (by omega) h2 HR hk⟩
  have hk' : ((t[0].toNat : Int) != 58) = false := by rw [t0, bne, hk]; rfl
  have HU : RefRIs u (rR u) (rC u) (rP u) (rQ u) (rN u) (rE u) := hide fun w => refR_any u w zu
  have lu := rN_le u
  cases hv : synS u
  case true =>
    obtain ⟨e1, e2, e3, e4, e5, e6, _⟩ := form_syn u hv
    have HU' := HU
    rw [e1, e2, e3, e4, e5, e6] at HU'
    refine ⟨0, 0, 0, 0, 20, ?_, hide fun w => areaR_none s w hs (rN s) _ _ _ _ _ (by omega) h2 HR hk u hu HU'⟩
    by_cases h3 : 1 + rN u = t.size
    · exact hide fun w => area_two_syn s w hs t (rR u) (rC u) (rE u) (rP u) (rQ u) hE h2 ht (hide fun w => corner_good t u w zt hz hk' tu h3) (by rw [e1]; rfl)
    · exact hide fun w => area_two_syn s w hs t 0 0 20 false false hE h2 ht (hide fun w => corner_short t u w zt hz hk' tu h3) rfl
  have hpu := cD_pos u hv
  have hnu : rN u = cD u := by unfold rN; rw [hv]; simp
  have hEu : (rE u == 20) = false := by unfold rE; rw [hv]; cases offS u <;> rfl
  have hEu2 : rE u = 0 → mayB (rR u) (rC u) = true := fun h => by
    cases ho : offS u
    · exact (form_on u hv ho).2.2.2.2.2.2
    · have := (form_off u hv ho).2.1
      omega
  by_cases h3 : rN s + 1 + rN u = s.size
  case neg =>
    exact ⟨0, 0, 0, 0, 20, hide fun w => area_two_syn s w hs t 0 0 20 false false hE h2 ht (hide fun w => corner_short t u w zt hz hk' tu (by omega)) rfl, hide fun w => areaR_short s w hs (rN s) _ _ _ _ _ (by omega) h2 HR hk u hu _ _ _ _ _ (rN u) (by omega) HU h3 (by omega)⟩
  have HK : Hid (∀ w, Calls Tryd.prog 36 #[.string t] w fun e w' => e = .returned (.tuple #[refV (rR u) (rC u) (rP u) (rQ u), .int .i64 (rE u)]) ∧ Below w.heap.size w w') := hide fun w => corner_good t u w zt hz hk' tu (by omega)
  cases he : (rE s != 0)
  case true =>
    exact ⟨0, 0, 0, 0, 10, hide fun w => area_two_off1 s w hs t _ _ _ _ _ hE h2 ht HK hEu he, hide fun w => areaR_off1 s w hs (rN s) _ _ _ _ _ (by omega) h2 HR hk u hu _ _ _ _ _ (rN u) (by omega) HU h3 he⟩
  cases hf : (rE u != 0)
  case true =>
    exact ⟨0, 0, 0, 0, 10, hide fun w => area_two_off2 s w hs t _ _ _ _ _ hE h2 ht HK hEu he hf, hide fun w => areaR_off2 s w hs (rN s) _ _ _ _ _ (by omega) h2 HR hk u hu _ _ _ _ _ (rN u) (by omega) HU h3 he hf⟩
  obtain ⟨b1, b2, b3, b4⟩ := may_bounds (hE2 (by simpa using he))
  obtain ⟨c1, c2, c3, c4⟩ := may_bounds (hEu2 (by simpa using hf))
  by_cases h : (max (rR s) (rR u) - min (rR s) (rR u) + 1) * (max (rC s) (rC u) - min (rC s) (rC u) + 1) ≤ 4096
  · exact ⟨_, _, _, _, _, hide fun w => area_two s w hs t _ _ _ _ _ hE h2 ht HK hEu he hf _ _ _ _ _ (hide fun w => between_yes (rR s) (rC s) (rR u) (rC u) (rP s) (rQ s) (rP u) (rQ u) w b1 b2 b3 b4 c1 c2 c3 c4 h), hide fun w => areaR_two s w hs (rN s) _ _ _ _ _ (by omega) h2 HR hk u hu _ _ _ _ _ (rN u) (by omega) HU h3 he hf b1 b2 b3 b4 c1 c2 c3 c4 h⟩
  · exact ⟨_, _, _, _, _, hide fun w => area_two s w hs t _ _ _ _ _ hE h2 ht HK hEu he hf _ _ _ _ _ (hide fun w => between_no (rR s) (rC s) (rR u) (rC u) (rP s) (rQ s) (rP u) (rQ u) w b1 b2 b3 b4 c1 c2 c3 c4 (by omega)), hide fun w => areaR_big s w hs (rN s) _ _ _ _ _ (by omega) h2 HR hk u hu _ _ _ _ _ (rN u) (by omega) HU h3 he hf b1 b2 b3 b4 c1 c2 c3 c4 (by omega)⟩
end Go.Proofs.YtjhfjpofmkofhaaDoor
