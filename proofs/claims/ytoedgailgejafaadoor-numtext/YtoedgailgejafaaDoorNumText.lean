/- The law NumText returns true for every number of 64 bits and every text, and changes nothing that was there. -/
import Derived.Test.YtoedgailgejafaaDoorFrame
import Derived.Test.YtoedgailgejafaaDoorTextMath
namespace Go.Proofs.YtoedgailgejafaaDoor
open Go.RowKit
set_option linter.unusedVariables false

theorem head_of (s : ByteArray) (h : 0 < s.size) (c : UInt8) (r : List UInt8) (hl : s.data.toList = c :: r) : s[0] = c := by
  obtain ⟨r', hr⟩ := toList_cons s h
  rw [hr] at hl
  exact (List.cons.inj hl).1
theorem tail_of (s : ByteArray) (c : UInt8) (r : List UInt8) (hl : s.data.toList = c :: r) : (s.extract 1 s.size).data.toList = r := by
  have hz := Lib.size_eq s
  rw [Lib.extract_data, hl, List.drop_one, List.tail_cons]
  rw [hl] at hz
  exact List.take_of_length_le (by simp at hz; omega)
theorem read_numeral (n : Int) (w : World) (h0 : -9223372036854775808 ≤ n) (h1 : n ≤ 9223372036854775807) :
    Calls Tryd.prog 27 #[.string (numeral n)] w fun e w' => e = .returned (.tuple #[.int .i64 n, .int .i64 0]) ∧ w' = w := by
  obtain ⟨l1, l2⟩ := numeral_len n h0 h1
  have hs : (numeral n).size ≤ maxLen := by unfold maxLen; omega
  by_cases hn : n < 0
  · obtain ⟨u, rfl⟩ : ∃ u : Nat, n = -(u : Int) := ⟨n.natAbs, by omega⟩
    have hd : (numeral (-(u : Int))).data.toList = 45 :: Lib.decDigits u := by rw [numeral_data, itoa_neg u (by omega)]
    have ht := tail_of _ _ _ hd
    have hf : formB (numeral (-(u : Int))) = true := by unfold formB; rw [hd]; exact form_neg u (by omega)
    have h45 : ((((numeral (-(u : Int)))[0]'(by omega)).toNat : Int) == 45) = true := by rw [head_of _ (by omega) _ _ hd]; rfl
    have := read_neg (numeral (-(u : Int))) _ w hs hf (by omega) rfl h45 (by rw [ht, val_dec]; omega)
    rwa [ht, val_dec] at this
  · obtain ⟨u, rfl⟩ : ∃ u : Nat, n = (u : Int) := ⟨n.toNat, by omega⟩
    have hd : (numeral (u : Int)).data.toList = Lib.decDigits u := by rw [numeral_data, itoa_pos]
    have hf : formB (numeral (u : Int)) = true := by unfold formB; rw [hd]; exact form_pos u
    have h45 : ((((numeral (u : Int))[0]'(by omega)).toNat : Int) == 45) = false := by
      rw [eq_45, beq_eq_false_iff_ne]
      have hdd := dgs_at (numeral (u : Int)) 0 (by omega) (by rw [hd]; exact dgs_dec u)
      intro e; rw [e] at hdd; simp at hdd
    have := read_pos (numeral (u : Int)) w hs hf (by omega) h45 (by rw [hd, val_dec]; omega)
    rwa [hd, val_dec] at this
theorem text_as (n : Int) (s : ByteArray) (w : World) (h0 : -9223372036854775808 ≤ n) (h1 : n ≤ 9223372036854775807) (ht : Tab w) (hs : s.data.toList = Lib.itoa n) :
    Calls Tryd.prog 26 #[.int .i64 n] w fun e w' => e = .returned (.string s) ∧ Below w.heap.size w w' := by
  have e : s = ⟨(Lib.itoa n).toArray⟩ := by
    obtain ⟨⟨l⟩⟩ := s
    rw [← hs]
  rw [e]
  exact text_any n w h0 h1 ht
/-- The least text of a number beyond 64 bits has 19 digits. -/
theorem over_len (t : ByteArray) (h : dgs t.data.toList = true) (hv : 9223372036854775807 < val t.data.toList) : 19 ≤ t.size := by
  have h1 := val_lt t.data.toList h
  rw [← Lib.size_eq] at h1
  apply Classical.byContradiction
  intro hc
  have : 10 ^ t.size ≤ 10 ^ 18 := Nat.pow_le_pow_right (by omega) (by omega)
  omega

set_option maxHeartbeats 1000000 in
theorem text_bad (n : Int) (s : ByteArray) (w : World) (h0 : -9223372036854775808 ≤ n) (h1 : n ≤ 9223372036854775807) (ht : Tab w) (hs : s.size ≤ maxLen) (HS : Hid (∀ w, Calls Tryd.prog 27 #[.string s] w fun e w' => e = .returned (.tuple #[.int .i64 0, .int .i64 12]) ∧ w' = w)) :
    Calls Tryd.prog 7 #[.int .i64 n, .string s] w fun e w' => e = .returned (.bool true) ∧ Below w.heap.size w w' := by
  obtain ⟨l1, l2⟩ := numeral_len n h0 h1
  have HB := hide (begun_any w ht)
  have HT := hide (fun (w1 : World) (hb : Below w.heap.size w w1) => text_any n w1 h0 h1 (tab_below ht hb))
  have HR := hide (fun w => read_numeral n w h0 h1)
  have ne : ⟨(Lib.itoa n).toArray⟩ = numeral n := rfl
  rw [ne] at HT
  clear ne
  generalize numeral n = t at *
  have z1 : ((t.size : Int) == 0) = false := by rw [beq_eq_false_iff_ne]; omega
  have z2 : ¬ (20 : Int) < t.size := by omega
  clear ht
  go_enter Tryd.func7, Tryd.ntmps7
  try simp only [List.append]
  go_wp2_with (go_at_call 9; refine HB.out.mono ?_; rintro e wb ⟨rfl, hb⟩)
  refine (HT.out _ hb).mono ?_
  rintro e w1 ⟨rfl, hb1⟩
  go_wp2_with fail
  refine (HR.out _).mono ?_
  rintro e w2 ⟨rfl, rfl⟩
  go_wp2_with fail
  refine (HS.out _).mono ?_
  rintro e w3 ⟨rfl, rfl⟩
  go_wp2_with fail
  go_ret
  exact ⟨rfl, hb.trans (hb1.mono hb.size)⟩

set_option maxHeartbeats 1000000 in
theorem text_over (n : Int) (s : ByteArray) (w : World) (h0 : -9223372036854775808 ≤ n) (h1 : n ≤ 9223372036854775807) (ht : Tab w) (hs : s.size ≤ maxLen) (HS : Hid (∀ w, Calls Tryd.prog 27 #[.string s] w fun e w' => e = .returned (.tuple #[.int .i64 0, .int .i64 13]) ∧ w' = w)) (hl : 19 ≤ s.size) :
    Calls Tryd.prog 7 #[.int .i64 n, .string s] w fun e w' => e = .returned (.bool true) ∧ Below w.heap.size w w' := by
  obtain ⟨l1, l2⟩ := numeral_len n h0 h1
  have HB := hide (begun_any w ht)
  have HT := hide (fun (w1 : World) (hb : Below w.heap.size w w1) => text_any n w1 h0 h1 (tab_below ht hb))
  have HR := hide (fun w => read_numeral n w h0 h1)
  have ne : ⟨(Lib.itoa n).toArray⟩ = numeral n := rfl
  rw [ne] at HT
  clear ne
  generalize numeral n = t at *
  have z1 : ((t.size : Int) == 0) = false := by rw [beq_eq_false_iff_ne]; omega
  have z2 : ¬ (20 : Int) < t.size := by omega
  clear ht
  have z3 : (19 : Int) ≤ s.size := by omega
  go_enter Tryd.func7, Tryd.ntmps7
  try simp only [List.append]
  go_wp2_with (go_at_call 9; refine HB.out.mono ?_; rintro e wb ⟨rfl, hb⟩)
  refine (HT.out _ hb).mono ?_
  rintro e w1 ⟨rfl, hb1⟩
  go_wp2_with fail
  refine (HR.out _).mono ?_
  rintro e w2 ⟨rfl, rfl⟩
  go_wp2_with fail
  refine (HS.out _).mono ?_
  rintro e w3 ⟨rfl, rfl⟩
  go_wp2_with fail
  go_ret
  exact ⟨rfl, hb.trans (hb1.mono hb.size)⟩

set_option maxHeartbeats 1000000 in
theorem text_good (n : Int) (s : ByteArray) (w : World) (h0 : -9223372036854775808 ≤ n) (h1 : n ≤ 9223372036854775807) (ht : Tab w) (hs : s.size ≤ maxLen) (k : Int) (k0 : -9223372036854775808 ≤ k) (k1 : k ≤ 9223372036854775807) (HS : Hid (∀ w, Calls Tryd.prog 27 #[.string s] w fun e w' => e = .returned (.tuple #[.int .i64 k, .int .i64 0]) ∧ w' = w)) (hk : s.data.toList = Lib.itoa k) :
    Calls Tryd.prog 7 #[.int .i64 n, .string s] w fun e w' => e = .returned (.bool true) ∧ Below w.heap.size w w' := by
  obtain ⟨l1, l2⟩ := numeral_len n h0 h1
  have HB := hide (begun_any w ht)
  have HT := hide (fun (w1 : World) (hb : Below w.heap.size w w1) => text_any n w1 h0 h1 (tab_below ht hb))
  have HR := hide (fun w => read_numeral n w h0 h1)
  have ne : ⟨(Lib.itoa n).toArray⟩ = numeral n := rfl
  rw [ne] at HT
  clear ne
  generalize numeral n = t at *
  have z1 : ((t.size : Int) == 0) = false := by rw [beq_eq_false_iff_ne]; omega
  have z2 : ¬ (20 : Int) < t.size := by omega
  have HX := hide (fun (w1 : World) (hb : Below w.heap.size w w1) => text_as k s w1 k0 k1 (tab_below ht hb) hk)
  clear ht hk
  go_enter Tryd.func7, Tryd.ntmps7
  try simp only [List.append]
  go_wp2_with (go_at_call 9; refine HB.out.mono ?_; rintro e wb ⟨rfl, hb⟩)
  refine (HT.out _ hb).mono ?_
  rintro e w1 ⟨rfl, hb1⟩
  go_wp2_with fail
  refine (HR.out _).mono ?_
  rintro e w2 ⟨rfl, rfl⟩
  go_wp2_with fail
  refine (HS.out _).mono ?_
  rintro e w3 ⟨rfl, rfl⟩
  go_wp2_with fail
  refine (HX.out _ (hb.trans (hb1.mono hb.size))).mono ?_
  rintro e w4 ⟨rfl, hb4⟩
  go_wp2_with fail
  go_ret
  exact ⟨rfl, (hb.trans (hb1.mono hb.size)).trans (hb4.mono (hb.trans (hb1.mono hb.size)).size)⟩

theorem numText_walk (n : Int) (s : ByteArray) (w : World) (h0 : -9223372036854775808 ≤ n) (h1 : n ≤ 9223372036854775807) (hs : s.size ≤ maxLen) (ht : Tab w) :
    Calls Tryd.prog 7 #[.int .i64 n, .string s] w fun e w' => e = .returned (.bool true) ∧ Below w.heap.size w w' := by
  cases hf : formB s
  · exact text_bad n s w h0 h1 ht hs (hide (fun w => read_bad s w hs hf))
  · have hp := form_size s hf
    cases h45 : ((s[0].toNat : Int) == 45)
    · have hd := form_dgs_bare s hp hf h45
      by_cases hv : val s.data.toList ≤ 9223372036854775807
      · refine text_good n s w h0 h1 ht hs (val s.data.toList) (by omega) (by omega) (hide (fun w => read_pos s w hs hf hp h45 hv)) ?_
        rw [itoa_pos]
        cases z : (s.toList == [48])
        · cases y : ((s[0].toNat : Int) == 48)
          · have hn : numL s.data.toList = true := by rw [num_else s hp y]; exact hd
            exact (dec_val _ hn).1.symm
          · rw [form_lead s hp z y] at hf; cases hf
        · rw [ByteArray.toList_eq, beq_iff_eq] at z
          rw [z, show val [48] = 0 from rfl, dec_small (by omega)]; rfl
      · exact text_over n s w h0 h1 ht hs (hide (fun w => read_posover s w hs hf hp h45 (by omega))) (over_len s hd (by omega))
    · obtain ⟨t, htt⟩ : ∃ t, s.extract 1 s.size = t := ⟨_, rfl⟩
      have hd := form_dgs_sign s t hp htt hf h45
      have hts : t.size = s.size - 1 := by rw [← htt]; simp
      by_cases hv : val t.data.toList ≤ 9223372036854775808
      · refine text_good n s w h0 h1 ht hs (-(val t.data.toList : Int)) (by omega) (by omega) (hide (fun w => read_neg s t w hs hf hp htt h45 hv)) ?_
        have hn : numL t.data.toList = true := by rw [← form_sign s t hp htt h45]; exact hf
        obtain ⟨e1, e2⟩ := dec_val _ hn
        rw [itoa_neg _ e2, e1]
        obtain ⟨r, hr⟩ := toList_cons s hp
        have ht2 := tail_of s _ _ hr
        rw [htt] at ht2
        rw [hr, ht2]
        have : s[0] = 45 := by rw [eq_45, beq_iff_eq] at h45; exact h45
        rw [this]
      · have := over_len t hd (by omega)
        exact text_over n s w h0 h1 ht hs (hide (fun w => read_negover s t w hs hf hp htt h45 (by omega))) (by omega)
end Go.Proofs.YtoedgailgejafaaDoor
