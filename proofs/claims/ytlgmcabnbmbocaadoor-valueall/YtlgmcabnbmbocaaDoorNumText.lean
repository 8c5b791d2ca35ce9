/- The law NumText returns true for every number of 64 bits and every text, and changes nothing that was there. -/
import Derived.Test.YtlgmcabnbmbocaaDoorFrame
import Derived.Test.YtlgmcabnbmbocaaDoorTextMath
namespace Go.Proofs.YtlgmcabnbmbocaaDoor
open Go.RowKit
set_option linter.unusedVariables false

theorem head_of (s : ByteArray) (h : 0 < s.size) (c : UInt8) (r : List UInt8) (hl : s.data.toList = c :: r) : s[0] = c := by
  obtain ⟨r', hr⟩ := toList_cons s h
  rw [hr] at hl
  exact (List.cons.inj hl).1
theorem tail_of (s : ByteArray) (c : UInt8) (r : List UInt8) (hl : s.data.toList = c :: r) : (s.extract 1 s.size).data.toList = r := by
  have hz := Lib.size_eq s
  rw [Lib.extract_data, hl, List.drop_one, List.tail_cons]
  rw [hl] at hz
  exact List.take_of_length_le (by simp at hz; omega)
theorem read_numeral (n : Int) (w : World) (h0 : -9223372036854775808 ≤ n) (h1 : n ≤ 9223372036854775807) :
    Calls Tryd.prog 31 #[.string (numeral n)] w fun e w' => e = .returned (.tuple #[.int .i64 n, .int .i64 0]) ∧ w' = w := by
  obtain ⟨l1, l2⟩ := numeral_len n h0 h1
  have hs : (numeral n).size ≤ maxLen := by unfold maxLen; omega
  by_cases hn : n < 0
  · obtain ⟨u, rfl⟩ : ∃ u : Nat, n = -(u : Int) := ⟨n.natAbs, by omega⟩
    have hd : (numeral (-(u : Int))).data.toList = 45 :: Lib.decDigits u := by rw [numeral_data, itoa_neg u (by omega)]
    have ht := tail_of _ _ _ hd
    have hf : formB (numeral (-(u : Int))) = true := by unfold formB; rw [hd]; exact form_neg u (by omega)
    have h45 : ((((numeral (-(u : Int)))[0]'(by omega)).toNat : Int) == 45) = true := by rw [head_of _ (by omega) _ _ hd]; rfl
    have := read_neg (numeral (-(u : Int))) _ w hs hf (by omega) rfl h45 (by rw [ht, val_dec]; omega)
    rwa [ht, val_dec] at this
  · obtain ⟨u, rfl⟩ : ∃ u : Nat, n = (u : Int) := ⟨n.toNat, by omega⟩
    have hd : (numeral (u : Int)).data.toList = Lib.decDigits u := by rw [numeral_data, itoa_pos]
    have hf : formB (numeral (u : Int)) = true := by unfold formB; rw [hd]; exact form_pos u
    have h45 : ((((numeral (u : Int))[0]'(by omega)).toNat : Int) == 45) = false := by
      rw [eq_45, beq_eq_false_iff_ne]
      have hdd := dgs_at (numeral (u : Int)) 0 (by omega) (by rw [hd]; exact dgs_dec u)
      intro e; rw [e] at hdd; simp at hdd
    have := read_pos (numeral (u : Int)) w hs hf (by omega) h45 (by rw [hd, val_dec]; omega)
    rwa [hd, val_dec] at this
theorem text_as (n : Int) (s : ByteArray) (w : World) (h0 : -9223372036854775808 ≤ n) (h1 : n ≤ 9223372036854775807) (ht : Tab w) (hs : s.data.toList = Lib.itoa n) :
    Calls Tryd.prog 28 #[.int .i64 n] w fun e w' => e = .returned (.string s) ∧ Below w.heap.size w w' := by
  have e : s = ⟨(Lib.itoa n).toArray⟩ := by
    obtain ⟨⟨l⟩⟩ := s
    rw [← hs]
  rw [e]
  exact text_any n w h0 h1 ht
/-- The least text of a number beyond 64 bits has 19 digits. -/
theorem over_len (t : ByteArray) (h : dgs t.data.toList = true) (hv : 9223372036854775807 < val t.data.toList) : 19 ≤ t.size := by
  have h1 := val_lt t.data.toList h
  rw [← Lib.size_eq] at h1
  apply Classical.byContradiction
  intro hc
  have : 10 ^ t.size ≤ 10 ^ 18 := Nat.pow_le_pow_right (by omega) (by omega)
  omega

end Go.Proofs.YtlgmcabnbmbocaaDoor
