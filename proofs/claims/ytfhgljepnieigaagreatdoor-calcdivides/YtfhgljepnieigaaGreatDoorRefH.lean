/- The reference's Read and Text answer as package whole's do, for every text and every number: out of the contracts of both. -/
import Derived.Test.YtfhgljepnieigaaGreatDoorRefG
import Derived.Test.YtfhgljepnieigaaGreatDoorRefF
namespace Go.Proofs.YtfhgljepnieigaaGreatDoor
open Go.RowKit Go.Sort
set_option linter.unusedVariables false

theorem over19 (l : List UInt8) (h : numL l = true) (hl : 19 < l.length) : 10000000000000000000 ≤ val l := by
  apply Classical.byContradiction
  intro hc
  have h1 := dec_len 18 (val l) (by omega)
  rw [(dec_val l h).1] at h1
  omega
theorem sign_not_zero (s : ByteArray) (hp : 0 < s.size) (h1 : ((s[0].toNat : Int) == 45) = true) : (s.toList == [48]) = false := by
  obtain ⟨r, hr⟩ := toList_cons s hp
  rw [eq_45, beq_iff_eq] at h1
  rw [ByteArray.toList_eq, hr, h1]
  rfl
theorem read_agree (s : ByteArray) (hs : s.size ≤ maxLen) : Agree2 137 147 #[.string s] := by
  cases hf : formB s
  · refine ⟨0, 12, fun w => below_same (read_bad s w hs hf), fun w => ?_⟩
    by_cases hp : 0 < s.size
    · cases h45 : ((s[0].toNat : Int) == 45)
      · cases h0 : (s.toList == [48])
        · cases h48 : ((s[0].toNat : Int) == 48)
          · rw [form_bare s hp h0 h45 h48] at hf
            exact refRead_badbare s w hs hp h45 h48 (hide hf)
          · exact refRead_lead s w hs hp h45 h48 h0
        · rw [form_zero s h0] at hf; cases hf
      · obtain ⟨t, ht⟩ : ∃ t, s.extract 1 s.size = t := ⟨_, rfl⟩
        rw [form_sign s t hp ht h45] at hf
        by_cases tp : 0 < t.size
        · cases h48 : ((t[0].toNat : Int) == 48)
          · rw [num_else t tp h48] at hf
            exact refRead_badsign s t w hs hp h45 ht tp h48 (hide hf)
          · exact refRead_signlead s t w hs hp h45 ht tp h48 (sign_not_zero s hp h45)
        · exact refRead_signnil s t w hs hp h45 ht tp
    · exact refRead_empty s w hs hp
  · have hp := form_size s hf
    cases h45 : ((s[0].toNat : Int) == 45)
    · have hd := form_dgs_bare s hp hf h45
      cases h0 : (s.toList == [48])
      · cases h48 : ((s[0].toNat : Int) == 48)
        · have hn : numL s.data.toList = true := by rw [num_else s hp h48]; exact hd
          by_cases hl : 19 < s.size
          · have := over19 _ hn (by rw [← Lib.size_eq]; exact hl)
            exact ⟨0, 13, fun w => below_same (read_posover s w hs hf hp h45 (by omega)), fun w => refRead_longbare s w hs hp h45 h48 (hide hd) hl⟩
          · have hv := val_lt s.data.toList hd
            rw [← Lib.size_eq] at hv
            have hp19 : 10 ^ s.size ≤ 10 ^ 19 := Nat.pow_le_pow_right (by decide) (by omega)
            have hN := isN_plain false (val s.data.toList : Int) (by omega) (by omega)
            rw [show sval false (val s.data.toList : Int) = val s.data.toList from rfl] at hN
            by_cases hu : val s.data.toList ≤ 9223372036854775807
            · exact ⟨_, 0, fun w => below_same (read_pos s w hs hf hp h45 hu), fun w => refRead_bare s _ 0 w hs hp h45 h48 (hide hd) (by omega) (hide (fun w => told_yes _ _ _ _ w hN ⟨by omega, by omega⟩))⟩
            · exact ⟨0, 13, fun w => below_same (read_posover s w hs hf hp h45 (by omega)), fun w => refRead_bare s _ 13 w hs hp h45 h48 (hide hd) (by omega) (hide (fun w => told_no _ _ _ _ w hN (fun h => by have := h.2; omega)))⟩
        · rw [form_lead s hp h0 h48] at hf; cases hf
      · have hl : s.data.toList = [48] := by rw [ByteArray.toList_eq, beq_iff_eq] at h0; exact h0
        have hz : s.size = 1 := by rw [Lib.size_eq, hl]; rfl
        have hv : val s.data.toList = 0 := by rw [hl]; rfl
        have h48 : ((s[0].toNat : Int) == 48) = true := by
          obtain ⟨r, hr⟩ := toList_cons s hp
          rw [hl] at hr
          rw [← (List.cons.inj hr).1]; rfl
        have hN := isN_plain false (val s.data.toList : Int) (by omega) (by omega)
        rw [show sval false (val s.data.toList : Int) = val s.data.toList from rfl] at hN
        exact ⟨_, 0, fun w => below_same (read_pos s w hs hf hp h45 (by omega)), fun w => refRead_zero s _ 0 w hs hp h45 h48 h0 (hide hd) (by omega) (hide (fun w => told_yes _ _ _ _ w hN ⟨by omega, by omega⟩))⟩
    · obtain ⟨t, ht⟩ : ∃ t, s.extract 1 s.size = t := ⟨_, rfl⟩
      have hd := form_dgs_sign s t hp ht hf h45
      have hn : numL t.data.toList = true := by rw [← form_sign s t hp ht h45]; exact hf
      by_cases tp : 0 < t.size
      · cases h48 : ((t[0].toNat : Int) == 48)
        · by_cases hl : 19 < t.size
          · have := over19 _ hn (by rw [← Lib.size_eq]; exact hl)
            exact ⟨0, 13, fun w => below_same (read_negover s t w hs hf hp ht h45 (by omega)), fun w => refRead_longsign s t w hs hp h45 ht tp h48 (hide hd) hl⟩
          · have hv := val_lt t.data.toList hd
            rw [← Lib.size_eq] at hv
            have hp19 : 10 ^ t.size ≤ 10 ^ 19 := Nat.pow_le_pow_right (by decide) (by omega)
            have hN := isN_plain true (val t.data.toList : Int) (by omega) (by omega)
            rw [show sval true (val t.data.toList : Int) = -(val t.data.toList : Int) from rfl] at hN
            by_cases hu : val t.data.toList ≤ 9223372036854775808
            · exact ⟨_, 0, fun w => below_same (read_neg s t w hs hf hp ht h45 hu), fun w => refRead_sign s t _ 0 w hs hp h45 ht tp h48 (hide hd) (by omega) (hide (fun w => told_yes _ _ _ _ w hN ⟨by omega, by omega⟩))⟩
            · exact ⟨0, 13, fun w => below_same (read_negover s t w hs hf hp ht h45 (by omega)), fun w => refRead_sign s t _ 13 w hs hp h45 ht tp h48 (hide hd) (by omega) (hide (fun w => told_no _ _ _ _ w hN (fun h => by have := h.1; omega)))⟩
        · rw [num_zero t tp h48] at hn; cases hn
      · rw [num_nil t tp] at hn; cases hn
end Go.Proofs.YtfhgljepnieigaaGreatDoor
