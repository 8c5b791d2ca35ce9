/- Numbers' texts as values' texts: what is read of them, what a cell with them is worth; contracts of package value, whole. -/
import Derived.Test.YtgnmkhjilecdhaaGreatDoorBgnJ
import Derived.Test.YtgnmkhjilecdhaaGreatDoorKeys4
import Derived.Test.YtgnmkhjilecdhaaGreatDoorS4J
namespace Go.Proofs.YtgnmkhjilecdhaaGreatDoor
open Go.RowKit Go.Sort
set_option linter.unusedVariables false

abbrev lo : Int := -9223372036854775808
abbrev hi : Int := 9223372036854775807
abbrev iiV (a b : Int) : Value := .tuple #[.int .i64 a, .int .i64 b]
abbrev siV (s : ByteArray) (b : Int) : Value := .tuple #[.string s, .int .i64 b]
abbrev biV (s : Bool) (b : Int) : Value := .tuple #[.bool s, .int .i64 b]
abbrev vbV (k i : Int) (t : ByteArray) (b : Bool) : Value := .tuple #[vV k i t, .bool b]
theorem ne0 {x : Int} (h : ¬ x = 0) : (x != 0) = true := by rw [bne, beq_eq_false_iff_ne.2 h]; rfl
theorem same_is {f : FuncId} {args : Array Value} {v : Value} (h : ∀ w, Calls Tryz.prog f args w fun e w' => e = .returned v ∧ w' = w) : CallIs f args v := fun w => below_same (h w)
/-- A text is the one form of a number of 64 bits, or Read finds fault with it. -/
theorem read_num (s : ByteArray) (hs : s.size ≤ maxLen) : (∃ n : Int, CallIs 96 #[.string s] (iiV n 0) ∧ numeral n = s ∧ lo ≤ n ∧ n ≤ hi) ∨ (∃ x : Int, ¬ x = 0 ∧ CallIs 96 #[.string s] (iiV 0 x)) := by
  cases hf : formB s
  · exact .inr ⟨12, by decide, same_is (fun w => read_bad s w hs hf)⟩
  · have hp := form_size s hf
    cases h45 : ((s[0].toNat : Int) == 45)
    · have hd := form_dgs_bare s hp hf h45
      by_cases hv : val s.data.toList ≤ 9223372036854775807
      · refine .inl ⟨val s.data.toList, same_is (fun w => read_pos s w hs hf hp h45 hv), ?_, by show (-9223372036854775808 : Int) ≤ _; omega, by show _ ≤ (9223372036854775807 : Int); omega⟩
        refine data_eq ?_
        rw [numeral_data, itoa_pos]
        cases z : (s.toList == [48])
        · cases y : ((s[0].toNat : Int) == 48)
          · have hn : numL s.data.toList = true := by rw [num_else s hp y]; exact hd
            exact (dec_val _ hn).1
          · rw [form_lead s hp z y] at hf; cases hf
        · rw [ByteArray.toList_eq, beq_iff_eq] at z
          rw [z, show val [48] = 0 from rfl, dec_small (by omega)]; rfl
      · exact .inr ⟨13, by decide, same_is (fun w => read_posover s w hs hf hp h45 (by omega))⟩
    · obtain ⟨t, htt⟩ : ∃ t, s.extract 1 s.size = t := ⟨_, rfl⟩
      have hd := form_dgs_sign s t hp htt hf h45
      by_cases hv : val t.data.toList ≤ 9223372036854775808
      · refine .inl ⟨-(val t.data.toList : Int), same_is (fun w => read_neg s t w hs hf hp htt h45 hv), ?_, by show (-9223372036854775808 : Int) ≤ _; omega, by show _ ≤ (9223372036854775807 : Int); omega⟩
        have hn : numL t.data.toList = true := by rw [← form_sign s t hp htt h45]; exact hf
        obtain ⟨e1, e2⟩ := dec_val _ hn
        refine data_eq ?_
        rw [numeral_data, itoa_neg _ e2, e1]
        obtain ⟨r, hr⟩ := toList_cons s hp
        have ht2 := tail_of s _ _ hr
        rw [htt] at ht2
        rw [hr, ht2]
        have : s[0] = 45 := by rw [eq_45, beq_iff_eq] at h45; exact h45
        rw [this]
      · exact .inr ⟨13, by decide, same_is (fun w => read_negover s t w hs hf hp htt h45 (by omega))⟩
theorem text_is (n : Int) (h0 : lo ≤ n) (h1 : n ≤ hi) : CallT 122 #[.int .i64 n] (.string (numeral n)) := fun w ht => text_any n w h0 h1 ht
theorem numeral_head (n : Int) (h0 : lo ≤ n) (h1 : n ≤ hi) : ∃ hp : 0 < (numeral n).size, ((((numeral n)[0]'hp).toNat : Int) == 61) = false ∧ ((((numeral n)[0]'hp).toNat : Int) == 39) = false := by
  obtain ⟨l1, l2⟩ := numeral_len n h0 h1
  refine ⟨l1, ?_⟩
  by_cases hn : n < 0
  · obtain ⟨u, rfl⟩ : ∃ u : Nat, n = -(u : Int) := ⟨n.natAbs, by omega⟩
    have hd : (numeral (-(u : Int))).data.toList = 45 :: Lib.decDigits u := by rw [numeral_data, itoa_neg u (by omega)]
    rw [head_of _ l1 _ _ hd]; exact ⟨rfl, rfl⟩
  · obtain ⟨u, rfl⟩ : ∃ u : Nat, n = (u : Int) := ⟨n.toNat, by omega⟩
    have hd : (numeral (u : Int)).data.toList = Lib.decDigits u := by rw [numeral_data, itoa_pos]
    have hdd := dgs_at (numeral (u : Int)) 0 l1 (by rw [hd]; exact dgs_dec u)
    exact ⟨by rw [beq_eq_false_iff_ne]; omega, by rw [beq_eq_false_iff_ne]; omega⟩
theorem numeral_small (n : Int) (h0 : lo ≤ n) (h1 : n ≤ hi) : (numeral n).size ≤ maxLen := by
  have := (numeral_len n h0 h1).2; unfold maxLen; omega
theorem text_max {t : ByteArray} (h : t.size ≤ 32767) : t.size ≤ maxLen := by unfold maxLen; omega
theorem read_of (s : ByteArray) (h1 : s.size ≤ maxLen) (h2 : formB s = false) : CallIs 96 #[.string s] (iiV 0 12) := same_is (fun w => read_bad s w h1 h2)
theorem good_text {t : ByteArray} (h : t.size ≤ 32767) : Good 3 0 t := .inr (.inr (.inr (.inl ⟨rfl, rfl, h⟩)))
theorem good_int (n : Int) : Good 1 n no := .inr (.inl ⟨rfl, rfl⟩)
theorem good_err {e : Int} (h : 1 ≤ e ∧ e ≤ 6) : Good 4 e no := .inr (.inr (.inr (.inr ⟨rfl, h, rfl⟩)))
theorem eq_of_tl {s : ByteArray} {l : List UInt8} (h : (s.toList == l) = true) : s = ⟨l.toArray⟩ := by
  rw [beq_iff_eq, ByteArray.toList_eq] at h
  exact data_eq h
end Go.Proofs.YtgnmkhjilecdhaaGreatDoor
