/- Numbers' texts as values' texts: what is read of them, what a cell with them is worth; contracts of package value, whole. -/
import Derived.Test.YtlgmcabnbmbocaaDoorNumText
import Derived.Test.YtlgmcabnbmbocaaDoorKeys4
import Derived.Test.YtlgmcabnbmbocaaDoorLitb4
namespace Go.Proofs.YtlgmcabnbmbocaaDoor
open Go.RowKit Go.Sort
set_option linter.unusedVariables false

abbrev lo : Int := -9223372036854775808
abbrev hi : Int := 9223372036854775807
abbrev iiV (a b : Int) : Value := .tuple #[.int .i64 a, .int .i64 b]
abbrev siV (s : ByteArray) (b : Int) : Value := .tuple #[.string s, .int .i64 b]
abbrev biV (s : Bool) (b : Int) : Value := .tuple #[.bool s, .int .i64 b]
abbrev vbV (k i : Int) (t : ByteArray) (b : Bool) : Value := .tuple #[vV k i t, .bool b]
theorem ne0 {x : Int} (h : ¬ x = 0) : (x != 0) = true := by rw [bne, beq_eq_false_iff_ne.2 h]; rfl
theorem same_is {f : FuncId} {args : Array Value} {v : Value} (h : ∀ w, Calls Tryd.prog f args w fun e w' => e = .returned v ∧ w' = w) : CallIs f args v := fun w => below_same (h w)
/-- A text is the one form of a number of 64 bits, or Read finds fault with it. -/
theorem read_num (s : ByteArray) (hs : s.size ≤ maxLen) : (∃ n : Int, CallIs 31 #[.string s] (iiV n 0) ∧ numeral n = s ∧ lo ≤ n ∧ n ≤ hi) ∨ (∃ x : Int, ¬ x = 0 ∧ CallIs 31 #[.string s] (iiV 0 x)) := by
  cases hf : formB s
  · exact .inr ⟨12, by decide, same_is (fun w => read_bad s w hs hf)⟩
  · have hp := form_size s hf
    cases h45 : ((s[0].toNat : Int) == 45)
    · have hd := form_dgs_bare s hp hf h45
      by_cases hv : val s.data.toList ≤ 9223372036854775807
      · refine .inl ⟨val s.data.toList, same_is (fun w => read_pos s w hs hf hp h45 hv), ?_, by show (-9223372036854775808 : Int) ≤ _; omega, by show _ ≤ (9223372036854775807 : Int); omega⟩
        refine data_eq ?_
        rw [numeral_data, itoa_pos]
        cases z : (s.toList == [48])
        · cases y : ((s[0].toNat : Int) == 48)
          · have hn : numL s.data.toList = true := by rw [num_else s hp y]; exact hd
            exact (dec_val _ hn).1
          · rw [form_lead s hp z y] at hf; cases hf
        · rw [ByteArray.toList_eq, beq_iff_eq] at z
          rw [z, show val [48] = 0 from rfl, dec_small (by omega)]; rfl
      · exact .inr ⟨13, by decide, same_is (fun w => read_posover s w hs hf hp h45 (by omega))⟩
    · obtain ⟨t, htt⟩ : ∃ t, s.extract 1 s.size = t := ⟨_, rfl⟩
      have hd := form_dgs_sign s t hp htt hf h45
      by_cases hv : val t.data.toList ≤ 9223372036854775808
      · refine .inl ⟨-(val t.data.toList : Int), same_is (fun w => read_neg s t w hs hf hp htt h45 hv), ?_, by show (-9223372036854775808 : Int) ≤ _; omega, by show _ ≤ (9223372036854775807 : Int); omega⟩
        have hn : numL t.data.toList = true := by rw [← form_sign s t hp htt h45]; exact hf
        obtain ⟨e1, e2⟩ := dec_val _ hn
        refine data_eq ?_
        rw [numeral_data, itoa_neg _ e2, e1]
        obtain ⟨r, hr⟩ := toList_cons s hp
        have ht2 := tail_of s _ _ hr
        rw [htt] at ht2
        rw [hr, ht2]
        have : s[0] = 45 := by rw [eq_45, beq_iff_eq] at h45; exact h45
        rw [this]
      · exact .inr ⟨13, by decide, same_is (fun w => read_negover s t w hs hf hp htt h45 (by omega))⟩
theorem text_is (n : Int) (h0 : lo ≤ n) (h1 : n ≤ hi) : CallT 28 #[.int .i64 n] (.string (numeral n)) := fun w ht => text_any n w h0 h1 ht
theorem numeral_head (n : Int) (h0 : lo ≤ n) (h1 : n ≤ hi) : ∃ hp : 0 < (numeral n).size, ((((numeral n)[0]'hp).toNat : Int) == 61) = false ∧ ((((numeral n)[0]'hp).toNat : Int) == 39) = false := by
  obtain ⟨l1, l2⟩ := numeral_len n h0 h1
  refine ⟨l1, ?_⟩
  by_cases hn : n < 0
  · obtain ⟨u, rfl⟩ : ∃ u : Nat, n = -(u : Int) := ⟨n.natAbs, by omega⟩
    have hd : (numeral (-(u : Int))).data.toList = 45 :: Lib.decDigits u := by rw [numeral_data, itoa_neg u (by omega)]
    rw [head_of _ l1 _ _ hd]; exact ⟨rfl, rfl⟩
  · obtain ⟨u, rfl⟩ : ∃ u : Nat, n = (u : Int) := ⟨n.toNat, by omega⟩
    have hd : (numeral (u : Int)).data.toList = Lib.decDigits u := by rw [numeral_data, itoa_pos]
    have hdd := dgs_at (numeral (u : Int)) 0 l1 (by rw [hd]; exact dgs_dec u)
    exact ⟨by rw [beq_eq_false_iff_ne]; omega, by rw [beq_eq_false_iff_ne]; omega⟩
theorem numeral_small (n : Int) (h0 : lo ≤ n) (h1 : n ≤ hi) : (numeral n).size ≤ maxLen := by
  have := (numeral_len n h0 h1).2; unfold maxLen; omega
theorem text_max {t : ByteArray} (h : t.size ≤ 32767) : t.size ≤ maxLen := by unfold maxLen; omega
/-- A number's text in a cell is that number. -/
theorem lit_numeral (n : Int) (h0 : lo ≤ n) (h1 : n ≤ hi) : CallIs 12 #[.string (numeral n)] (vbV 1 n no true) := by
  obtain ⟨hp, q1, q2⟩ := numeral_head n h0 h1
  exact vlit_plain _ _ _ _ (numeral_small n h0 h1) hp q1 q2 (plain_num _ _ (same_is fun w => read_numeral n w h0 h1))
theorem read_of (s : ByteArray) (h1 : s.size ≤ maxLen) (h2 : formB s = false) : CallIs 31 #[.string s] (iiV 0 12) := same_is (fun w => read_bad s w h1 h2)
theorem lit_tT : CallIs 12 #[.string tT] (vbV 2 1 no true) := vlit_plain tT _ _ _ (by decide +kernel) (by decide +kernel) (by decide +kernel) (by decide +kernel) (plain_tT 0 12 rfl (read_of tT (by decide +kernel) (by decide +kernel)))
theorem lit_tF : CallIs 12 #[.string tF] (vbV 2 0 no true) := vlit_plain tF _ _ _ (by decide +kernel) (by decide +kernel) (by decide +kernel) (by decide +kernel) (plain_tF 0 12 rfl (read_of tF (by decide +kernel) (by decide +kernel)))
theorem lit_e1 : CallIs 12 #[.string e1T] (vbV 4 1 no true) := vlit_plain e1T _ _ _ (by decide +kernel) (by decide +kernel) (by decide +kernel) (by decide +kernel) (plain_e1 0 12 rfl (read_of e1T (by decide +kernel) (by decide +kernel)))
theorem lit_e2 : CallIs 12 #[.string e2T] (vbV 4 2 no true) := vlit_plain e2T _ _ _ (by decide +kernel) (by decide +kernel) (by decide +kernel) (by decide +kernel) (plain_e2 0 12 rfl (read_of e2T (by decide +kernel) (by decide +kernel)))
theorem lit_e3 : CallIs 12 #[.string e3T] (vbV 4 3 no true) := vlit_plain e3T _ _ _ (by decide +kernel) (by decide +kernel) (by decide +kernel) (by decide +kernel) (plain_e3 0 12 rfl (read_of e3T (by decide +kernel) (by decide +kernel)))
theorem lit_e4 : CallIs 12 #[.string e4T] (vbV 4 4 no true) := vlit_plain e4T _ _ _ (by decide +kernel) (by decide +kernel) (by decide +kernel) (by decide +kernel) (plain_e4 0 12 rfl (read_of e4T (by decide +kernel) (by decide +kernel)))
theorem lit_e5 : CallIs 12 #[.string e5T] (vbV 4 5 no true) := vlit_plain e5T _ _ _ (by decide +kernel) (by decide +kernel) (by decide +kernel) (by decide +kernel) (plain_e5 0 12 rfl (read_of e5T (by decide +kernel) (by decide +kernel)))
theorem lit_e6 : CallIs 12 #[.string e6T] (vbV 4 6 no true) := vlit_plain e6T _ _ _ (by decide +kernel) (by decide +kernel) (by decide +kernel) (by decide +kernel) (plain_e6 0 12 rfl (read_of e6T (by decide +kernel) (by decide +kernel)))
theorem good_text {t : ByteArray} (h : t.size ≤ 32767) : Good 3 0 t := .inr (.inr (.inr (.inl ⟨rfl, rfl, h⟩)))
theorem good_int (n : Int) : Good 1 n no := .inr (.inl ⟨rfl, rfl⟩)
theorem good_err {e : Int} (h : 1 ≤ e ∧ e ≤ 6) : Good 4 e no := .inr (.inr (.inr (.inr ⟨rfl, h, rfl⟩)))
theorem textv_good {s : ByteArray} (h : s.size ≤ 32767) : CallIs 29 #[.string s] (vV 3 0 s) := textv_is _ _ _ _ (sound_good (good_text h))
theorem textv_bad {s : ByteArray} (h : ¬ s.size ≤ 32767) : CallIs 29 #[.string s] (vV 4 4 no) := textv_is _ _ _ _ (sound_bad (fun g => h g.three.2))
theorem textv_both (s : ByteArray) : ∃ k i t, CallIs 29 #[.string s] (vV k i t) ∧ CallIs 43 #[.string s] (vV k i t) := by
  by_cases h : s.size ≤ 32767
  · exact ⟨_, _, _, textv_good h, rtext_good s h⟩
  · exact ⟨_, _, _, textv_bad h, rtext_bad s h⟩
theorem eq_of_tl {s : ByteArray} {l : List UInt8} (h : (s.toList == l) = true) : s = ⟨l.toArray⟩ := by
  rw [beq_iff_eq, ByteArray.toList_eq] at h
  exact data_eq h
theorem lit_both (s : ByteArray) (hs : s.size ≤ maxLen) : ∃ k i t b, CallIs 12 #[.string s] (vbV k i t b) ∧ CallIs 24 #[.string s] (vbV k i t b) := by
  by_cases hn : s = no
  · subst hn; exact ⟨_, _, _, _, vlit_nil, rlit_nil⟩
  have hp := ne_no hn
  cases h1 : ((s[0].toNat : Int) == 61)
  · cases h2 : ((s[0].toNat : Int) == 39)
    · obtain ⟨n, x, R1, R2⟩ := read_agree s hs
      have HR : CallIs 31 #[.string s] (iiV n x) := R1
      have HR' : CallIs 38 #[.string s] (iiV n x) := R2
      clear R1 R2
      by_cases hx : x = 0
      · subst hx
        exact ⟨_, _, _, _, vlit_plain s _ _ _ hs hp h1 h2 (plain_num s n HR), rlit_num s n hs hp h1 h2 HR'⟩
      have qx := beq_eq_false_iff_ne.2 hx
      cases hT : (s.toList == [84, 82, 85, 69])
      · cases hF : (s.toList == [70, 65, 76, 83, 69])
        · cases n1 : (s.toList == [35, 78, 65, 77, 69, 63])
          · cases n2 : (s.toList == [35, 78, 85, 77, 33])
            · cases n3 : (s.toList == [35, 82, 69, 70, 33])
              · cases n4 : (s.toList == [35, 86, 65, 76, 85, 69, 33])
                · cases n5 : (s.toList == [35, 68, 73, 86, 47, 48, 33])
                  · cases n6 : (s.toList == [35, 78, 47, 65])
                    · obtain ⟨k, i, t, X1, X2⟩ := textv_both s
                      exact ⟨_, _, _, _, vlit_plain s _ _ _ hs hp h1 h2 (plain_text s _ _ _ n x qx hT hF n1 n2 n3 n4 n5 n6 HR X1), rlit_text s _ _ _ hs hp h1 h2 n x qx hT hF n1 n2 n3 n4 n5 n6 HR' X2⟩
                    · obtain rfl := eq_of_tl n6
                      exact ⟨_, _, _, _, vlit_plain _ _ _ _ hs hp h1 h2 (plain_e6 n x qx HR), rlit_e6 n x qx HR'⟩
                  · obtain rfl := eq_of_tl n5
                    exact ⟨_, _, _, _, vlit_plain _ _ _ _ hs hp h1 h2 (plain_e5 n x qx HR), rlit_e5 n x qx HR'⟩
                · obtain rfl := eq_of_tl n4
                  exact ⟨_, _, _, _, vlit_plain _ _ _ _ hs hp h1 h2 (plain_e4 n x qx HR), rlit_e4 n x qx HR'⟩
              · obtain rfl := eq_of_tl n3
                exact ⟨_, _, _, _, vlit_plain _ _ _ _ hs hp h1 h2 (plain_e3 n x qx HR), rlit_e3 n x qx HR'⟩
            · obtain rfl := eq_of_tl n2
              exact ⟨_, _, _, _, vlit_plain _ _ _ _ hs hp h1 h2 (plain_e2 n x qx HR), rlit_e2 n x qx HR'⟩
          · obtain rfl := eq_of_tl n1
            exact ⟨_, _, _, _, vlit_plain _ _ _ _ hs hp h1 h2 (plain_e1 n x qx HR), rlit_e1 n x qx HR'⟩
        · obtain rfl := eq_of_tl hF
          exact ⟨_, _, _, _, vlit_plain _ _ _ _ hs hp h1 h2 (plain_tF n x qx HR), rlit_tF n x qx HR'⟩
      · obtain rfl := eq_of_tl hT
        exact ⟨_, _, _, _, vlit_plain _ _ _ _ hs hp h1 h2 (plain_tT n x qx HR), rlit_tT n x qx HR'⟩
    · obtain ⟨k, i, t, X1, X2⟩ := textv_both (s.extract 1 s.size)
      exact ⟨_, _, _, _, vlit_quote s _ _ _ _ hs hp rfl h1 h2 X1, rlit_quote s _ _ _ _ hs hp rfl h1 h2 X2⟩
  · exact ⟨_, _, _, _, vlit_eq s hs hp h1, rlit_eq s hs hp h1⟩
end Go.Proofs.YtlgmcabnbmbocaaDoor
