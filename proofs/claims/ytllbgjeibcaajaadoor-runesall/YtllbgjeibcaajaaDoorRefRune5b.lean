/- What the reference's Rune answers, all cases in one: proved of the Go text. -/
import Derived.Test.YtllbgjeibcaajaaDoorRefRune5
namespace Go.Proofs.YtllbgjeibcaajaaDoor
open Go.RowKit Go.Sort
set_option linter.unusedVariables false

theorem get_byt (s : ByteArray) (j : Nat) : (s.get! j).toNat = byt s j := by
  by_cases h : j < s.size
  · rw [byt_at s j h]
    congr 1
    show s.data[j]! = s.data[j]
    rw [getElem!_pos]
  · rw [get_beyond s j h]
    unfold byt
    have : s.data.toList.length ≤ j := by rw [← Lib.size_eq]; omega
    simp [List.getD, List.getElem?_eq_none this]
theorem decode_byt (s : ByteArray) (i : Nat) : Utf8.decode s i = Lib.decodeN (s.size - i) (byt s i) (byt s (i + 1)) (byt s (i + 2)) (byt s (i + 3)) := by
  rw [Lib.decode_at, get_byt, get_byt, get_byt, get_byt]
abbrev SlowAt (s : ByteArray) (i sz lo hi : Nat) : Prop := Lib.slowN (s.size - i) (byt s i) (byt s (i + 1)) (byt s (i + 2)) (byt s (i + 3)) sz lo hi = Utf8.decode s i
theorem d_none {s : ByteArray} {i sz lo hi : Nat} (h : SlowAt s i sz lo hi) (hz : 2 ≤ sz) (hi' : i < s.size) (t : tl s (i + 1) lo hi = false) : nr s i = 65533 ∧ wd s i = 1 := by
  have t' := of_decide_eq_false t
  unfold nr wd
  rw [← h]
  unfold Lib.slowN
  by_cases c : s.size - i < sz
  · rw [if_pos c]; exact ⟨rfl, rfl⟩
  · rw [if_neg c, if_pos (by omega)]; exact ⟨rfl, rfl⟩
theorem d_two {s : ByteArray} {i lo hi : Nat} (h : SlowAt s i 2 lo hi) (t : tl s (i + 1) lo hi = true) : nr s i = byt s i % 32 * 64 + byt s (i + 1) % 64 ∧ wd s i = 2 := by
  have t' := of_decide_eq_true t
  unfold nr wd
  rw [← h]
  unfold Lib.slowN
  rw [if_neg (by omega), if_neg (by omega), if_pos (by omega)]
  exact ⟨rfl, rfl⟩
theorem d_some1 {s : ByteArray} {i sz lo hi : Nat} (h : SlowAt s i sz lo hi) (hz : 3 ≤ sz) (hi' : i < s.size) (t : tl s (i + 1) lo hi = true) (t2 : tl s (i + 2) 128 191 = false) : nr s i = 65533 ∧ wd s i = 1 := by
  have t' := of_decide_eq_true t
  have t2' := of_decide_eq_false t2
  unfold nr wd
  rw [← h]
  unfold Lib.slowN
  by_cases c : s.size - i < sz
  · rw [if_pos c]; exact ⟨rfl, rfl⟩
  · rw [if_neg c, if_neg (by omega), if_neg (by omega), if_pos (by omega)]; exact ⟨rfl, rfl⟩
theorem d_three {s : ByteArray} {i lo hi : Nat} (h : SlowAt s i 3 lo hi) (t : tl s (i + 1) lo hi = true) (t2 : tl s (i + 2) 128 191 = true) : nr s i = byt s i % 16 * 4096 + byt s (i + 1) % 64 * 64 + byt s (i + 2) % 64 ∧ wd s i = 3 := by
  have t' := of_decide_eq_true t
  have t2' := of_decide_eq_true t2
  unfold nr wd
  rw [← h]
  unfold Lib.slowN
  rw [if_neg (by omega), if_neg (by omega), if_neg (by omega), if_neg (by omega), if_pos (by omega)]
  exact ⟨rfl, rfl⟩
theorem d_some2 {s : ByteArray} {i lo hi : Nat} (h : SlowAt s i 4 lo hi) (hi' : i < s.size) (t : tl s (i + 1) lo hi = true) (t2 : tl s (i + 2) 128 191 = true) (t3 : tl s (i + 3) 128 191 = false) : nr s i = 65533 ∧ wd s i = 1 := by
  have t' := of_decide_eq_true t
  have t2' := of_decide_eq_true t2
  have t3' := of_decide_eq_false t3
  unfold nr wd
  rw [← h]
  unfold Lib.slowN
  by_cases c : s.size - i < 4
  · rw [if_pos c]; exact ⟨rfl, rfl⟩
  · rw [if_neg c, if_neg (by omega), if_neg (by omega), if_neg (by omega), if_neg (by omega), if_pos (by omega)]; exact ⟨rfl, rfl⟩
theorem d_four {s : ByteArray} {i lo hi : Nat} (h : SlowAt s i 4 lo hi) (t : tl s (i + 1) lo hi = true) (t2 : tl s (i + 2) 128 191 = true) (t3 : tl s (i + 3) 128 191 = true) : nr s i = byt s i % 8 * 262144 + byt s (i + 1) % 64 * 4096 + byt s (i + 2) % 64 * 64 + byt s (i + 3) % 64 ∧ wd s i = 4 := by
  have t' := of_decide_eq_true t
  have t2' := of_decide_eq_true t2
  have t3' := of_decide_eq_true t3
  unfold nr wd
  rw [← h]
  unfold Lib.slowN
  rw [if_neg (by omega), if_neg (by omega), if_neg (by omega), if_neg (by omega), if_neg (by omega), if_neg (by omega)]
  exact ⟨rfl, rfl⟩
theorem bl (s : ByteArray) (j : Nat) : byt s j < 256 := by have := byt_le s j; omega
theorem cv {s : ByteArray} {i a b : Nat} {x y : Int} (h : nr s i = a ∧ wd s i = b) (H : CallIs 26 #[.string s, .int .i64 i] (.tuple #[.int .i64 x, .int .i64 y])) (e1 : x = a) (e2 : y = b) : CallIs 26 #[.string s, .int .i64 i] (.tuple #[.int .i64 (nr s i), .int .i64 (wd s i)]) := by
  rw [h.1, h.2, ← e1, ← e2]; exact H
theorem rune_e0A (s : ByteArray) (i : Nat) (h : i < s.size) (hs : s.size ≤ 200000) (h1 : s[i].toNat = 224) : CallIs 26 #[.string s, .int .i64 i] (.tuple #[.int .i64 (nr s i), .int .i64 (wd s i)]) := by
  have hb := byt_at s i h
  have hd : SlowAt s i 3 160 191 := by rw [SlowAt, decode_byt]; exact Lib.slow_E0 _ _ _ _ _ (by omega) (bl _ _) (bl _ _) (bl _ _) (by rw [hb]; exact h1)
  cases t1 : tl s (i + 1) 160 191 with
  | false => exact cv (d_none hd (by decide) h t1) (rune_e00 s i h hs (hide h1) t1) rfl rfl
  | true =>
    cases t2 : tl s (i + 2) 128 191 with
    | false => exact cv (d_some1 hd (by decide) h t1 t2) (rune_e01 s i h hs (hide h1) t1 t2) rfl rfl
    | true =>
      have p1 := (of_decide_eq_true t1).1
      have p2 := (of_decide_eq_true t2).1
      exact cv (d_three hd t1 t2) (rune_e02 s i h hs (hide h1) t1 t2 _ _ rfl rfl p1 p2) (by rw [byt_at s i h, byt_at s _ p1, byt_at s _ p2]) rfl
theorem rune_edA (s : ByteArray) (i : Nat) (h : i < s.size) (hs : s.size ≤ 200000) (h1 : s[i].toNat = 237) : CallIs 26 #[.string s, .int .i64 i] (.tuple #[.int .i64 (nr s i), .int .i64 (wd s i)]) := by
  have hb := byt_at s i h
  have hd : SlowAt s i 3 128 159 := by rw [SlowAt, decode_byt]; exact Lib.slow_ED _ _ _ _ _ (by omega) (bl _ _) (bl _ _) (bl _ _) (by rw [hb]; exact h1)
  cases t1 : tl s (i + 1) 128 159 with
  | false => exact cv (d_none hd (by decide) h t1) (rune_ed0 s i h hs (hide h1) t1) rfl rfl
  | true =>
    cases t2 : tl s (i + 2) 128 191 with
    | false => exact cv (d_some1 hd (by decide) h t1 t2) (rune_ed1 s i h hs (hide h1) t1 t2) rfl rfl
    | true =>
      have p1 := (of_decide_eq_true t1).1
      have p2 := (of_decide_eq_true t2).1
      exact cv (d_three hd t1 t2) (rune_ed2 s i h hs (hide h1) t1 t2 _ _ rfl rfl p1 p2) (by rw [byt_at s i h, byt_at s _ p1, byt_at s _ p2]) rfl
theorem rune_eeA (s : ByteArray) (i : Nat) (h : i < s.size) (hs : s.size ≤ 200000) (h1 : 224 ≤ s[i].toNat) (h2 : s[i].toNat ≤ 239) (h3 : s[i].toNat ≠ 224) (h4 : s[i].toNat ≠ 237) : CallIs 26 #[.string s, .int .i64 i] (.tuple #[.int .i64 (nr s i), .int .i64 (wd s i)]) := by
  have hb := byt_at s i h
  have hd : SlowAt s i 3 128 191 := by rw [SlowAt, decode_byt]; exact Lib.slow_E1 _ _ _ _ _ (by omega) (bl _ _) (bl _ _) (bl _ _) (by rw [hb]; omega)
  cases t1 : tl s (i + 1) 128 191 with
  | false => exact cv (d_none hd (by decide) h t1) (rune_ee0 s i h hs h1 h2 h3 h4 t1) rfl rfl
  | true =>
    cases t2 : tl s (i + 2) 128 191 with
    | false => exact cv (d_some1 hd (by decide) h t1 t2) (rune_ee1 s i h hs h1 h2 h3 h4 t1 t2) rfl rfl
    | true =>
      have p1 := (of_decide_eq_true t1).1
      have p2 := (of_decide_eq_true t2).1
      exact cv (d_three hd t1 t2) (rune_ee2 s i h hs h1 h2 h3 h4 t1 t2 _ _ rfl rfl p1 p2) (by rw [byt_at s i h, byt_at s _ p1, byt_at s _ p2]) rfl
theorem rune_f0A (s : ByteArray) (i : Nat) (h : i < s.size) (hs : s.size ≤ 200000) (h1 : s[i].toNat = 240) : CallIs 26 #[.string s, .int .i64 i] (.tuple #[.int .i64 (nr s i), .int .i64 (wd s i)]) := by
  have hb := byt_at s i h
  have hd : SlowAt s i 4 144 191 := by rw [SlowAt, decode_byt]; exact Lib.slow_F0 _ _ _ _ _ (by omega) (bl _ _) (bl _ _) (bl _ _) (by rw [hb]; exact h1)
  cases t1 : tl s (i + 1) 144 191 with
  | false => exact cv (d_none hd (by decide) h t1) (rune_f00 s i h hs (hide h1) t1) rfl rfl
  | true =>
    cases t2 : tl s (i + 2) 128 191 with
    | false => exact cv (d_some1 hd (by decide) h t1 t2) (rune_f01 s i h hs (hide h1) t1 t2) rfl rfl
    | true =>
      cases t3 : tl s (i + 3) 128 191 with
      | false => exact cv (d_some2 hd h t1 t2 t3) (rune_f02 s i h hs (hide h1) t1 t2 t3) rfl rfl
      | true =>
        have p1 := (of_decide_eq_true t1).1
        have p2 := (of_decide_eq_true t2).1
        have p3 := (of_decide_eq_true t3).1
        exact cv (d_four hd t1 t2 t3) (rune_f03 s i h hs (hide h1) t1 t2 t3 _ _ _ rfl rfl rfl p1 p2 p3) (by rw [byt_at s i h, byt_at s _ p1, byt_at s _ p2, byt_at s _ p3]) rfl
theorem rune_f4A (s : ByteArray) (i : Nat) (h : i < s.size) (hs : s.size ≤ 200000) (h1 : s[i].toNat = 244) : CallIs 26 #[.string s, .int .i64 i] (.tuple #[.int .i64 (nr s i), .int .i64 (wd s i)]) := by
  have hb := byt_at s i h
  have hd : SlowAt s i 4 128 143 := by rw [SlowAt, decode_byt]; exact Lib.slow_F4 _ _ _ _ _ (by omega) (bl _ _) (bl _ _) (bl _ _) (by rw [hb]; exact h1)
  cases t1 : tl s (i + 1) 128 143 with
  | false => exact cv (d_none hd (by decide) h t1) (rune_f40 s i h hs (hide h1) t1) rfl rfl
  | true =>
    cases t2 : tl s (i + 2) 128 191 with
    | false => exact cv (d_some1 hd (by decide) h t1 t2) (rune_f41 s i h hs (hide h1) t1 t2) rfl rfl
    | true =>
      cases t3 : tl s (i + 3) 128 191 with
      | false => exact cv (d_some2 hd h t1 t2 t3) (rune_f42 s i h hs (hide h1) t1 t2 t3) rfl rfl
      | true =>
        have p1 := (of_decide_eq_true t1).1
        have p2 := (of_decide_eq_true t2).1
        have p3 := (of_decide_eq_true t3).1
        exact cv (d_four hd t1 t2 t3) (rune_f43 s i h hs (hide h1) t1 t2 t3 _ _ _ rfl rfl rfl p1 p2 p3) (by rw [byt_at s i h, byt_at s _ p1, byt_at s _ p2, byt_at s _ p3]) rfl
theorem rune_f1A (s : ByteArray) (i : Nat) (h : i < s.size) (hs : s.size ≤ 200000) (h1 : 241 ≤ s[i].toNat) (h2 : s[i].toNat ≤ 243) : CallIs 26 #[.string s, .int .i64 i] (.tuple #[.int .i64 (nr s i), .int .i64 (wd s i)]) := by
  have hb := byt_at s i h
  have hd : SlowAt s i 4 128 191 := by rw [SlowAt, decode_byt]; exact Lib.slow_F1 _ _ _ _ _ (by omega) (bl _ _) (bl _ _) (bl _ _) (by rw [hb]; omega)
  cases t1 : tl s (i + 1) 128 191 with
  | false => exact cv (d_none hd (by decide) h t1) (rune_f10 s i h hs h1 h2 t1) rfl rfl
  | true =>
    cases t2 : tl s (i + 2) 128 191 with
    | false => exact cv (d_some1 hd (by decide) h t1 t2) (rune_f11 s i h hs h1 h2 t1 t2) rfl rfl
    | true =>
      cases t3 : tl s (i + 3) 128 191 with
      | false => exact cv (d_some2 hd h t1 t2 t3) (rune_f12 s i h hs h1 h2 t1 t2 t3) rfl rfl
      | true =>
        have p1 := (of_decide_eq_true t1).1
        have p2 := (of_decide_eq_true t2).1
        have p3 := (of_decide_eq_true t3).1
        exact cv (d_four hd t1 t2 t3) (rune_f13 s i h hs h1 h2 t1 t2 t3 _ _ _ rfl rfl rfl p1 p2 p3) (by rw [byt_at s i h, byt_at s _ p1, byt_at s _ p2, byt_at s _ p3]) rfl
theorem dec_low {s : ByteArray} {i : Nat} (h : i < s.size) (ha : byt s i < 128) : nr s i = byt s i ∧ wd s i = 1 := by
  unfold nr wd
  rw [decode_byt]
  unfold Lib.decodeN
  rw [if_pos ha]
  exact ⟨rfl, rfl⟩
theorem dec_bad {s : ByteArray} {i : Nat} (h : i < s.size) (ha : (128 ≤ byt s i ∧ byt s i < 194) ∨ 245 ≤ byt s i) : nr s i = 65533 ∧ wd s i = 1 := by
  have h0 := bl s i; have h1 := bl s (i + 1); have h2 := bl s (i + 2); have h3 := bl s (i + 3)
  unfold nr wd
  rw [decode_byt]
  generalize byt s i = b0 at *
  generalize byt s (i + 1) = b1 at *
  generalize byt s (i + 2) = b2 at *
  generalize byt s (i + 3) = b3 at *
  unfold Lib.decodeN
  repeat' split
  all_goals first | exact ⟨rfl, rfl⟩ | (exfalso; omega)
/-- The reference's Rune is the model's own decoding. -/
theorem rune_any (s : ByteArray) (i : Nat) (h : i < s.size) (hs : s.size ≤ 200000) : CallIs 26 #[.string s, .int .i64 i] (.tuple #[.int .i64 (nr s i), .int .i64 (wd s i)]) := by
  have hb := byt_at s i h
  have h5 := s[i].toNat_lt
  by_cases c1 : s[i].toNat < 128
  · exact cv (dec_low h (by omega)) (rune_a s i h hs c1) (by rw [hb]) rfl
  · by_cases c2 : s[i].toNat < 194
    · exact cv (dec_bad h (.inl (by omega))) (rune_x0 s i h hs (by omega) c2) rfl rfl
    · by_cases c3 : s[i].toNat ≤ 223
      · have hd : SlowAt s i 2 128 191 := by rw [SlowAt, decode_byt]; exact Lib.slow_C2 _ _ _ _ _ (by omega) (bl _ _) (bl _ _) (bl _ _) (by omega)
        cases t1 : tl s (i + 1) 128 191 with
        | false => exact cv (d_none hd (by decide) h t1) (rune_b0 s i h hs (by omega) c3 t1) rfl rfl
        | true =>
          have p1 := (of_decide_eq_true t1).1
          exact cv (d_two hd t1) (rune_b1 s i h hs (by omega) c3 t1 p1) (by rw [byt_at s i h, byt_at s _ p1]) rfl
      · by_cases c4 : s[i].toNat = 224
        · exact rune_e0A s i h hs c4
        · by_cases c5 : s[i].toNat = 237
          · exact rune_edA s i h hs c5
          · by_cases c6 : s[i].toNat ≤ 239
            · exact rune_eeA s i h hs (by omega) c6 c4 c5
            · by_cases c7 : s[i].toNat = 240
              · exact rune_f0A s i h hs c7
              · by_cases c8 : s[i].toNat = 244
                · exact rune_f4A s i h hs c8
                · by_cases c9 : s[i].toNat ≤ 243
                  · exact rune_f1A s i h hs (by omega) c9
                  · exact cv (dec_bad h (.inr (by omega))) (rune_x1 s i h hs (by omega) (by omega)) rfl rfl
end Go.Proofs.YtllbgjeibcaajaaDoor
