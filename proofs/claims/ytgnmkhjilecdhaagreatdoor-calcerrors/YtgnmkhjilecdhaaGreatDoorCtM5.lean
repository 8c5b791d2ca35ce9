/- Texts turned twice, cut in two, found in themselves: the mathematics, of no program. -/
import Derived.Test.YtgnmkhjilecdhaaGreatDoorFind5
namespace Go.Proofs.YtgnmkhjilecdhaaGreatDoor.T5
set_option linter.unusedVariables false
set_option maxRecDepth 100000

/-- Is each byte one of a rune's form? -/
def snd (s : ByteArray) : Prop := ∀ k, k < rc s 0 → nr s (sk s k 0) = 65533 → (s.get! (sk s k 0)).toNat = 239
theorem get_list (s : ByteArray) (i : Nat) : s.get! i = s.data.toList.getD i 0 := by
  show s.data[i]! = _
  rw [List.getD_eq_getElem?_getD, Array.getElem!_eq_getD, Array.getD_eq_getD_getElem?, Array.getElem?_toList]
  rfl
theorem decN_one (n b0 b1 b2 b3 : Nat) (h0 : ¬ b0 < 128) (hA : (Lib.decodeN n b0 b1 b2 b3).2 = 1) : (Lib.decodeN n b0 b1 b2 b3).1 = 65533 := by
  revert hA
  unfold Lib.decodeN
  repeat' split
  all_goals simp only
  all_goals intro hA
  all_goals first | omega | rfl
theorem decN_same (n n' b0 b1 b2 b3 c1 c2 c3 : Nat) (hn1 : 1 ≤ n') (hs : (Lib.decodeN n b0 b1 b2 b3).1 = 65533 → b0 = 239) (hk : (Lib.decodeN n b0 b1 b2 b3).2 ≤ n') (e1 : 1 < (Lib.decodeN n b0 b1 b2 b3).2 → c1 = b1) (e2 : 2 < (Lib.decodeN n b0 b1 b2 b3).2 → c2 = b2) (e3 : 3 < (Lib.decodeN n b0 b1 b2 b3).2 → c3 = b3) (ho : (Lib.decodeN n b0 b1 b2 b3).2 = 1 → 1 < n' → c1 / 64 ≠ 2) : (Lib.decodeN n' b0 c1 c2 c3).2 = (Lib.decodeN n b0 b1 b2 b3).2 := by
  by_cases h0 : b0 < 128
  · simp only [Lib.decodeN, if_pos h0]
  by_cases hA : (Lib.decodeN n b0 b1 b2 b3).2 = 1
  · rw [hA]
    have ho := ho hA
    have hb0 := hs (decN_one n b0 b1 b2 b3 h0 hA)
    clear hs hA e1 e2 e3 hk
    subst hb0
    unfold Lib.decodeN
    repeat' split
    all_goals simp only
    all_goals omega
  · revert hA hk e1 e2 e3
    unfold Lib.decodeN
    rw [if_neg h0, if_neg h0]
    by_cases a1 : b0 / 32 = 6 ∧ (1 < n ∧ b1 / 64 = 2)
    · rw [if_pos a1]
      split
      · intro hk e1 e2 e3 hA
        simp only at e1 e2 e3 hk
        have := e1 (by omega)
        subst this
        rw [if_pos ⟨a1.1, by omega, a1.2.2⟩, if_pos (by assumption)]
      · intro _ _ _ _ hA; exact absurd rfl hA
    · rw [if_neg a1]
      by_cases a2 : b0 / 16 = 14 ∧ (1 < n ∧ b1 / 64 = 2) ∧ (2 < n ∧ b2 / 64 = 2)
      · rw [if_pos a2]
        split
        · intro hk e1 e2 e3 hA
          simp only at e1 e2 e3 hk
          have := e1 (by omega)
          subst this
          have := e2 (by omega)
          subst this
          rw [if_neg (by omega), if_pos ⟨a2.1, ⟨by omega, a2.2.1.2⟩, by omega, a2.2.2.2⟩, if_pos (by assumption)]
        · intro _ _ _ _ hA; exact absurd rfl hA
      · rw [if_neg a2]
        by_cases a3 : b0 / 8 = 30 ∧ (1 < n ∧ b1 / 64 = 2) ∧ (2 < n ∧ b2 / 64 = 2) ∧ (3 < n ∧ b3 / 64 = 2)
        · rw [if_pos a3]
          split
          · intro hk e1 e2 e3 hA
            simp only at e1 e2 e3 hk
            have := e1 (by omega)
            subst this
            have := e2 (by omega)
            subst this
            have := e3 (by omega)
            subst this
            rw [if_neg (by omega), if_neg (by omega), if_pos ⟨a3.1, ⟨by omega, a3.2.1.2⟩, ⟨by omega, a3.2.2.1.2⟩, by omega, a3.2.2.2.2⟩, if_pos (by assumption)]
          · intro _ _ _ _ hA; exact absurd rfl hA
        · rw [if_neg a3]
          intro _ _ _ _ hA; exact absurd rfl hA
/-- No rune of such a text begins with a byte that goes on. -/
theorem decN_head (n b0 b1 b2 b3 : Nat) (hs : (Lib.decodeN n b0 b1 b2 b3).1 = 65533 → b0 = 239) : b0 / 64 ≠ 2 := by
  intro h
  have : (Lib.decodeN n b0 b1 b2 b3).1 = 65533 := by
    clear hs
    unfold Lib.decodeN
    repeat' split
    all_goals simp only
    all_goals first | omega | (exfalso; omega)
  have := hs this
  omega
theorem sz_list (s : ByteArray) : s.data.toList.length = s.size := (Lib.size_eq s).symm
theorem tk_drop (s : ByteArray) : ∀ n k, k ≤ n → (tk s n).drop (sk s n 0 - sk s k 0) = tk s k
  | 0, k, h => by obtain rfl : k = 0 := by omega
                  simp [tk]
  | n + 1, k, h => by
    by_cases hk : k = n + 1
    · subst hk; simp
    · have h1 := sk_mono s (show k ≤ n by omega) 0
      have h2 := sk_mono s (show n ≤ n + 1 by omega) 0
      rw [tk, List.drop_append, pc_len s _ _ (sk_le s _ 0 (Nat.zero_le _)), List.drop_eq_nil_of_le (by rw [pc_len s _ _ (sk_le s _ 0 (Nat.zero_le _))]; omega), List.nil_append, show sk s (n + 1) 0 - sk s k 0 - (sk s (n + 1) 0 - sk s n 0) = sk s n 0 - sk s k 0 by omega]
      exact tk_drop s n k (by omega)
theorem sk_rc (s : ByteArray) : sk s (rc s 0) 0 = s.size := sk_all s _ 0 (Nat.zero_le _) (Nat.le_refl _)
theorem turned_list (s : ByteArray) : (turned s).data.toList = tk s (rc s 0) := rfl
/-- What the turned text holds from where k runes are left. -/
theorem turned_from (s : ByteArray) (k : Nat) (h : k ≤ rc s 0) : (turned s).data.toList.drop (s.size - sk s k 0) = tk s k := by
  have := tk_drop s (rc s 0) k h
  rw [sk_rc] at this
  rw [turned_list]; exact this
theorem pc_get (s : ByteArray) (a b i : Nat) (h : i < b - a) : (pc s a b).getD i 0 = s.get! (a + i) := by
  rw [get_list, pc, List.getD_eq_getElem?_getD, List.getD_eq_getElem?_getD, List.getElem?_take, if_pos h, List.getElem?_drop]
theorem sk_wd (s : ByteArray) (k : Nat) (h : k < rc s 0) : sk s (k + 1) 0 = sk s k 0 + wd s (sk s k 0) := by
  rw [sk_succ, nx, if_pos (sk_lt s k 0 (Nat.zero_le _) h)]
theorem turned_get (s : ByteArray) (k i : Nat) (h : k + 1 ≤ rc s 0) (hi : i < wd s (sk s k 0)) : (turned s).get! (s.size - sk s (k + 1) 0 + i) = s.get! (sk s k 0 + i) := by
  have e := turned_from s (k + 1) h
  have hw := sk_wd s k (by omega)
  have : ((turned s).data.toList.drop (s.size - sk s (k + 1) 0)).getD i 0 = s.get! (sk s k 0 + i) := by
    rw [e, tk, List.getD_eq_getElem?_getD, List.getElem?_append_left (by rw [pc_len s _ _ (sk_le s _ 0 (Nat.zero_le _))]; omega), ← List.getD_eq_getElem?_getD, pc_get s _ _ _ (by omega)]
  rw [get_list, ← this, List.getD_eq_getElem?_getD, List.getD_eq_getElem?_getD, List.getElem?_drop]
theorem snd_head (s : ByteArray) (h : snd s) (k : Nat) (hk : k < rc s 0) : (s.get! (sk s k 0)).toNat / 64 ≠ 2 := by
  have := h k hk
  unfold nr at this
  rw [Lib.decode_at] at this
  exact decN_head _ _ _ _ _ this
theorem turned_wd (s : ByteArray) (h : snd s) (k : Nat) (hk : k + 1 ≤ rc s 0) : wd (turned s) (s.size - sk s (k + 1) 0) = wd s (sk s k 0) := by
  have hw := sk_wd s k (by omega)
  have hle := sk_le s (k + 1) 0 (Nat.zero_le _)
  have hp := wd_pos s _ (sk_lt s k 0 (Nat.zero_le _) (by omega))
  have g := turned_get s k
  have ho : wd s (sk s k 0) = 1 → 1 < (turned s).size - (s.size - sk s (k + 1) 0) → ((turned s).get! (s.size - sk s (k + 1) 0 + 1)).toNat / 64 ≠ 2 := by
    intro h1 h2
    rw [turned_size] at h2
    cases k with
    | zero => simp only [sk] at hw h1 h2; simp only [Nat.zero_add] at hw; omega
    | succ k =>
      have g2 := turned_get s k 0 (by omega) (wd_pos s _ (sk_lt s k 0 (Nat.zero_le _) (by omega)))
      rw [Nat.add_zero, Nat.add_zero, show s.size - sk s (k + 1) 0 = s.size - sk s (k + 1 + 1) 0 + 1 by omega] at g2
      rw [g2]
      exact snd_head s h k (by omega)
  have e0 := turned_get s k 0 hk (by omega)
  simp only [Nat.add_zero] at e0
  have hsk := h k (by omega)
  unfold nr at hsk
  rw [Lib.decode_at] at hsk
  have hK : wd s (sk s k 0) = (Lib.decodeN (s.size - sk s k 0) (s.get! (sk s k 0)).toNat (s.get! (sk s k 0 + 1)).toNat (s.get! (sk s k 0 + 2)).toNat (s.get! (sk s k 0 + 3)).toNat).2 := by rw [wd, Lib.decode_at]
  rw [wd, Lib.decode_at, e0, hK]
  refine decN_same _ _ _ _ _ _ _ _ _ (by rw [turned_size]; omega) hsk (by rw [← hK, turned_size]; omega) ?_ ?_ ?_ (by rw [← hK]; exact ho)
  · intro h1; rw [← hK] at h1; rw [g 1 hk h1]
  · intro h1; rw [← hK] at h1; rw [g 2 hk h1]
  · intro h1; rw [← hK] at h1; rw [g 3 hk h1]
theorem turned_sk (s : ByteArray) (h : snd s) : ∀ j, j ≤ rc s 0 → sk (turned s) j 0 = s.size - sk s (rc s 0 - j) 0
  | 0, _ => by rw [Nat.sub_zero, sk_rc]; simp [sk]
  | j + 1, hj => by
    rw [sk_succ, turned_sk s h j (by omega)]
    obtain ⟨k, hk⟩ : ∃ k, rc s 0 - j = k + 1 := ⟨rc s 0 - j - 1, by omega⟩
    have hw := sk_wd s k (by omega)
    have hle := sk_le s (k + 1) 0 (Nat.zero_le _)
    have hp := wd_pos s _ (sk_lt s k 0 (Nat.zero_le _) (by omega))
    rw [hk, nx, if_pos (by rw [turned_size]; omega), turned_wd s h k (by omega), show rc s 0 - (j + 1) = k by omega]
    omega
theorem turned_rc (s : ByteArray) (h : snd s) : rc (turned s) 0 = rc s 0 := by
  have hle := sk_all (turned s) (rc s 0) 0 (Nat.zero_le _)
  have e := turned_sk s h (rc s 0) (Nat.le_refl _)
  rw [Nat.sub_self] at e
  have h1 : ¬ rc s 0 < rc (turned s) 0 := by
    rw [← sk_lt_iff (turned s) (rc s 0) 0 (Nat.zero_le _), e, turned_size]; simp [sk]
  by_cases h0 : rc s 0 = 0
  · omega
  · have e2 := turned_sk s h (rc s 0 - 1) (by omega)
    rw [show rc s 0 - (rc s 0 - 1) = 1 by omega] at e2
    have hw := sk_wd s 0 (by omega)
    have hp := wd_pos s _ (sk_lt s 0 0 (Nat.zero_le _) (by omega))
    have hle := sk_le s 1 0 (Nat.zero_le _)
    have : rc s 0 - 1 < rc (turned s) 0 := by
      rw [← sk_lt_iff (turned s) _ 0 (Nat.zero_le _), e2, turned_size]
      have h00 : sk s 0 0 = 0 := rfl
      rw [h00] at hp hw
      simp only [Nat.zero_add] at hw
      omega
    omega
theorem pc_drop (s : ByteArray) (a b : Nat) (h : a ≤ b) : pc s a b ++ s.data.toList.drop b = s.data.toList.drop a := by
  unfold pc
  rw [show s.data.toList.drop b = (s.data.toList.drop a).drop (b - a) by rw [List.drop_drop]; congr 1; omega]
  exact List.take_append_drop _ _
theorem turned_tk (s : ByteArray) (h : snd s) : ∀ j, j ≤ rc s 0 → tk (turned s) j = s.data.toList.drop (sk s (rc s 0 - j) 0)
  | 0, _ => by rw [Nat.sub_zero, sk_rc]; simp [tk]
  | j + 1, hj => by
    obtain ⟨k, hk⟩ : ∃ k, rc s 0 - j = k + 1 := ⟨rc s 0 - j - 1, by omega⟩
    have h1 := sk_mono s (show k ≤ k + 1 by omega) 0
    have hle := sk_le s (k + 1) 0 (Nat.zero_le _)
    have e : pc (turned s) (s.size - sk s (k + 1) 0) (s.size - sk s k 0) = pc s (sk s k 0) (sk s (k + 1) 0) := by
      rw [pc, turned_from s (k + 1) (by omega), tk, List.take_left' (by rw [pc_len s _ _ hle]; omega)]
    rw [tk, turned_tk s h j (by omega), turned_sk s h j (by omega), turned_sk s h (j + 1) hj, hk, show rc s 0 - (j + 1) = k by omega, e]
    exact pc_drop s _ _ h1
/-- Twice turned it is itself. -/
theorem turned_twice (s : ByteArray) (h : snd s) : turned (turned s) = s := by
  have : (turned (turned s)).data.toList = s.data.toList := by
    rw [turned_list, turned_rc s h, turned_tk s h _ (Nat.le_refl _), Nat.sub_self]; rfl
  apply ByteArray.ext
  exact Array.toList_inj.1 this
/-- The beginning and the end. -/
theorem halves (s : ByteArray) (p : Nat) (h : p ≤ s.size) : s.extract 0 p ++ s.extract p s.size = s := by
  rw [ByteArray.extract_append_extract, Nat.min_eq_left (by omega), Nat.max_eq_right (by omega)]
  exact ByteArray.extract_zero_size
theorem right_at (s : ByteArray) (m : Nat) (h : m ≤ rc s 0) : rc s 0 - (rc s 0 - m) = m := by omega
theorem occ_self (s : ByteArray) (p : Nat) (h : p ≤ s.size) : occ s (s.extract p s.size) p = true := by
  unfold occ Lib.occAt
  rw [pc_ext, pc, List.take_of_length_le (by rw [List.length_drop, sz_list]; omega)]
  simp
theorem fnd_least (s what : ByteArray) : ∀ n q r, q ≤ r → r < q + n → occ s what (sk s (r - 1) 0) = true → ∃ k, fnd s what n q = some k ∧ q ≤ k ∧ k ≤ r
  | 0, q, r, h1, h2, _ => by omega
  | n + 1, q, r, h1, h2, h3 => by
    rw [fnd]
    by_cases hq : occ s what (sk s (q - 1) 0) = true
    · rw [if_pos hq]; exact ⟨q, rfl, Nat.le_refl _, h1⟩
    · rw [if_neg hq]
      have : q ≠ r := fun e => hq (by rw [e]; exact h3)
      obtain ⟨k, e, h4, h5⟩ := fnd_least s what n (q + 1) r (by omega) (by omega) h3
      exact ⟨k, e, by omega, h5⟩
end Go.Proofs.YtgnmkhjilecdhaaGreatDoor.T5
