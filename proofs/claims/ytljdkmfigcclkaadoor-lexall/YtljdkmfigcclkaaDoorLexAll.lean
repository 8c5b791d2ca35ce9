/- LexAll: what the law answers, for every list of texts: true. Proved of the Go text. -/
import Derived.Test.YtljdkmfigcclkaaDoorBegun8
import Derived.Test.YtljdkmfigcclkaaDoorRf8g
namespace Go.Proofs.YtljdkmfigcclkaaDoor
open Go.RowKit Go.Sort
set_option linter.unusedVariables false

theorem cutA_len (R : List UInt8 → Bool) : ∀ (f : Nat) (l : List UInt8) (i : Nat) (acc ws : List Wd), l.length ≤ f → cutA R l i acc = .ok ws → ws.length ≤ acc.length + l.length
  | 0, l, i, acc, ws, hf, h => by
    have : l = [] := List.eq_nil_of_length_eq_zero (by omega)
    subst this
    rw [cut_end] at h; cases h; simp
  | f + 1, l, i, acc, ws, hf, h => by
    cases hl : l with
    | nil => subst hl; rw [cut_end] at h; cases h; simp
    | cons c r =>
      have hne : l ≠ [] := by rw [hl]; simp
      rw [← hl]
      have hbl := bl_len l
      by_cases hb : 0 < bl l
      · rw [cut_blank R hb] at h
        have := cutA_len R f _ _ _ _ (by rw [List.length_drop]; omega) h
        rw [List.length_drop] at this; omega
      · cases ht : tok R l with
        | bad e => rw [cut_bad R hne (by omega) ht] at h; cases h
        | ok k t n =>
          have hn := tok_len ht
          rw [cut_word R (by omega) ht] at h
          have := cutA_len R f _ _ _ _ (by rw [List.length_drop]; omega) h
          rw [List.length_drop, List.length_append] at this
          simp at this; omega
theorem cutR_len {s : ByteArray} {ws : List Wd} (h : cutR s = .ok ws) : ws.length ≤ 65535 := by
  unfold cutR at h
  split at h
  · cases h
  · have := cutA_len refL _ _ _ _ _ (Nat.le_refl _) h
    rw [← Lib.size_eq] at this
    simp at this; omega
theorem WordsIn.none (w : World) : WordsIn w none [] := ⟨by simp, .inl rfl⟩
theorem cutR_bad {s : ByteArray} {i e : Nat} (h : cutR s = .bad i e) : e = 2 ∨ e = 12 ∨ e = 21 := by
  unfold cutR at h
  split at h
  · cases h; exact .inl rfl
  · have go : ∀ (f : Nat) (l : List UInt8) (j : Nat) (acc : List Wd), l.length ≤ f → cutA refL l j acc = .bad i e → e = 12 ∨ e = 21 := by
      intro f
      induction f with
      | zero =>
        intro l j acc hf h
        have : l = [] := List.eq_nil_of_length_eq_zero (by omega)
        subst this
        rw [cut_end] at h; cases h
      | succ f ih =>
        intro l j acc hf h
        by_cases hl : l = []
        · subst hl; rw [cut_end] at h; cases h
        have hbl := bl_len l
        by_cases hb : 0 < bl l
        · rw [cut_blank refL hb] at h
          exact ih _ _ _ (by rw [List.length_drop]; omega) h
        · cases ht : tok refL l with
          | bad e' => rw [cut_bad refL hl (by omega) ht] at h; cases h; exact tok_bad ht
          | ok k t n =>
            have hn := tok_len ht
            rw [cut_word refL (by omega) ht] at h
            exact ih _ _ _ (by rw [List.length_drop]; omega) h
    exact .inr (go _ _ _ _ (Nat.le_refl _) h)
set_option maxRecDepth 100000 in
set_option maxHeartbeats 4000000 in
theorem like8 (s : ByteArray) (hm : s.size ≤ maxLen) : CallL 8 #[.string s] (.bool true) := by
  intro w hl
  have H1 := hide (cut8 s w hl hm)
  have H2 := hide (fun w => rcut8 s w hm)
  cases hc : cutR s with
  | ok ws =>
    have hlen := cutR_len hc
    rw [hc] at H1 H2
    clear hc
    go_enter Tryd.func8, Tryd.ntmps8
    go_wp2_with fail
    refine H1.out.mono ?_
    rintro e w1 ⟨hb1, v, rfl, hrow⟩
    replace hb1 := hide hb1
    replace hrow := hide hrow
    go_wp2_with fail
    refine (H2.out _).mono ?_
    rintro e w2 ⟨hb2, v2, rfl, hrow2⟩
    have hB2 := hide (next hb1.out hb2)
    obtain ⟨av, cv, rfl, hW⟩ := row_words (row_keep hrow.out hb2) (by omega)
    obtain ⟨av2, cv2, rfl, hW2⟩ := row_words hrow2 (by omega)
    have HE := hide (eq_same cv cv2 hW hW2)
    clear hW hW2 hrow2 hrow hb1 hb2
    go_wp2_with fail
    refine HE.out.mono ?_
    rintro e w5 ⟨rfl, hb5⟩
    go_wp2_with fail
    go_ret
    exact ⟨rfl, next hB2.out hb5⟩
  | bad i x =>
    have hx := cutR_bad hc
    have hx1 : ((x : Int) == 0) = false := by rw [beq_eq_false_iff_ne]; omega
    rw [hc] at H1 H2
    clear hc hx
    go_enter Tryd.func8, Tryd.ntmps8
    go_wp2_with fail
    refine H1.out.mono ?_
    rintro e w1 ⟨hb1, rfl⟩
    replace hb1 := hide hb1
    go_wp2_with fail
    refine (H2.out _).mono ?_
    rintro e w2 ⟨hb2, rfl⟩
    have hB2 := hide (next hb1.out hb2)
    have HE := hide (eq_same 0 0 (WordsIn.none w2) (WordsIn.none w2))
    clear hb1 hb2
    go_wp2_with fail
    refine HE.out.mono ?_
    rintro e w5 ⟨rfl, hb5⟩
    go_wp2_with fail
    go_ret
    exact ⟨rfl, next hB2.out hb5⟩
/-- A slice of texts: empty, or with its cells. -/
def TextsIn (w : World) (a : Option Addr) (len : Nat) : Prop := len = 0 ∨ ∃ b off, a = some ⟨b, off, none⟩ ∧ len ≤ maxLen ∧ ∀ j, j < len → ∃ s : ByteArray, w.cell? ⟨b, off + j, none⟩ = some (.string s) ∧ s.size ≤ maxLen
set_option maxRecDepth 100000 in
set_option maxHeartbeats 8000000 in
theorem lexAll_walk {W : World} (hL : Lay8 W) (a : Option Addr) (len cap : Nat) (hT : TextsIn W a len) :
    Calls Tryd.prog 3 #[.slice a len cap] W fun e w' => e = .returned (.bool true) ∧ Below W.heap.size W w' := by
  have H1 := hide (begun8.out W hL)
  replace hL := hide hL
  replace hT := hide hT
  have hl : Hid (len ≤ maxLen) := by rcases hT.out with h | ⟨_, _, _, h, _⟩; rw [h]; exact hide (Nat.zero_le _); exact hide h
  go_enter Tryd.func3, Tryd.ntmps3
  go_wp2_with fail
  refine H1.out.mono ?_
  rintro e w1 ⟨rfl, hb1⟩
  replace hb1 := hide hb1
  go_wp2_with fail
  go_loopw [3, 4] (fun n i wr => ∃ (nn : Int) (k : Nat), k ≤ len ∧ n = .int .i64 nn ∧ i = .int .i64 k ∧ Hid (Below W.heap.size W wr)) (fun _ i _ => len - (intOf i).toNat)
  case atStart => exact ⟨0, 0, Nat.zero_le _, rfl, rfl, hb1⟩
  case round =>
    obtain ⟨nn, k, hk, rfl, rfl, hB⟩ := hrel
    have hlo := hl.out
    unfold maxLen at hlo
    by_cases hlt : k < len
    · have hki : (k : Int) < len := by omega
      have hk1 : (k : Int) + 1 ≤ 9223372036854775807 := by omega
      obtain ⟨b, off, rfl, _, hj⟩ := hT.out.resolve_left (by omega)
      obtain ⟨s, hc, hz⟩ := hj k hlt
      have hc' := keep1 hB.out hc
      have HK := like8 s hz
      obtain ⟨y, hy⟩ : ∃ y, wrap64 (nn + 100) = y := ⟨_, rfl⟩
      obtain ⟨z, hzz⟩ : ∃ z, wrap64 (y + (s.size : Int)) = z := ⟨_, rfl⟩
      replace hz := hide hz
      clear hlo hj hc
      cases hbd : decide (4194304 < z)
      · have HKl := hide (HK.out _ (hL.out.keep hB.out))
        clear HK
        go_wp2_with fail
        refine HKl.out.mono ?_
        rintro e w2 ⟨rfl, hb2⟩
        have hB2 := hide (next hB.out hb2)
        go_wp2_with fail
        go_roundw
        case rel => exact ⟨z, k + 1, by omega, rfl, by go_num, hB2⟩
        case measure => simp [intOf]; omega
      · go_wp2_with fail
        go_ret
        exact ⟨rfl, hB.out⟩
    · have hki : ¬ (k : Int) < len := by omega
      go_wp2_with fail
      go_ret
      exact ⟨rfl, hB.out⟩
end Go.Proofs.YtljdkmfigcclkaaDoor
