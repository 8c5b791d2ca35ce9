/- How many words a text has at most; what its faults are; two small facts of walks. -/
import Derived.Test.YtcabgnikbgoikaaDoorCut8
namespace Go.Proofs.YtcabgnikbgoikaaDoor
open Go.RowKit Go.Sort
set_option linter.unusedVariables false

theorem tok_bad8 {R : List UInt8 → Bool} {l : List UInt8} {e : Nat} (h : tok R l = .bad e) : e = 12 ∨ e = 21 := by
  unfold tok runTok numTok namTok txtTok spTok at h
  repeat' split at h
  all_goals cases h
  all_goals simp
theorem cutA_len (R : List UInt8 → Bool) : ∀ (f : Nat) (l : List UInt8) (i : Nat) (acc ws : List Wd), l.length ≤ f → cutA R l i acc = .ok ws → ws.length ≤ acc.length + l.length
  | 0, l, i, acc, ws, hf, h => by
    have : l = [] := List.eq_nil_of_length_eq_zero (by omega)
    subst this
    rw [cut_end] at h; cases h; simp
  | f + 1, l, i, acc, ws, hf, h => by
    cases hl : l with
    | nil => subst hl; rw [cut_end] at h; cases h; simp
    | cons c r =>
      have hne : l ≠ [] := by rw [hl]; simp
      rw [← hl]
      have hbl := bl_len l
      by_cases hb : 0 < bl l
      · rw [cut_blank R hb] at h
        have := cutA_len R f _ _ _ _ (by rw [List.length_drop]; omega) h
        rw [List.length_drop] at this; omega
      · cases ht : tok R l with
        | bad e => rw [cut_bad R hne (by omega) ht] at h; cases h
        | ok k t n =>
          have hn := tok_len ht
          rw [cut_word R (by omega) ht] at h
          have := cutA_len R f _ _ _ _ (by rw [List.length_drop]; omega) h
          rw [List.length_drop, List.length_append] at this
          simp at this; omega
theorem cutR_len {s : ByteArray} {ws : List Wd} (h : cutR s = .ok ws) : ws.length ≤ 65535 := by
  unfold cutR at h
  split at h
  · cases h
  · have := cutA_len refL _ _ _ _ _ (Nat.le_refl _) h
    rw [← Lib.size_eq] at this
    simp at this; omega
theorem cutR_bad {s : ByteArray} {i e : Nat} (h : cutR s = .bad i e) : e = 2 ∨ e = 12 ∨ e = 21 := by
  unfold cutR at h
  split at h
  · cases h; exact .inl rfl
  · have go : ∀ (f : Nat) (l : List UInt8) (j : Nat) (acc : List Wd), l.length ≤ f → cutA refL l j acc = .bad i e → e = 12 ∨ e = 21 := by
      intro f
      induction f with
      | zero =>
        intro l j acc hf h
        have : l = [] := List.eq_nil_of_length_eq_zero (by omega)
        subst this
        rw [cut_end] at h; cases h
      | succ f ih =>
        intro l j acc hf h
        by_cases hl : l = []
        · subst hl; rw [cut_end] at h; cases h
        have hbl := bl_len l
        by_cases hb : 0 < bl l
        · rw [cut_blank refL hb] at h
          exact ih _ _ _ (by rw [List.length_drop]; omega) h
        · cases ht : tok refL l with
          | bad e' => rw [cut_bad refL hl (by omega) ht] at h; cases h; exact tok_bad8 ht
          | ok k t n =>
            have hn := tok_len ht
            rw [cut_word refL (by omega) ht] at h
            exact ih _ _ _ (by rw [List.length_drop]; omega) h
    exact .inr (go _ _ _ _ (Nat.le_refl _) h)
theorem wrap_ps (x : Int) (h0 : 0 ≤ x) (h1 : x ≤ 1000000) : IntKind.i64.wrap x = x := by unfold IntKind.wrap; simp [IntKind.signed, IntKind.bits]; omega
theorem cells_pd {w : World} {a : Addr} {v : Value} (h : w.cell? a = some v) (n : Nat) : (w.drewN n).cell? a = some v := h
end Go.Proofs.YtcabgnikbgoikaaDoor
