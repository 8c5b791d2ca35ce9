/- A text up to a fault is words; what is known of each word's bytes; of no program. -/
import Derived.Test.YtljdkmfigcclkaaDoorSpn8
namespace Go.Proofs.YtljdkmfigcclkaaDoor
open Go.RowKit
set_option linter.unusedVariables false

theorem tw_take (p : UInt8 → Bool) : ∀ (l : List UInt8) (m : Nat), (l.take m).takeWhile p = (l.takeWhile p).take m
  | [], m => by simp
  | c :: l, 0 => by simp
  | c :: l, m + 1 => by
    rw [List.take_succ_cons, List.takeWhile_cons, List.takeWhile_cons]
    cases p c
    · rfl
    · simp only [if_true]; rw [List.take_succ_cons, tw_take p l m]
theorem txt_take : ∀ (l b : List UInt8) (n m : Nat), txt l = some (b, n) → n ≤ m → txt (l.take m) = some (b, n)
  | [], b, n, m, h, hm => by simp [txt] at h
  | [c], b, n, m, h, hm => by
    have h1 := txt_len [c] b n h
    rw [List.take_of_length_le (by simp at h1 ⊢; omega)]; exact h
  | c :: d :: r, b, n, m, h, hm => by
    have h1 := txt_len (c :: d :: r) b n h
    rw [txt] at h
    split at h
    · next hc =>
      split at h
      · next hd =>
        rw [Option.map_eq_some_iff] at h
        obtain ⟨⟨b', n'⟩, h2, h3⟩ := h
        cases h3
        obtain ⟨m, rfl⟩ : ∃ j, m = j + 2 := ⟨m - 2, by omega⟩
        have ih := txt_take r b' n' m h2 (by omega)
        rw [List.take_succ_cons, List.take_succ_cons, txt, if_pos hc, if_pos hd, ih]; rfl
      · next hd =>
        cases h
        obtain ⟨m, rfl⟩ : ∃ j, m = j + 1 := ⟨m - 1, by omega⟩
        rw [List.take_succ_cons]
        cases m with
        | zero => simp [txt, hc]
        | succ m => rw [List.take_succ_cons, txt, if_pos hc, if_neg hd]
    · next hc =>
      rw [Option.map_eq_some_iff] at h
      obtain ⟨⟨b', n'⟩, h2, h3⟩ := h
      have h4 := txt_len (d :: r) b' n' h2
      cases h3
      obtain ⟨m, rfl⟩ : ∃ j, m = j + 1 := ⟨m - 1, by omega⟩
      have ih := txt_take (d :: r) b' n' m h2 (by omega)
      obtain ⟨m, rfl⟩ : ∃ j, m = j + 1 := ⟨m - 1, by omega⟩
      rw [List.take_succ_cons] at ih
      rw [List.take_succ_cons, List.take_succ_cons, txt, if_neg hc, ih]; rfl
theorem pre_take_iff {l p : List UInt8} {m : Nat} (hm : m ≤ l.length) : Lib.hasPrefix (l.take m) p = true ↔ Lib.hasPrefix l p = true ∧ p.length ≤ m := by
  unfold Lib.hasPrefix
  rw [List.isPrefixOf_iff_prefix, List.isPrefixOf_iff_prefix]
  constructor
  · intro h
    refine ⟨h.trans (List.take_prefix m l), ?_⟩
    have := h.length_le
    rw [List.length_take] at this; omega
  · rintro ⟨h1, h2⟩
    exact List.prefix_of_prefix_length_le h1 (List.take_prefix m l) (by rw [List.length_take]; omega)
theorem find_take {l p : List UInt8} {m : Nat} (hm : m ≤ l.length) (hp : p.length ≤ m) : ∀ (Q : List (List UInt8)), Q.find? (Lib.hasPrefix l ·) = some p → Q.find? (Lib.hasPrefix (l.take m) ·) = some p
  | [], h => by cases h
  | q :: Q, h => by
    rw [List.find?_cons] at h ⊢
    cases hq : Lib.hasPrefix l q
    · rw [hq] at h
      have h2 : Lib.hasPrefix (l.take m) q = false := by
        rw [Bool.eq_false_iff]; intro e
        rw [(pre_take_iff hm).1 e |>.1] at hq; cases hq
      rw [h2]
      exact find_take hm hp Q h
    · rw [hq] at h
      have : q = p := by simpa using h
      subst this
      rw [(pre_take_iff hm).2 ⟨hq, hp⟩]
theorem calls_take (l : List UInt8) (j : Nat) (hj : 1 ≤ j) : callsL (l.take j) = callsL l := by
  obtain ⟨j, rfl⟩ : ∃ q, j = q + 1 := ⟨j - 1, by omega⟩
  cases l with
  | nil => rfl
  | cons c r => rw [List.take_succ_cons]; unfold callsL Lib.hasPrefix; simp [List.isPrefixOf]
theorem tok_take {R : List UInt8 → Bool} {l : List UInt8} {k n m : Nat} {t : List UInt8} (h : tok R l = .ok k t n) (hm : n ≤ m) (hml : m ≤ l.length) (hc : m = n → callsL (l.drop n) = false) : tok R (l.take m) = .ok k t n := by
  have hl := tok_len h
  cases l with
  | nil => cases h
  | cons c r =>
    obtain ⟨m, rfl⟩ : ∃ q, m = q + 1 := ⟨m - 1, by omega⟩
    rw [List.take_succ_cons]
    unfold tok at h ⊢
    simp only at h ⊢
    split at h
    · next hr =>
      have hn := runTok_len h
      rw [if_pos hr]
      have hro : runOf (c :: r.take m) = runOf (c :: r) := by
        unfold runOf
        rw [← List.take_succ_cons, tw_take, List.take_of_length_le (by unfold runOf at hn; omega)]
      rw [hro, ← hn, ← List.take_succ_cons, List.drop_take]
      rw [← hn] at h
      by_cases e : m + 1 = n
      · rw [e, Nat.sub_self, List.take_zero]
        rw [hc e] at h
        exact h
      · rw [calls_take _ _ (by omega)]; exact h
    · next hr =>
      rw [if_neg hr]
      split at h
      · next hq =>
        rw [if_pos hq]
        unfold txtTok at h ⊢
        split at h
        · cases h
        · next b j hj => cases h; rw [txt_take r _ _ m hj (by omega)]
      · next hq =>
        rw [if_neg hq]
        unfold spTok at h ⊢
        split at h
        · cases h
        · next p hp =>
          cases h
          have h5 := find_take hml hm spelts hp
          rw [List.take_succ_cons] at h5
          rw [show spFind (c :: r.take m) = _ from h5]
theorem tail_take8 (r : List UInt8) (j : Nat) : (r.take j).tail = r.tail.take (j - 1) := by
  cases r <;> cases j <;> simp
theorem bl_take {l : List UInt8} {m : Nat} (h : bl l ≤ m) (h0 : 0 < bl l) : bl (l.take m) = bl l := by
  cases l with
  | nil => simp [bl] at h0
  | cons c r =>
    obtain ⟨m, rfl⟩ : ∃ q, m = q + 1 := ⟨m - 1, by omega⟩
    rw [List.take_succ_cons]
    rw [bl] at h h0 ⊢
    rw [bl]
    split at h
    · next hc => rw [if_pos hc, if_pos hc]
    · next hc =>
      rw [if_neg hc, if_neg hc]
      split at h
      · next h2 =>
        have : (r.take m).head? = some 160 := by
          obtain ⟨m, rfl⟩ : ∃ q, m = q + 1 := ⟨m - 1, by omega⟩
          rw [List.head?_take, if_neg (by omega)]; exact h2.2
        rw [if_pos ⟨h2.1, this⟩, if_pos h2]
      · next h2 =>
        split at h
        · next h3 =>
          obtain ⟨m, rfl⟩ : ∃ q, m = q + 2 := ⟨m - 2, by omega⟩
          have e1 : (r.take (m + 2)).head? = some 128 := by rw [List.head?_take, if_neg (by omega)]; exact h3.2.1
          have e2 : (r.take (m + 2)).tail.head? = some 128 := by
            cases r with
            | nil => have := h3.2.1; simp at this
            | cons d r => rw [List.take_succ_cons, List.tail_cons, List.head?_take, if_neg (by omega)]; exact h3.2.2
          rw [if_neg (by rintro ⟨_, e⟩; rw [e1] at e; simp at e), if_pos ⟨h3.1, e1, e2⟩, if_neg h2, if_pos h3]
        · next h3 => rw [if_neg hc, if_neg h2, if_neg h3] at h0; omega
theorem cut_pre (R : List UInt8 → Bool) (L : List UInt8) (p e : Nat) : ∀ (f i : Nat) (acc : List Wd), L.length - i ≤ f → i ≤ L.length → cutA R (L.drop i) i acc = .bad p e → i ≤ p ∧ p < L.length ∧ callsL (L.drop p) = false ∧ ∃ ws, cutA R ((L.take p).drop i) i acc = .ok ws
  | f, i, acc, hf, hi, h => by
    by_cases hl : L.drop i = []
    · rw [hl, cut_end] at h; cases h
    have hlen : 0 < (L.drop i).length := List.length_pos_iff.2 hl
    rw [List.length_drop] at hlen
    cases f with
    | zero => omega
    | succ f =>
      have hbl := bl_len (L.drop i)
      rw [List.length_drop] at hbl
      have hdt : ∀ q, (L.take q).drop i = (L.drop i).take (q - i) := fun q => List.drop_take
      by_cases hb : 0 < bl (L.drop i)
      · rw [cut_blank R hb, List.drop_drop] at h
        obtain ⟨h1, h2, h3, ws, h4⟩ := cut_pre R L p e f _ acc (by omega) (by omega) h
        refine ⟨by omega, h2, h3, ws, ?_⟩
        have hbt : bl ((L.take p).drop i) = bl (L.drop i) := by rw [hdt]; exact bl_take (by omega) hb
        rw [cut_blank R (by rw [hbt]; exact hb), hbt, List.drop_drop]
        exact h4
      · cases ht : tok R (L.drop i) with
        | bad e' =>
          rw [cut_bad R hl (by omega) ht] at h
          cases h
          refine ⟨Nat.le_refl _, by omega, ?_, acc, ?_⟩
          · cases hc : callsL (L.drop p) with
            | false => rfl
            | true =>
              exfalso
              have h0 := calls_head hc
              obtain ⟨r, hr⟩ : ∃ r, L.drop p = 40 :: r := by
                cases hd : L.drop p with
                | nil => rw [hd] at h0; cases h0
                | cons c r => rw [hd] at h0; simp at h0; exact ⟨r, by rw [h0]⟩
              rw [hr, tok, if_neg (by decide), if_neg (by decide)] at ht
              have hf2 : spFind (40 :: r) ≠ none := by
                intro e0
                have := List.find?_eq_none.1 e0 [40] (by decide)
                simp [Lib.hasPrefix, List.isPrefixOf] at this
              unfold spTok at ht
              split at ht
              · next e0 => exact hf2 e0
              · cases ht
          · rw [hdt, Nat.sub_self, List.take_zero]; rfl
        | ok k t n =>
          have hn := tok_len ht
          rw [List.length_drop] at hn
          rw [cut_word R (by omega) ht, List.drop_drop] at h
          obtain ⟨h1, h2, h3, ws, h4⟩ := cut_pre R L p e f _ _ (by omega) (by omega) h
          refine ⟨by omega, h2, h3, ws, ?_⟩
          have htt : tok R ((L.take p).drop i) = .ok k t n := by
            rw [hdt]
            refine tok_take ht (by omega) (by rw [List.length_drop]; omega) (fun e0 => ?_)
            rw [List.drop_drop, show i + n = p by omega]; exact h3
          have hb0 : bl ((L.take p).drop i) = 0 := by
            have : ∀ x : List UInt8, ∀ j, bl x = 0 → bl (x.take j) = 0 := by
              intro x j hx
              by_cases hz : 0 < bl (x.take j)
              · exfalso
                cases x with
                | nil => simp [bl] at hz
                | cons c r =>
                  cases j with
                  | zero => simp [bl] at hz
                  | succ j =>
                    rw [List.take_succ_cons, bl] at hz
                    rw [bl] at hx
                    split at hx
                    · cases hx
                    · next a1 =>
                      split at hx
                      · cases hx
                      · next a2 =>
                        split at hx
                        · cases hx
                        · next a3 =>
                          rw [if_neg a1, if_neg, if_neg] at hz
                          · omega
                          · rintro ⟨q1, q2, q3⟩
                            refine a3 ⟨q1, ?_, ?_⟩
                            · rw [List.head?_take] at q2; split at q2
                              · cases q2
                              · exact q2
                            · rw [tail_take8, List.head?_take] at q3; split at q3
                              · cases q3
                              · exact q3
                          · rintro ⟨q1, q2⟩
                            refine a2 ⟨q1, ?_⟩
                            rw [List.head?_take] at q2; split at q2
                            · cases q2
                            · exact q2
              · omega
            rw [hdt]; exact this _ _ (by omega)
          rw [cut_word R hb0 htt, List.drop_drop]
          exact h4
end Go.Proofs.YtljdkmfigcclkaaDoor
