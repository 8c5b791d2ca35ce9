/- parse: what it comes to hangs on the words' kinds and texts alone, and an error's place is a word's; no Go in sight. parse: words that are alike are read alike; no Go in sight. -/
import Derived.Test.YtdlomdbmmhjppaaGreatDoorDeJ
namespace Go.Proofs.YtdlomdbmmhjppaaGreatDoor.T9
open Go.RowKit
set_option linter.unusedVariables false

section
variable (Rd : List UInt8 → Option Rf) (Fd : List UInt8 → Option (Int × Int × Int)) (l l' : List Wd)
/-- Two rows of words that are alike but for their places (and for how a reference is spelt). -/
structure Lk : Prop where
  len : l'.length = l.length
  kd : ∀ i, (wdAt l' i).kind = (wdAt l i).kind
  tx : ∀ i, (wdAt l i).kind ≠ 3 → (wdAt l' i).text = (wdAt l i).text
  rd : ∀ i, (wdAt l i).kind = 3 → Rd (wdAt l' i).text = Rd (wdAt l i).text
  nx : ∀ i, i < l.length → (wdAt l i).kind ≠ 0 → i + 1 < l.length
def PRk : PR → PR → Prop
  | .bad e a, .bad e' a' => e' = e ∧ ∃ i, i < l.length ∧ a = plAt l i ∧ a' = plAt l' i
  | .ok t i, .ok t' i' => t' = t ∧ i' = i ∧ i < l.length
  | _, _ => False
def PLk : PL → PL → Prop
  | .bad e a, .bad e' a' => e' = e ∧ ∃ i, i < l.length ∧ a = plAt l i ∧ a' = plAt l' i
  | .ok t i, .ok t' i' => t' = t ∧ i' = i ∧ i < l.length
  | _, _ => False
end
section
variable {Rd : List UInt8 → Option Rf} {Fd : List UInt8 → Option (Int × Int × Int)} {l l' : List Wd}
theorem Lk.sg (h : Lk Rd l l') (i : Nat) : sgAt l' i = sgAt l i := by
  unfold sgAt
  rw [h.kd i]
  by_cases h7 : (wdAt l i).kind = 7
  · rw [if_pos h7, if_pos h7, h.tx i (by omega)]
  · rw [if_neg h7, if_neg h7]
theorem sg_kind {i : Nat} {s : List UInt8} (h : sgAt l i = s) (hs : s ≠ []) : (wdAt l i).kind = 7 := by
  unfold sgAt at h
  by_cases h7 : (wdAt l i).kind = 7
  · exact h7
  · rw [if_neg h7] at h
    exact absurd h.symm hs
theorem Lk.sgn (h : Lk Rd l l') {i : Nat} {s : List UInt8} (hi : i < l.length) (hs : sgAt l i = s) (hn : s ≠ []) : i + 1 < l.length := h.nx i hi (by rw [sg_kind hs hn]; decide)
theorem Lk.run (h : Lk Rd l l') (p : List UInt8 → Bool) : ∀ f i, runW l' p f i = runW l p f i
  | 0, i => rfl
  | f + 1, i => by
    unfold runW
    rw [h.sg i, h.run p f (i + 1)]
theorem run_mem (p : List UInt8 → Bool) : ∀ f i j, i ≤ j → j < runW l p f i → p (sgAt l j) = true
  | 0, i, j, h1, h2 => by unfold runW at h2; omega
  | f + 1, i, j, h1, h2 => by
    unfold runW at h2
    by_cases hp : p (sgAt l i) = true
    · rw [if_pos hp] at h2
      by_cases e : i = j
      · subst e; exact hp
      · exact run_mem p f (i + 1) j (by omega) h2
    · rw [if_neg hp] at h2
      omega
theorem Lk.runlt (h : Lk Rd l l') (p : List UInt8 → Bool) (hp : p [] = false) : ∀ f i, i < l.length → runW l p f i < l.length
  | 0, i, hi => by unfold runW; exact hi
  | f + 1, i, hi => by
    unfold runW
    by_cases hq : p (sgAt l i) = true
    · rw [if_pos hq]
      exact h.runlt p hp f (i + 1) (h.sgn hi rfl (fun e => by rw [e, hp] at hq; cases hq))
    · rw [if_neg hq]
      exact hi
theorem signs_same (h : Lk Rd l l') (i : Nat) : ∀ (k : Nat) (t : Ex), (∀ j, j < k → (wdAt l (i + j)).kind = 7) → signsX l' i k t = signsX l i k t
  | 0, t, _ => rfl
  | k + 1, t, hk => by
    unfold signsX
    rw [h.tx (i + k) (by rw [hk k (by omega)]; decide), signs_same h i k _ (fun j hj => hk j (by omega))]
theorem ref_k (h : Lk Rd l l') {i : Nat} (hi : i < l.length) (hk : (wdAt l i).kind = 3) : PRk l l' (refP Rd l i) (refP Rd l' i) := by
  unfold refP
  have h1 : i + 1 < l.length := h.nx i hi (by rw [hk]; decide)
  rw [h.sg (i + 1)]
  by_cases hc : sgAt l (i + 1) = [58]
  · rw [if_pos hc, if_pos hc, h.kd (i + 2)]
    have h2 : i + 2 < l.length := h.sgn h1 hc (by decide)
    by_cases h3 : (wdAt l (i + 2)).kind = 3
    · rw [if_pos h3, if_pos h3, h.rd i hk, h.rd (i + 2) h3]
      exact ⟨rfl, rfl, h.nx _ h2 (by rw [h3]; decide)⟩
    · rw [if_neg h3, if_neg h3]
      exact ⟨rfl, _, h2, rfl, rfl⟩
  · rw [if_neg hc, if_neg hc, h.rd i hk]
    exact ⟨rfl, rfl, h1⟩
end
end Go.Proofs.YtdlomdbmmhjppaaGreatDoor.T9
namespace Go.Proofs.YtdlomdbmmhjppaaGreatDoor.T9
open Go.RowKit
set_option linter.unusedVariables false

/-- What holds of all readings of so much. -/
structure Alike (Rd : List UInt8 → Option Rf) (Fd : List UInt8 → Option (Int × Int × Int)) (l l' : List Wd) (f : Nat) : Prop where
  line : ∀ n i o, 1 ≤ n → i < l.length → PRk l l' (lineP Rd Fd l f n i o) (lineP Rd Fd l' f n i o)
  rest : ∀ n t i o, 1 ≤ n → i < l.length → PRk l l' (restP Rd Fd l f n t i o) (restP Rd Fd l' f n t i o)
  sign : ∀ i o, i < l.length → PRk l l' (signP Rd Fd l f i o) (signP Rd Fd l' f i o)
  prim : ∀ i o, i < l.length → PRk l l' (primP Rd Fd l f i o) (primP Rd Fd l' f i o)
  args : ∀ i o, i < l.length → PLk l l' (argsP Rd Fd l f i o) (argsP Rd Fd l' f i o)
  more : ∀ ts i o, i < l.length → PLk l l' (moreP Rd Fd l f ts i o) (moreP Rd Fd l' f ts i o)
section
variable {Rd : List UInt8 → Option Rf} {Fd : List UInt8 → Option (Int × Int × Int)} {l l' : List Wd}
theorem alike_line (h : Lk Rd l l') (f : Nat) (ih : Alike Rd Fd l l' f) (n i o : Nat) (hn : 1 ≤ n) (hi : i < l.length) : PRk l l' (lineP Rd Fd l (f + 1) n i o) (lineP Rd Fd l' (f + 1) n i o) := by
  simp only [lineP]
  by_cases h5 : 5 < n
  · rw [if_pos h5, if_pos h5]; exact ih.sign i o hi
  · rw [if_neg h5, if_neg h5]
    have H := ih.line (n + 1) i o (by omega) hi
    cases e : lineP Rd Fd l f (n + 1) i o <;> cases e' : lineP Rd Fd l' f (n + 1) i o <;> rw [e, e'] at H
    · exact H
    · exact H.elim
    · exact H.elim
    · obtain ⟨rfl, rfl, hj⟩ := H
      exact ih.rest n _ _ o hn hj
theorem alike_rest (h : Lk Rd l l') (f : Nat) (ih : Alike Rd Fd l l' f) (n : Nat) (t : Ex) (i o : Nat) (hn1 : 1 ≤ n) (hi : i < l.length) : PRk l l' (restP Rd Fd l (f + 1) n t i o) (restP Rd Fd l' (f + 1) n t i o) := by
  simp only [restP, h.sg i]
  by_cases h5 : (opOf (sgAt l i)).1 = n
  · rw [if_pos h5, if_pos h5]
    have hn : sgAt l i ≠ [] := fun e => by
      rw [e] at h5
      have : (opOf []).1 = 0 := by decide
      omega
    have H := ih.line (n + 1) (i + 1) o (by omega) (h.sgn hi rfl hn)
    cases e : lineP Rd Fd l f (n + 1) (i + 1) o <;> cases e' : lineP Rd Fd l' f (n + 1) (i + 1) o <;> rw [e, e'] at H
    · exact H
    · exact H.elim
    · exact H.elim
    · obtain ⟨rfl, rfl, hj⟩ := H
      exact ih.rest n _ _ o hn1 hj
  · rw [if_neg h5, if_neg h5]
    exact ⟨rfl, rfl, hi⟩
theorem alike_sign (h : Lk Rd l l') (f : Nat) (ih : Alike Rd Fd l l' f) (i o : Nat) (hi : i < l.length) : PRk l l' (signP Rd Fd l (f + 1) i o) (signP Rd Fd l' (f + 1) i o) := by
  simp only [signP, h.len, h.run]
  have hr := h.runlt (fun s => sgnOf s != 0) (by decide) l.length i hi
  have hs : ∀ t, signsX l' i (runW l (fun s => sgnOf s != 0) l.length i - i) t = signsX l i (runW l (fun s => sgnOf s != 0) l.length i - i) t := fun t => signs_same h i _ t (fun j hj => by
    have hlt : i + j < runW l (fun s => sgnOf s != 0) l.length i := Nat.add_lt_of_lt_sub' hj
    have hm := run_mem (l := l) (fun s => sgnOf s != 0) l.length i (i + j) (Nat.le_add_right _ _) hlt
    refine sg_kind rfl (fun e => ?_)
    rw [e] at hm
    exact absurd hm (by decide))
  generalize runW l (fun s => sgnOf s != 0) l.length i = r at *
  have H := ih.prim r o hr
  cases e : primP Rd Fd l f r o <;> cases e' : primP Rd Fd l' f r o <;> rw [e, e'] at H
  · exact H
  · exact H.elim
  · exact H.elim
  · obtain ⟨rfl, rfl, hj⟩ := H
    exact ⟨hs _, rfl, h.runlt _ (by decide) _ _ hj⟩
theorem alike_more (h : Lk Rd l l') (f : Nat) (ih : Alike Rd Fd l l' f) (ts : List Ex) (i o : Nat) (hi : i < l.length) : PLk l l' (moreP Rd Fd l (f + 1) ts i o) (moreP Rd Fd l' (f + 1) ts i o) := by
  simp only [moreP, h.sg i]
  by_cases h5 : sgAt l i = [44]
  · rw [if_pos h5, if_pos h5]
    have H := ih.line 1 (i + 1) o (by decide) (h.sgn hi h5 (by decide))
    cases e : lineP Rd Fd l f 1 (i + 1) o <;> cases e' : lineP Rd Fd l' f 1 (i + 1) o <;> rw [e, e'] at H
    · exact H
    · exact H.elim
    · exact H.elim
    · obtain ⟨rfl, rfl, hj⟩ := H
      exact ih.more _ _ o hj
  · rw [if_neg h5, if_neg h5]
    exact ⟨rfl, rfl, hi⟩
theorem alike_args (h : Lk Rd l l') (f : Nat) (ih : Alike Rd Fd l l' f) (i o : Nat) (hi : i < l.length) : PLk l l' (argsP Rd Fd l (f + 1) i o) (argsP Rd Fd l' (f + 1) i o) := by
  simp only [argsP, h.sg i]
  by_cases h5 : sgAt l i = [41]
  · rw [if_pos h5, if_pos h5]
    exact ⟨rfl, rfl, hi⟩
  · rw [if_neg h5, if_neg h5]
    have H := ih.line 1 i o (by decide) hi
    cases e : lineP Rd Fd l f 1 i o <;> cases e' : lineP Rd Fd l' f 1 i o <;> rw [e, e'] at H
    · exact H
    · exact H.elim
    · exact H.elim
    · obtain ⟨rfl, rfl, hj⟩ := H
      exact ih.more _ _ o hj
theorem alike_prim (h : Lk Rd l l') (f : Nat) (ih : Alike Rd Fd l l' f) (i o : Nat) (hi : i < l.length) : PRk l l' (primP Rd Fd l (f + 1) i o) (primP Rd Fd l' (f + 1) i o) := by
  have hb : ∀ j, j < l.length → ∀ e, PRk l l' (.bad e (plAt l j)) (.bad e (plAt l' j)) := fun j hj e => ⟨rfl, j, hj, rfl, rfl⟩
  simp only [primP, h.sg, h.kd i]
  have hx : ∀ k, (wdAt l i).kind = k → k ≠ 3 → (wdAt l' i).text = (wdAt l i).text := fun k hk h3 => h.tx i (by omega)
  have hy : ∀ k, (wdAt l i).kind = k → k ≠ 0 → i + 1 < l.length := fun k hk h0 => h.nx i hi (by omega)
  have hz := ref_k h hi
  generalize hk : (wdAt l i).kind = K at *
  split
  · rw [hx 1 rfl (by decide)]; exact ⟨rfl, rfl, hy 1 rfl (by decide)⟩
  · rw [hx 2 rfl (by decide)]; exact ⟨rfl, rfl, hy 2 rfl (by decide)⟩
  · exact hz rfl
  · have h1 := hy 4 rfl (by decide)
    rw [hx 4 rfl (by decide)]
    cases Fd (wdAt l i).text with
    | none => exact hb i hi 3
    | some q =>
      obtain ⟨g, mn, mx⟩ := q
      simp only
      by_cases hc : sgAt l (i + 1) = [40]
      · rw [if_pos hc, if_pos hc]
        by_cases ho : 256 < o + 1
        · rw [if_pos ho, if_pos ho]; exact hb _ h1 2
        · rw [if_neg ho, if_neg ho]
          have H := ih.args (i + 2) (o + 1) (h.sgn h1 hc (by decide))
          cases e : argsP Rd Fd l f (i + 2) (o + 1) <;> cases e' : argsP Rd Fd l' f (i + 2) (o + 1) <;> rw [e, e'] at H
          · exact H
          · exact H.elim
          · exact H.elim
          · obtain ⟨rfl, rfl, hj⟩ := H
            rename_i ts j
            simp only
            by_cases hd : sgAt l j = [41]
            · rw [if_pos hd, if_pos hd]
              split
              · exact ⟨rfl, rfl, h.sgn hj hd (by decide)⟩
              · exact hb i hi 1
            · rw [if_neg hd, if_neg hd]; exact hb _ hj 20
      · rw [if_neg hc, if_neg hc]; exact hb _ h1 20
  · rw [hx 5 rfl (by decide)]; exact ⟨rfl, rfl, hy 5 rfl (by decide)⟩
  · rw [hx 6 rfl (by decide)]; exact ⟨rfl, rfl, hy 6 rfl (by decide)⟩
  · by_cases hc : sgAt l i = [40]
    · rw [if_pos hc, if_pos hc]
      by_cases ho : 256 < o + 1
      · rw [if_pos ho, if_pos ho]; exact hb i hi 2
      · rw [if_neg ho, if_neg ho]
        have H := ih.line 1 (i + 1) (o + 1) (by decide) (h.sgn hi hc (by decide))
        cases e : lineP Rd Fd l f 1 (i + 1) (o + 1) <;> cases e' : lineP Rd Fd l' f 1 (i + 1) (o + 1) <;> rw [e, e'] at H
        · exact H
        · exact H.elim
        · exact H.elim
        · obtain ⟨rfl, rfl, hj⟩ := H
          rename_i t j
          simp only
          by_cases hd : sgAt l j = [41]
          · rw [if_pos hd, if_pos hd]
            exact ⟨rfl, rfl, h.sgn hj hd (by decide)⟩
          · rw [if_neg hd, if_neg hd]; exact hb _ hj 20
    · rw [if_neg hc, if_neg hc]; exact hb i hi 20
  · exact hb i hi 20
theorem alike_all (h : Lk Rd l l') : ∀ f, Alike Rd Fd l l' f
  | 0 => by
    have z : ∀ i, i < l.length → PRk l l' (.bad 20 (plAt l i)) (.bad 20 (plAt l' i)) := fun i hi => ⟨rfl, i, hi, rfl, rfl⟩
    have y : ∀ i, i < l.length → PLk l l' (.bad 20 (plAt l i)) (.bad 20 (plAt l' i)) := fun i hi => ⟨rfl, i, hi, rfl, rfl⟩
    exact ⟨fun n i o _ hi => by simp only [lineP]; exact z i hi, fun n t i o _ hi => by simp only [restP]; exact z i hi, fun i o hi => by simp only [signP]; exact z i hi, fun i o hi => by simp only [primP]; exact z i hi, fun i o hi => by simp only [argsP]; exact y i hi, fun ts i o hi => by simp only [moreP]; exact y i hi⟩
  | f + 1 => ⟨alike_line h f (alike_all h f), alike_rest h f (alike_all h f), alike_sign h f (alike_all h f), alike_prim h f (alike_all h f), alike_args h f (alike_all h f), alike_more h f (alike_all h f)⟩
/-- A formula's words. -/
theorem alike_form (h : Lk Rd l l') (h0 : 0 < l.length) : PRk l l' (formP Rd Fd l) (formP Rd Fd l') := by
  unfold formP
  rw [h.len]
  have H := (alike_all (Fd := Fd) h (8 * l.length + 16)).line 1 0 0 (by decide) h0
  cases e : lineP Rd Fd l (8 * l.length + 16) 1 0 0 <;> cases e' : lineP Rd Fd l' (8 * l.length + 16) 1 0 0 <;> rw [e, e'] at H
  · exact H
  · exact H.elim
  · exact H.elim
  · obtain ⟨rfl, rfl, hj⟩ := H
    rename_i t j
    simp only [h.kd]
    by_cases hd : (wdAt l j).kind = 0
    · rw [if_pos hd, if_pos hd]; exact ⟨rfl, rfl, hj⟩
    · rw [if_neg hd, if_neg hd]; exact ⟨rfl, j, hj, rfl, rfl⟩
end
end Go.Proofs.YtdlomdbmmhjppaaGreatDoor.T9
