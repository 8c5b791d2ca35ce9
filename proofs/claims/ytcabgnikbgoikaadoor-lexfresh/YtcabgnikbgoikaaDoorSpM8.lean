/- The longest of the words that are spelt in one way is the first of them in their order; of no program. -/
import Derived.Test.YtcabgnikbgoikaaDoorRf8e
namespace Go.Proofs.YtcabgnikbgoikaaDoor
open Go.RowKit
set_option linter.unusedVariables false

def errL : List (List UInt8) := [[35, 78, 65, 77, 69, 63], [35, 78, 85, 77, 33], [35, 82, 69, 70, 33], [35, 86, 65, 76, 85, 69, 33], [35, 68, 73, 86, 47, 48, 33], [35, 78, 47, 65]]
def signL : List (List UInt8) := [[40], [41], [44], [58], [94], [42], [47], [43], [45], [38], [61], [60], [62], [37], [60, 62], [60, 61], [62, 61]]
theorem err_in : ∀ q ∈ errL, q ∈ spelts := by decide +kernel
theorem sign_in : ∀ q ∈ signL, q ∈ spelts := by decide +kernel
theorem err_or : ∀ q ∈ spelts, q ∈ errL ∨ q.head? ≠ some 35 := by decide +kernel
theorem sign_or : ∀ q ∈ spelts, q ∈ signL ∨ q.head? = some 35 := by decide +kernel
theorem sp_order : spelts.Pairwise (fun a b => ¬ (a.isPrefixOf b = true ∧ a.length < b.length)) := by decide +kernel
theorem best_spec (l : List UInt8) : ∀ (P : List (List UInt8)) (b : List UInt8), (b.length ≤ (bestF l b P).length ∧ ∀ q ∈ P, Lib.hasPrefix l q = true → q.length ≤ (bestF l b P).length) ∧ (bestF l b P = b ∨ (bestF l b P ∈ P ∧ Lib.hasPrefix l (bestF l b P) = true))
  | [], b => ⟨⟨Nat.le_refl _, fun q hq => by cases hq⟩, .inl rfl⟩
  | p :: P, b => by
    have e : bestF l b (p :: P) = bestF l (if Lib.hasPrefix l p = true ∧ b.length < p.length then p else b) P := rfl
    rw [e]
    by_cases h : Lib.hasPrefix l p = true ∧ b.length < p.length
    · rw [if_pos h]
      obtain ⟨⟨h1, h2⟩, h3⟩ := best_spec l P p
      refine ⟨⟨by omega, fun q hq hm => ?_⟩, ?_⟩
      · rcases List.mem_cons.1 hq with rfl | hq
        · exact h1
        · exact h2 q hq hm
      · rcases h3 with h3 | ⟨h3, h4⟩
        · exact .inr ⟨by rw [h3]; simp, by rw [h3]; exact h.1⟩
        · exact .inr ⟨List.mem_cons_of_mem _ h3, h4⟩
    · rw [if_neg h]
      obtain ⟨⟨h1, h2⟩, h3⟩ := best_spec l P b
      refine ⟨⟨h1, fun q hq hm => ?_⟩, ?_⟩
      · rcases List.mem_cons.1 hq with rfl | hq
        · have : ¬ b.length < q.length := fun hlt => h ⟨hm, hlt⟩
          omega
        · exact h2 q hq hm
      · rcases h3 with h3 | ⟨h3, h4⟩
        · exact .inl h3
        · exact .inr ⟨List.mem_cons_of_mem _ h3, h4⟩
theorem pre_same {l p q : List UInt8} (hp : Lib.hasPrefix l p = true) (hq : Lib.hasPrefix l q = true) (h : p.length = q.length) : p = q := by
  rw [← pre_take hp, ← pre_take hq, h]
theorem find_first {l m : List UInt8} : ∀ (Q : List (List UInt8)), Q.Pairwise (fun a b => ¬ (a.isPrefixOf b = true ∧ a.length < b.length)) → Q.find? (Lib.hasPrefix l ·) = some m → ∀ q ∈ Q, Lib.hasPrefix l q = true → q.length ≤ m.length
  | [], _, h, q, hq, hm => by cases hq
  | a :: Q, hQ, h, q, hq, hm => by
    obtain ⟨h1, h2⟩ := List.pairwise_cons.1 hQ
    rw [List.find?_cons] at h
    split at h
    · next ha =>
      have hma : a = m := by simpa using h
      subst hma
      rcases List.mem_cons.1 hq with rfl | hq
      · exact Nat.le_refl _
      · rcases Nat.lt_or_ge a.length q.length with hlt | hge
        · exfalso
          refine h1 q hq ⟨?_, hlt⟩
          rw [List.isPrefixOf_iff_prefix]
          exact List.prefix_of_prefix_length_le (List.isPrefixOf_iff_prefix.1 ha) (List.isPrefixOf_iff_prefix.1 hm) (by omega)
        · exact hge
    · next ha =>
      rcases List.mem_cons.1 hq with rfl | hq
      · rw [hm] at ha; cases ha
      · exact find_first Q h2 h q hq hm
theorem sp_best {l : List UInt8} {P : List (List UInt8)} (hP : ∀ q ∈ P, q ∈ spelts) (hQ : ∀ q ∈ spelts, Lib.hasPrefix l q = true → q ∈ P) : bestF l [] P = (spFind l).getD [] := by
  obtain ⟨⟨_, h2⟩, h3⟩ := best_spec l P []
  cases hf : spFind l with
  | none =>
    have hn : ∀ q ∈ spelts, Lib.hasPrefix l q = false := fun q hq => by
      have := List.find?_eq_none.1 hf q hq
      simpa using this
    rcases h3 with h3 | ⟨h3, h4⟩
    · exact h3
    · rw [hn _ (hP _ h3)] at h4; cases h4
  | some m =>
    have hm := sp_mem hf
    have hmP := hQ m hm.1 hm.2
    have h5 := h2 m hmP hm.2
    have h6 := (sp_facts hm.1).1
    show bestF l [] P = m
    rcases h3 with h3 | ⟨h3, h4⟩
    · rw [h3] at h5; simp at h5; rw [h5] at h6; simp at h6
    · have h7 := find_first spelts sp_order hf _ (hP _ h3) h4
      exact pre_same h4 hm.2 (by omega)
theorem pre_head {l q : List UInt8} (h : Lib.hasPrefix l q = true) (hq : q ≠ []) : q.head? = l.head? := by
  rw [← pre_take h]
  cases q with
  | nil => exact absurd rfl hq
  | cons c r => cases l with
    | nil => simp [Lib.hasPrefix] at h
    | cons d t => simp
theorem sp_tok {l : List UInt8} {kind : Nat} {P : List (List UInt8)} (hb : bestF l [] P = (spFind l).getD []) (hk : ∀ p, spFind l = some p → spKind p = kind) : lTok kind (bestF l [] P) = spTok l := by
  rw [hb]
  unfold spTok lTok
  cases hf : spFind l with
  | none => rfl
  | some p =>
    have hm := sp_mem hf
    have h1 := (sp_facts hm.1).1
    have hne : p ≠ [] := by rintro rfl; simp at h1
    simp only [Option.getD_some]
    rw [if_neg hne, hk p hf]
theorem sp_err (r : List UInt8) : lTok 6 (bestF (35 :: r) [] errL) = spTok (35 :: r) := by
  refine sp_tok (sp_best err_in (fun q hq hm => ?_)) (fun p hp => ?_)
  · rcases err_or q hq with h | h
    · exact h
    · exact absurd (pre_head hm (by rintro rfl; revert hq; decide)) h
  · have hm := sp_mem hp
    unfold spKind
    have h := pre_head hm.2 (by rintro rfl; have := hm.1; revert this; decide)
    rw [if_pos (by simpa using h)]
theorem sp_sign {c : UInt8} (r : List UInt8) (hc : c ≠ 35) : lTok 7 (bestF (c :: r) [] signL) = spTok (c :: r) := by
  refine sp_tok (sp_best sign_in (fun q hq hm => ?_)) (fun p hp => ?_)
  · rcases sign_or q hq with h | h
    · exact h
    · exfalso
      rw [pre_head hm (by rintro rfl; cases h)] at h
      exact hc (by simpa using h)
  · have hm := sp_mem hp
    unfold spKind
    rw [if_neg (fun h => hc (by
      rw [pre_head hm.2 (by rintro rfl; cases h)] at h
      simpa using h))]
end Go.Proofs.YtcabgnikbgoikaaDoor
