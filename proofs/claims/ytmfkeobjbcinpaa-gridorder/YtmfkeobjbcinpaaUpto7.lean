/- The places of an area in row order are just those that lie in it. Plain mathematics. -/
import Derived.Test.YtmfkeobjbcinpaaAs7
namespace Go.Proofs.Ytmfkeobjbcinpaa
set_option linter.unusedVariables false

theorem sorted_ext : ∀ {l m : List Sp}, l.Pairwise ltS → m.Pairwise ltS → (∀ s, s ∈ l ↔ s ∈ m) → l = m
  | [], [], _, _, _ => rfl
  | [], b :: m, _, _, h => absurd ((h b).2 (by simp)) (by simp)
  | a :: l, [], _, _, h => absurd ((h a).1 (by simp)) (by simp)
  | a :: l, b :: m, hl, hm, h => by
    obtain ⟨l1, l2⟩ := List.pairwise_cons.1 hl
    obtain ⟨m1, m2⟩ := List.pairwise_cons.1 hm
    have e : a = b := by
      rcases List.mem_cons.1 ((h a).1 (by simp)) with k | k
      · exact k
      · rcases List.mem_cons.1 ((h b).2 (by simp)) with j | j
        · exact j.symm
        · exact absurd (m1 a k) (ltS_asymm (l1 b j))
    subst e
    rw [sorted_ext l2 m2]
    intro s
    constructor
    · intro hs
      rcases List.mem_cons.1 ((h s).1 (List.mem_cons_of_mem _ hs)) with k | k
      · subst k; exact absurd (l1 s hs) (ltS_irrefl s)
      · exact k
    · intro hs
      rcases List.mem_cons.1 ((h s).2 (List.mem_cons_of_mem _ hs)) with k | k
      · subst k; exact absurd (m1 s hs) (ltS_irrefl s)
      · exact k
theorem upto_sorted (t l : Int) (nc k : Nat) (h : 0 < nc) : (upto t l nc k).Pairwise ltS := by
  unfold upto
  rw [List.pairwise_map]
  refine List.Pairwise.imp ?_ List.pairwise_lt_range
  intro i j hij
  unfold ltS plc
  have h1 : i / nc ≤ j / nc := Nat.div_le_div_right (Nat.le_of_lt hij)
  rcases Nat.lt_or_eq_of_le h1 with h2 | h2
  · left; simp only; omega
  · right
    have d1 := Nat.div_add_mod i nc
    have d2 := Nat.div_add_mod j nc
    rw [h2] at d1
    simp only
    omega
theorem plc_in {t l b r : Int} {nr nc : Nat} (ho : 0 ≤ t ∧ t ≤ b ∧ b < 65536 ∧ 0 ≤ l ∧ l ≤ r ∧ r < 702) (hr : b + 1 = t + nr) (hc : r + 1 = l + nc) {k : Nat} (hk : k < nr * nc) : mayB (plc t l nc k).1 (plc t l nc k).2 = true := by
  have hn : 0 < nc := by omega
  have h1 : k / nc < nr := (Nat.div_lt_iff_lt_mul hn).2 hk
  have h2 : k % nc < nc := Nat.mod_lt _ hn
  rw [mayB_iff]
  unfold plc
  simp only
  generalize k / nc = q at h1 ⊢
  generalize k % nc = m at h2 ⊢
  omega
theorem mem_upto {t l b r : Int} {nr nc : Nat} (hr : b + 1 = t + nr) (hc : r + 1 = l + nc) (hn : 0 < nc) (s : Sp) : s ∈ upto t l nc (nr * nc) ↔ (t ≤ s.1 ∧ s.1 ≤ b ∧ l ≤ s.2 ∧ s.2 ≤ r) := by
  unfold upto
  rw [List.mem_map]
  constructor
  · rintro ⟨k, hk, rfl⟩
    rw [List.mem_range] at hk
    have h1 : k / nc < nr := (Nat.div_lt_iff_lt_mul hn).2 hk
    have h2 : k % nc < nc := Nat.mod_lt _ hn
    unfold plc
    simp only
    generalize k / nc = q at h1 ⊢
    generalize k % nc = m at h2 ⊢
    omega
  · rintro ⟨h1, h2, h3, h4⟩
    obtain ⟨i, hi⟩ : ∃ i : Nat, s.1 = t + i := ⟨(s.1 - t).toNat, by omega⟩
    obtain ⟨j, hj⟩ : ∃ j : Nat, s.2 = l + j := ⟨(s.2 - l).toNat, by omega⟩
    have hi' : i < nr := by omega
    have hj' : j < nc := by omega
    refine ⟨i * nc + j, ?_, ?_⟩
    · rw [List.mem_range]
      have := Nat.mul_le_mul_right nc (show i + 1 ≤ nr from hi')
      rw [Nat.add_mul] at this
      omega
    · rw [plc_at t l nc i j hj', ← hi, ← hj]
/-- The area's places at which something lies: those of the table's places that lie in the area. -/
theorem upto_has {α : Type} {L : Tb α} {t l b r : Int} {nr nc : Nat} (hL : SortT L) (ho : 0 ≤ t ∧ t ≤ b ∧ b < 65536 ∧ 0 ≤ l ∧ l ≤ r ∧ r < 702) (hr : b + 1 = t + nr) (hc : r + 1 = l + nc) :
    (upto t l nc (nr * nc)).filter (hasT L) = (keysT L).filter (hasA t l b r) := by
  have hn : 0 < nc := by omega
  refine sorted_ext (List.Pairwise.filter _ (upto_sorted t l nc _ hn)) (List.Pairwise.filter _ (keysT_sorted hL)) (fun s => ?_)
  rw [List.mem_filter, List.mem_filter, mem_upto hr hc hn, hasT_iff]
  have hk : okA t l b r = true := okA_iff.2 ho
  unfold hasA hasB
  rw [hk]
  simp only [Bool.true_and, decide_eq_true_eq]
  exact And.comm
end Go.Proofs.Ytmfkeobjbcinpaa
