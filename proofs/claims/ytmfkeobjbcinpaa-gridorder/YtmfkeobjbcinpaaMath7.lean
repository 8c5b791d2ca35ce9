/- Lists of places in row order with what lies at each: looking up, laying, taking away; a list in row order is told by what it holds. Plain mathematics. -/
namespace Go.Proofs.Ytmfkeobjbcinpaa
set_option linter.unusedVariables false

abbrev Sp := Int × Int
/-- One place stands ahead of another one in row order. -/
def ltS (a b : Sp) : Prop := a.1 < b.1 ∨ (a.1 = b.1 ∧ a.2 < b.2)
instance (a b : Sp) : Decidable (ltS a b) := by unfold ltS; infer_instance
theorem ltS_irrefl (a : Sp) : ¬ ltS a a := by unfold ltS; omega
theorem ltS_trans {a b c : Sp} (h : ltS a b) (k : ltS b c) : ltS a c := by unfold ltS at *; omega
theorem ltS_asymm {a b : Sp} (h : ltS a b) : ¬ ltS b a := by unfold ltS at *; omega
theorem ltS_tri (a b : Sp) : ltS a b ∨ a = b ∨ ltS b a := by
  obtain ⟨a1, a2⟩ := a
  obtain ⟨b1, b2⟩ := b
  unfold ltS
  simp only [Prod.mk.injEq]
  omega
theorem ltS_ne {a b : Sp} (h : ltS a b) : a ≠ b := fun e => by subst e; exact ltS_irrefl _ h

/-- Two lists in order with the same members are one. -/
theorem sorted_eq : ∀ {l m : List Sp}, l.Pairwise ltS → m.Pairwise ltS → l.Perm m → l = m
  | [], m, _, _, hp => (List.nil_perm.1 hp).symm
  | a :: l, [], _, _, hp => absurd hp.length_eq (by simp)
  | a :: l, b :: m, hl, hm, hp => by
    obtain ⟨l1, l2⟩ := List.pairwise_cons.1 hl
    obtain ⟨m1, m2⟩ := List.pairwise_cons.1 hm
    have e : a = b := by
      rcases List.mem_cons.1 (hp.mem_iff.1 (List.mem_cons_self (a := a) (l := l))) with h | h
      · exact h
      · rcases List.mem_cons.1 (hp.mem_iff.2 (List.mem_cons_self (a := b) (l := m))) with k | k
        · exact k.symm
        · exact absurd (m1 a h) (ltS_asymm (l1 b k))
    subst e
    rw [sorted_eq l2 m2 (List.Perm.cons_inv hp)]

section
variable {α : Type}
abbrev Tb (α : Type) := List (Sp × α)
def keysT (L : Tb α) : List Sp := L.map (·.1)
def SortT (L : Tb α) : Prop := L.Pairwise (fun p q => ltS p.1 q.1)
def getT (L : Tb α) (s : Sp) : Option α := (L.find? (fun p => decide (p.1 = s))).map (·.2)
def hasT (L : Tb α) (s : Sp) : Bool := (getT L s).isSome
def delT (L : Tb α) (s : Sp) : Tb α := L.filter (fun p => !decide (p.1 = s))
def insT : Tb α → Sp → α → Tb α
  | [], s, x => [(s, x)]
  | p :: r, s, x => if ltS p.1 s then p :: insT r s x else if p.1 = s then (s, x) :: r else (s, x) :: p :: r

theorem keysT_sorted {L : Tb α} (h : SortT L) : (keysT L).Pairwise ltS := List.pairwise_map.2 h
theorem sortT_of_keys {L : Tb α} (h : (keysT L).Pairwise ltS) : SortT L := List.pairwise_map.1 h
theorem getT_some {L : Tb α} {s : Sp} {x : α} (h : getT L s = some x) : (s, x) ∈ L := by
  unfold getT at h
  obtain ⟨p, hp, rfl⟩ := Option.map_eq_some_iff.1 h
  have h1 := List.mem_of_find?_eq_some hp
  have h2 := List.find?_some hp
  simp only [decide_eq_true_eq] at h2
  obtain ⟨a, b⟩ := p
  simp only at h2
  subst h2
  exact h1
theorem getT_none {L : Tb α} {s : Sp} (h : getT L s = none) : ∀ p ∈ L, p.1 ≠ s := by
  unfold getT at h
  rw [Option.map_eq_none_iff, List.find?_eq_none] at h
  intro p hp e
  exact h p hp (by simp [e])
theorem getT_none_of {L : Tb α} {s : Sp} (h : ∀ p ∈ L, p.1 ≠ s) : getT L s = none := by
  unfold getT
  rw [Option.map_eq_none_iff, List.find?_eq_none]
  intro p hp
  simp [h p hp]
theorem sort_fst {L : Tb α} (h : SortT L) {p q : Sp × α} (hp : p ∈ L) (hq : q ∈ L) (e : p.1 = q.1) : p = q := by
  induction L with
  | nil => cases hp
  | cons a l ih =>
    obtain ⟨h1, h2⟩ := List.pairwise_cons.1 h
    rcases List.mem_cons.1 hp with rfl | hp'
    · rcases List.mem_cons.1 hq with rfl | hq'
      · rfl
      · exact absurd e (ltS_ne (h1 q hq'))
    · rcases List.mem_cons.1 hq with rfl | hq'
      · exact absurd e.symm (ltS_ne (h1 p hp'))
      · exact ih h2 hp' hq'
theorem getT_mem {L : Tb α} (h : SortT L) {s : Sp} {x : α} (hm : (s, x) ∈ L) : getT L s = some x := by
  cases hg : getT L s with
  | none => exact absurd rfl (getT_none hg _ hm)
  | some y =>
    have := sort_fst h (getT_some hg) hm rfl
    simp only [Prod.mk.injEq, true_and] at this
    rw [this]
theorem hasT_iff {L : Tb α} {s : Sp} : hasT L s = true ↔ s ∈ keysT L := by
  unfold hasT keysT
  rw [Option.isSome_iff_exists, List.mem_map]
  constructor
  · rintro ⟨x, hx⟩
    exact ⟨_, getT_some hx, rfl⟩
  · rintro ⟨p, hp, rfl⟩
    cases hg : getT L p.1 with
    | none => exact absurd rfl (getT_none hg p hp)
    | some y => exact ⟨y, rfl⟩
theorem delT_of_none {L : Tb α} {s : Sp} (h : ∀ p ∈ L, p.1 ≠ s) : delT L s = L := by
  unfold delT
  rw [List.filter_eq_self]
  intro p hp
  simp [h p hp]
theorem insT_perm (s : Sp) (x : α) : ∀ {L : Tb α}, SortT L → (insT L s x).Perm ((s, x) :: delT L s)
  | [], _ => by simp [insT, delT]
  | p :: r, h => by
    obtain ⟨h1, h2⟩ := List.pairwise_cons.1 h
    unfold insT
    by_cases hlt : ltS p.1 s
    · rw [if_pos hlt]
      have hne : delT (p :: r) s = p :: delT r s := by
        unfold delT
        rw [List.filter_cons_of_pos (by simp [ltS_ne hlt])]
      rw [hne]
      exact (List.Perm.cons p (insT_perm s x h2)).trans (List.Perm.swap _ _ _)
    · rw [if_neg hlt]
      by_cases he : p.1 = s
      · rw [if_pos he]
        have : delT (p :: r) s = r := by
          have e1 : delT (p :: r) s = delT r s := by
            unfold delT
            rw [List.filter_cons_of_neg (by simp [he])]
          rw [e1]
          exact delT_of_none (fun q hq e => ltS_ne (h1 q hq) (he.trans e.symm))
        rw [this]
      · rw [if_neg he]
        have hgt : ltS s p.1 := by
          rcases ltS_tri p.1 s with k | k | k
          · exact absurd k hlt
          · exact absurd k he
          · exact k
        rw [delT_of_none]
        intro q hq
        rcases List.mem_cons.1 hq with rfl | hq'
        · exact he
        · exact fun e => ltS_asymm (h1 q hq') (e ▸ hgt)
theorem mem_insT {L : Tb α} (h : SortT L) {s : Sp} {x : α} {p : Sp × α} : p ∈ insT L s x ↔ p = (s, x) ∨ (p ∈ L ∧ p.1 ≠ s) := by
  rw [(insT_perm s x h).mem_iff, List.mem_cons]
  unfold delT
  rw [List.mem_filter]
  simp
theorem insT_sorted (s : Sp) (x : α) : ∀ {L : Tb α}, SortT L → SortT (insT L s x)
  | [], _ => by simp [insT, SortT]
  | p :: r, h => by
    obtain ⟨h1, h2⟩ := List.pairwise_cons.1 h
    unfold insT
    by_cases hlt : ltS p.1 s
    · rw [if_pos hlt]
      refine List.pairwise_cons.2 ⟨fun q hq => ?_, insT_sorted s x h2⟩
      rcases (mem_insT h2).1 hq with rfl | ⟨hq', _⟩
      · exact hlt
      · exact h1 q hq'
    · rw [if_neg hlt]
      by_cases he : p.1 = s
      · rw [if_pos he]
        exact List.pairwise_cons.2 ⟨fun q hq => he ▸ h1 q hq, h2⟩
      · rw [if_neg he]
        have hgt : ltS s p.1 := by
          rcases ltS_tri p.1 s with k | k | k
          · exact absurd k hlt
          · exact absurd k he
          · exact k
        refine List.pairwise_cons.2 ⟨fun q hq => ?_, h⟩
        rcases List.mem_cons.1 hq with rfl | hq'
        · exact hgt
        · exact ltS_trans hgt (h1 q hq')
theorem delT_sorted (s : Sp) {L : Tb α} (h : SortT L) : SortT (delT L s) := List.Pairwise.filter _ h
theorem mem_delT {L : Tb α} {s : Sp} {p : Sp × α} : p ∈ delT L s ↔ p ∈ L ∧ p.1 ≠ s := by unfold delT; rw [List.mem_filter]; simp
theorem getT_insT {L : Tb α} (h : SortT L) (s : Sp) (x : α) (s' : Sp) : getT (insT L s x) s' = if s' = s then some x else getT L s' := by
  by_cases e : s' = s
  · rw [if_pos e]
    exact getT_mem (insT_sorted s x h) ((mem_insT h).2 (.inl (by rw [e])))
  · rw [if_neg e]
    cases hg : getT L s' with
    | none =>
      refine getT_none_of (fun p hp => ?_)
      rcases (mem_insT h).1 hp with rfl | ⟨hp', _⟩
      · exact fun k => e k.symm
      · exact getT_none hg p hp'
    | some y => exact getT_mem (insT_sorted s x h) ((mem_insT h).2 (.inr ⟨getT_some hg, e⟩))
theorem getT_delT {L : Tb α} (h : SortT L) (s s' : Sp) : getT (delT L s) s' = if s' = s then none else getT L s' := by
  by_cases e : s' = s
  · rw [if_pos e]
    exact getT_none_of (fun p hp => e ▸ (mem_delT.1 hp).2)
  · rw [if_neg e]
    cases hg : getT L s' with
    | none => exact getT_none_of (fun p hp => getT_none hg p (mem_delT.1 hp).1)
    | some y => exact getT_mem (delT_sorted s h) (mem_delT.2 ⟨getT_some hg, e⟩)
theorem delT_len {L : Tb α} (h : SortT L) (s : Sp) : (delT L s).length + (if hasT L s then 1 else 0) = L.length := by
  induction L with
  | nil => simp [delT, hasT, getT]
  | cons p r ih =>
    obtain ⟨h1, h2⟩ := List.pairwise_cons.1 h
    by_cases he : p.1 = s
    · have e1 : delT (p :: r) s = r := by
        have e1 : delT (p :: r) s = delT r s := by
          unfold delT
          rw [List.filter_cons_of_neg (by simp [he])]
        rw [e1]
        exact delT_of_none (fun q hq e => ltS_ne (h1 q hq) (he.trans e.symm))
      have e2 : hasT (p :: r) s = true := by simp [hasT, getT, he]
      rw [e1, e2]
      simp
    · have e1 : delT (p :: r) s = p :: delT r s := by
        unfold delT
        rw [List.filter_cons_of_pos (by simp [he])]
      have e2 : hasT (p :: r) s = hasT r s := by simp [hasT, getT, he]
      rw [e1, e2, List.length_cons, List.length_cons, ← ih h2]
      omega
theorem insT_len {L : Tb α} (h : SortT L) (s : Sp) (x : α) : (insT L s x).length = if hasT L s then L.length else L.length + 1 := by
  have h1 := (insT_perm s x h).length_eq
  have h2 := delT_len h s
  rw [h1, List.length_cons]
  split at h2 <;> rename_i hh <;> simp only [hh, if_true, if_false, Bool.false_eq_true] <;> omega
theorem hasT_insT {L : Tb α} (h : SortT L) (s : Sp) (x : α) (s' : Sp) : hasT (insT L s x) s' = (decide (s' = s) || hasT L s') := by
  unfold hasT
  rw [getT_insT h]
  by_cases e : s' = s <;> simp [e]
theorem hasT_delT {L : Tb α} (h : SortT L) (s : Sp) (s' : Sp) : hasT (delT L s) s' = (!decide (s' = s) && hasT L s') := by
  unfold hasT
  rw [getT_delT h]
  by_cases e : s' = s <;> simp [e]
end
end Go.Proofs.Ytmfkeobjbcinpaa
