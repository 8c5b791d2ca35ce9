/- Sorted lists: how many numbers are less than one of them; what lies in the middle. -/
import Derived.Test.YtchphbclaapfhaaGreatDoorRkM15
namespace Go.Proofs.YtchphbclaapfhaaGreatDoor
open Go.RowKit Go.Sort
set_option linter.unusedVariables false
set_option linter.unusedSimpArgs false

theorem srt_perm (L : List Int) : (srt L).Perm L := List.mergeSort_perm _ _
theorem srt_pw (L : List Int) : (srt L).Pairwise (· ≤ ·) := by
  have h := List.pairwise_mergeSort (le := fun x y : Int => decide (x ≤ y)) (fun a b c h1 h2 => by simp only [decide_eq_true_eq] at *; omega) (fun a b => by simp only [Bool.or_eq_true, decide_eq_true_eq]; omega) L
  exact h.imp (fun h => by simpa using h)
theorem pw_at {s : List Int} (h : s.Pairwise (· ≤ ·)) {i j : Nat} (hij : i ≤ j) (hj : j < s.length) : s.getD i 0 ≤ s.getD j 0 := by
  have hi : i < s.length := by omega
  simp only [List.getD, List.getElem?_eq_getElem hi, List.getElem?_eq_getElem hj, Option.getD_some]
  rcases Nat.lt_or_eq_of_le hij with k | k
  · exact List.pairwise_iff_getElem.1 h i j hi hj k
  · subst k; exact Int.le_refl _
theorem cnt_lt {s : List Int} (h : s.Pairwise (· ≤ ·)) {i : Nat} (hi : i < s.length) : s.countP (fun y => decide (y < s.getD i 0)) ≤ i := by
  have e : s = s.take i ++ s.drop i := (List.take_append_drop i s).symm
  have q : s.countP (fun y => decide (y < s.getD i 0)) = (s.take i).countP (fun y => decide (y < s.getD i 0)) + (s.drop i).countP (fun y => decide (y < s.getD i 0)) := by
    conv => lhs; arg 2; rw [e]
    rw [List.countP_append]
  have z : (s.drop i).countP (fun y => decide (y < s.getD i 0)) = 0 := by
    rw [List.countP_eq_zero]
    intro y hy
    obtain ⟨k, hk, rfl⟩ := List.getElem_of_mem hy
    rw [List.length_drop] at hk
    rw [List.getElem_drop]
    have := pw_at h (show i ≤ i + k by omega) (show i + k < s.length by omega)
    rw [show s.getD (i + k) 0 = s[i + k] from by simp only [List.getD, List.getElem?_eq_getElem (show i + k < s.length by omega), Option.getD_some]] at this
    rw [decide_eq_true_eq]
    exact Int.not_lt.2 this
  have l := List.countP_le_length (p := fun y => decide (y < s.getD i 0)) (l := s.take i)
  rw [List.length_take] at l
  omega
theorem cnt_le {s : List Int} (h : s.Pairwise (· ≤ ·)) {i : Nat} (hi : i < s.length) : i + 1 ≤ s.countP (fun y => decide (y ≤ s.getD i 0)) := by
  have e : s = s.take (i + 1) ++ s.drop (i + 1) := (List.take_append_drop (i + 1) s).symm
  have q : s.countP (fun y => decide (y ≤ s.getD i 0)) = (s.take (i + 1)).countP (fun y => decide (y ≤ s.getD i 0)) + (s.drop (i + 1)).countP (fun y => decide (y ≤ s.getD i 0)) := by
    conv => lhs; arg 2; rw [e]
    rw [List.countP_append]
  have z : (s.take (i + 1)).countP (fun y => decide (y ≤ s.getD i 0)) = (s.take (i + 1)).length := by
    rw [List.countP_eq_length]
    intro y hy
    obtain ⟨k, hk, rfl⟩ := List.getElem_of_mem hy
    rw [List.length_take] at hk
    rw [List.getElem_take]
    have := pw_at h (show k ≤ i by omega) hi
    rw [show s.getD k 0 = s[k] from by simp only [List.getD, List.getElem?_eq_getElem (show k < s.length by omega), Option.getD_some]] at this
    exact decide_eq_true this
  rw [List.length_take] at z
  omega
theorem cnt_mono {s : List Int} {p q : Int → Bool} (h : ∀ y, p y = true → q y = true) : s.countP p ≤ s.countP q := List.countP_mono_left (fun y _ hy => h y hy)
theorem cnt_not (s : List Int) (x : Int) : s.countP (fun y => decide (x < y)) + s.countP (fun y => decide (y ≤ x)) = s.length := by
  induction s with
  | nil => rfl
  | cons y r ih =>
    simp only [List.countP_cons, List.length_cons]
    by_cases c : x < y
    · have c2 : ¬ y ≤ x := by omega
      simp only [c, c2, decide_true, decide_false, if_true]
      simp
      omega
    · have c2 : y ≤ x := by omega
      simp only [c, c2, decide_true, decide_false, if_true]
      simp
      omega
theorem cnt_eq (s : List Int) (x : Int) : s.countP (fun y => decide (y < x)) + s.countP (fun y => y == x) = s.countP (fun y => decide (y ≤ x)) := by
  induction s with
  | nil => rfl
  | cons y r ih =>
    simp only [List.countP_cons]
    by_cases c : y < x
    · have c2 : ¬ y = x := by omega
      have c3 : y ≤ x := by omega
      simp only [c, c2, c3, decide_true, beq_iff_eq, if_true, if_false]
      omega
    · by_cases c2 : y = x
      · have c3 : y ≤ x := by omega
        simp only [c, c2, c3, decide_true, decide_false, beq_self_eq_true, if_true]
        simp
        omega
      · have c3 : ¬ y ≤ x := by omega
        simp only [c, c2, c3, decide_false, beq_iff_eq, if_false]
        simp
        omega
/-- A number of the sorted list: how many are less, and how many it is. -/
theorem rank_is (ns : List Int) (j : Nat) (h1 : 1 ≤ j) (h2 : j ≤ ns.length) : ns.countP (fun y => decide (y < (srt ns).getD (j - 1) 0)) < j ∧ j ≤ ns.countP (fun y => decide (y < (srt ns).getD (j - 1) 0)) + ns.countP (fun y => y == (srt ns).getD (j - 1) 0) := by
  have hi : j - 1 < (srt ns).length := by rw [srt_len]; omega
  have a := cnt_lt (srt_pw ns) hi
  have b := cnt_le (srt_pw ns) hi
  rw [(srt_perm ns).countP_eq] at a b
  rw [cnt_eq]
  omega
theorem med_is (ns : List Int) (h1 : 1 ≤ ns.length) : ∃ x, medT (srt ns) = ⟨1, x, no⟩ ∧ ns.countP (fun y => decide (y < x)) ≤ ns.length / 2 ∧ ns.countP (fun y => decide (x < y)) ≤ ns.length / 2 ∧ ∃ i k, i < ns.length ∧ k < ns.length ∧ (srt ns).getD i 0 ≤ x ∧ x ≤ (srt ns).getD k 0 := by
  have hl := srt_len ns
  unfold medT
  rw [hl, if_neg (by omega)]
  by_cases c : ns.length % 2 = 1
  · rw [if_pos c]
    have hi : ns.length / 2 < (srt ns).length := by omega
    have a := cnt_lt (srt_pw ns) hi
    have b := cnt_le (srt_pw ns) hi
    have d := cnt_not ns ((srt ns).getD (ns.length / 2) 0)
    rw [(srt_perm ns).countP_eq] at a b
    exact ⟨_, rfl, a, by omega, ns.length / 2, ns.length / 2, by omega, by omega, Int.le_refl _, Int.le_refl _⟩
  · rw [if_neg c]
    have hi : ns.length / 2 < (srt ns).length := by omega
    have hk : ns.length / 2 - 1 < (srt ns).length := by omega
    have m := mid_in _ _ (pw_at (srt_pw ns) (show ns.length / 2 - 1 ≤ ns.length / 2 by omega) hi)
    have a := cnt_lt (srt_pw ns) hi
    have b := cnt_le (srt_pw ns) hk
    rw [(srt_perm ns).countP_eq] at a b
    generalize mid ((srt ns).getD (ns.length / 2 - 1) 0) ((srt ns).getD (ns.length / 2) 0) = x at *
    have d := cnt_not ns ((srt ns).getD (ns.length / 2 - 1) 0)
    have e1 := cnt_mono (s := ns) (p := fun y => decide (y < x)) (q := fun y => decide (y < (srt ns).getD (ns.length / 2) 0)) (fun y hy => by simp only [decide_eq_true_eq] at *; omega)
    have e2 := cnt_mono (s := ns) (p := fun y => decide (x < y)) (q := fun y => decide ((srt ns).getD (ns.length / 2 - 1) 0 < y)) (fun y hy => by simp only [decide_eq_true_eq] at *; omega)
    exact ⟨x, rfl, by omega, by omega, ns.length / 2 - 1, ns.length / 2, by omega, by omega, m.1, m.2⟩
theorem min_le : ∀ (ns : List Int) (s : Bool × Int), (s.1 = true → extL min ns s ≤ s.2) ∧ ∀ y ∈ ns, extL min ns s ≤ y
  | [], s => ⟨fun _ => Int.le_refl _, fun y hy => by cases hy⟩
  | y :: r, s => by
    have ih := min_le r (true, if s.1 then min s.2 y else y)
    have i1 := ih.1 rfl
    rw [extL]
    refine ⟨fun h => ?_, fun z hz => ?_⟩
    · simp only [h, if_true] at i1 ⊢
      omega
    · rcases List.mem_cons.1 hz with rfl | hz
      · refine Int.le_trans i1 ?_
        simp only
        split
        · omega
        · exact Int.le_refl _
      · exact ih.2 z hz
theorem max_ge : ∀ (ns : List Int) (s : Bool × Int), (s.1 = true → s.2 ≤ extL max ns s) ∧ ∀ y ∈ ns, y ≤ extL max ns s
  | [], s => ⟨fun _ => Int.le_refl _, fun y hy => by cases hy⟩
  | y :: r, s => by
    have ih := max_ge r (true, if s.1 then max s.2 y else y)
    have i1 := ih.1 rfl
    rw [extL]
    refine ⟨fun h => ?_, fun z hz => ?_⟩
    · simp only [h, if_true] at i1 ⊢
      omega
    · rcases List.mem_cons.1 hz with rfl | hz
      · refine Int.le_trans ?_ i1
        simp only
        split
        · omega
        · exact Int.le_refl _
      · exact ih.2 z hz
theorem srt_at (ns : List Int) {i : Nat} (h : i < ns.length) : (srt ns).getD i 0 ∈ ns := by
  have hi : i < (srt ns).length := by rw [srt_len]; exact h
  rw [← srt_mem]
  exact List.mem_of_getElem? (getD_at hi)
/-- What the law asks, told of the column. -/
theorem ranks_are (ns : List Int) (h1 : 1 ≤ ns.length) : ∃ x, medT (srt ns) = ⟨1, x, no⟩ ∧ ns.countP (fun y => decide (y < x)) ≤ ns.length / 2 ∧ ns.countP (fun y => decide (x < y)) ≤ ns.length / 2 ∧ extL min ns (false, 0) ≤ x ∧ x ≤ extL max ns (false, 0) := by
  obtain ⟨x, h2, h3, h4, i, k, hi, hk, h5, h6⟩ := med_is ns h1
  have a := (min_le ns (false, 0)).2 _ (srt_at ns hi)
  have b := (max_ge ns (false, 0)).2 _ (srt_at ns hk)
  exact ⟨x, h2, h3, h4, Int.le_trans a h5, Int.le_trans h6 b⟩
end Go.Proofs.YtchphbclaapfhaaGreatDoor
