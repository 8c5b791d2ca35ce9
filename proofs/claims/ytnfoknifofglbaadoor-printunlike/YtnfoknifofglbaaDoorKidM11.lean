/- Kids' texts stand in a node's text, in their order: the mathematics of PrintKids. -/
import Derived.Test.YtnfoknifofglbaaDoorTxt11
import Derived.Test.YtnfoknifofglbaaDoorPartsN9
namespace Go.Proofs.YtnfoknifofglbaaDoor.T9
open Go.RowKit Go.Sort
set_option linter.unusedVariables false

/-- The texts stand in the text one behind the other. -/
def Occ : List UInt8 → List (List UInt8) → Prop
  | _, [] => True
  | s, k :: r => ∃ pre post, s = pre ++ (k ++ post) ∧ Occ post r
theorem Occ.more : ∀ {l : List (List UInt8)} {s : List UInt8} (x : List UInt8), Occ s l → Occ (x ++ s) l
  | [], s, x, _ => trivial
  | k :: r, s, x, ⟨pre, post, e, h⟩ => ⟨x ++ pre, post, by rw [e, List.append_assoc], h⟩
theorem Occ.behind : ∀ {l : List (List UInt8)} {s : List UInt8} (x : List UInt8), Occ s l → Occ (s ++ x) l
  | [], s, x, _ => trivial
  | k :: r, s, x, ⟨pre, post, e, h⟩ => ⟨pre, post ++ x, by rw [e]; simp only [List.append_assoc], h.behind x⟩
/-- One looks at a place: the text is there, or it is behind it. -/
theorem Occ.here {k s : List UInt8} {r : List (List UInt8)} (h : Occ s (k :: r)) : k.length ≤ s.length := by
  obtain ⟨pre, post, e, _⟩ := h
  rw [e]; simp only [List.length_append]; omega
theorem Occ.take {k s : List UInt8} {r : List (List UInt8)} (h : Occ s (k :: r)) (e : s.take k.length = k) : Occ (s.drop k.length) r := by
  obtain ⟨pre, post, e', h'⟩ := h
  have : s.drop k.length = (s.drop k.length).take pre.length ++ post := by
    have e2 : post = (s.drop k.length).drop pre.length := by
      rw [List.drop_drop, e']
      rw [← List.append_assoc]
      exact (List.drop_left' (by simp; omega)).symm
    conv => rhs; rw [e2]
    exact (List.take_append_drop _ _).symm
  rw [this]
  exact h'.more _
theorem Occ.on {k s : List UInt8} {r : List (List UInt8)} (h : Occ s (k :: r)) (e : s.take k.length ≠ k) : Occ (s.drop 1) (k :: r) := by
  obtain ⟨pre, post, e', h'⟩ := h
  cases pre with
  | nil => exact absurd (by rw [e']; simp) e
  | cons c p => exact ⟨p, post, by rw [e']; rfl, h'⟩
theorem fr_occ (n : Int) (p : List UInt8 × Int) : ∃ x y, fr n p = x ++ (p.1 ++ y) := by
  unfold fr
  split
  · exact ⟨[40], [41], by simp⟩
  · exact ⟨[], [], by simp⟩
theorem argF_occ : ∀ (l : List (List UInt8 × Int)) (f : Bool) (y : List UInt8), Occ (argF f l ++ y) (l.map (·.1))
  | [], f, y => trivial
  | a :: r, f, y => by
    rw [argF, List.map_cons]
    exact ⟨if f then [44] else [], argF true r ++ y, by simp, argF_occ r true y⟩
theorem node_occ (nd : Nd) (ks : List Ex) (h : toldB nd ks.length = true) : Occ (txE (.mk nd ks)) (ks.map txE) := by
  rw [txE_mk]
  unfold nodeT
  split
  · rename_i hk
    have e : ks.length = 1 := by
      have := h; unfold toldB okOf at this; simp only [hk] at this; simp at this; exact this.1.1.2.2
    obtain ⟨k, rfl⟩ := List.length_eq_one_iff.1 e
    obtain ⟨x, y, hxy⟩ := fr_occ (lv nd) (txE k, lv k.nd)
    simp only [List.map_cons, List.map_nil, List.getD_cons_zero]
    rw [hxy]
    exact ⟨aheadL nd.op ++ x, y ++ behindL nd.op, by simp, trivial⟩
  · split
    · rename_i hk7 hk
      have e : ks.length = 2 := by
        have := h; unfold toldB okOf at this; simp only [hk] at this; simp at this; exact this.1.1.2.2
      obtain ⟨k, j, rfl⟩ := len_two e
      obtain ⟨x, y, hxy⟩ := fr_occ (lv nd) (txE k, lv k.nd)
      obtain ⟨x', y', hxy'⟩ := fr_occ (lv nd + 1) (txE j, lv j.nd)
      simp only [List.map_cons, List.map_nil, List.getD_cons_zero, List.getD_cons_succ]
      rw [hxy, hxy']
      exact ⟨x, y ++ sgB nd.op ++ (x' ++ (txE j ++ y')), by simp, y ++ sgB nd.op ++ x', y', by simp, trivial⟩
    · split
      · have := argF_occ (ks.map fun k => (txE k, lv k.nd)) false [41]
        rw [List.map_map] at this
        have := this.more (nameL nd.fn ++ [40])
        rw [List.append_assoc _ _ [41]]
        exact this
      · rename_i h7 h8 h9
        have e : ks.length = 0 := by
          have := h; unfold toldB leftOf at this; simp only [h7, h8, h9] at this; simp at this; simp [this.1.2]
        rw [List.eq_nil_of_length_eq_zero e]
        trivial
/-- A kid of a tree that may be may be. -/
theorem may_kid {nd : Nd} {ks : List Ex} {k : Ex} (h : mayR (.mk nd ks) = 0) (hk : k ∈ ks) : mayR k = 0 := by
  have hf : fitB (.mk nd ks) = true := by
    cases q : fitB (.mk nd ks)
    · rw [mayR_no q] at h; cases h
    · rfl
  have ha : allE (.mk nd ks) = true := by
    cases q : allE (.mk nd ks)
    · rw [mayR_two hf q] at h; cases h
    · rfl
  rw [allE, Bool.and_eq_true] at ha
  exact mayR_ok (fit_kid hf hk) (all_kid ha.2 hk)
theorem num_kid : ∀ {ks : List Ex} {k : Ex}, NumL ks → k ∈ ks → NumE k
  | [], k, _, h => by cases h
  | x :: r, k, ha, h => by
    rw [NumL] at ha
    rcases List.mem_cons.1 h with rfl | h
    · exact ha.1
    · exact num_kid ha.2 h
theorem may_all {t : Ex} (h : mayR t = 0) : fitB t = true ∧ allE t = true := by
  cases q : fitB t
  · rw [mayR_no q] at h; cases h
  · cases q2 : allE t
    · rw [mayR_two q q2] at h; cases h
    · exact ⟨rfl, rfl⟩
theorem txE_short {t : Ex} (h : mayR t = 0) (hN : NumE t) : (txE t).length ≤ 65535 := by
  obtain ⟨hf, ha⟩ := may_all h
  have := txE_len t ha hN
  have := of_decide_eq_true hf
  omega
end Go.Proofs.YtnfoknifofglbaaDoor.T9
