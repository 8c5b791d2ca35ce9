/- TreeTurned's mathematics: what one change makes of a tree. -/
import Derived.Test.YtdegfmebgllklaaPartsM9
import Derived.Test.YtdegfmebgllklaaEq9
import Derived.Test.YtdegfmebgllklaaROwnW9
namespace Go.Proofs.Ytdegfmebgllklaa
open Go.RowKit Go.Sort
set_option linter.unusedVariables false

theorem wrap_ne (a n : Int) (h0 : -9223372036854775808 ≤ n) (h1 : n ≤ 9223372036854775807) (hn : n ≠ 0) : wrap64 (a + n) ≠ a := by
  unfold wrap64; omega
theorem sameE_self : ∀ t : Ex, sameE t t = true := by
  have hL : ∀ ks : List Ex, (∀ k ∈ ks, sameE k k = true) → sameL ks ks = true := by
    intro ks
    induction ks with
    | nil => intro _; rw [sameL]; rfl
    | cons k r ih => intro h; rw [sameL]; simp only [h k (List.mem_cons_self ..), ih (fun x hx => h x (List.mem_cons_of_mem _ hx)), Bool.and_self]
  refine Ex.ind fun nd ks ih => ?_
  rw [sameE]
  show (ndB nd nd && sameL ks ks) = true
  rw [ndB_self, hL ks ih]; rfl
theorem sameE_nd {n1 n2 : Nd} (ks ls : List Ex) (h : ndB n1 n2 = false) : sameE (.mk n1 ks) (.mk n2 ls) = false := by
  rw [sameE]; show (ndB n1 n2 && _) = false; rw [h]; rfl
theorem sameE_len {n1 n2 : Nd} (ks ls : List Ex) (h : ks.length ≠ ls.length) : sameE (.mk n1 ks) (.mk n2 ls) = false := by
  rw [sameE]; show (_ && sameL ks ls) = false; rw [sameL_len ks ls h, Bool.and_false]
theorem mayR_bad {t : Ex} (h : allE t = false) : mayR t = 22 ∨ mayR t = 2 := by
  cases hf : fitB t
  · exact .inr (mayR_no hf)
  · exact .inl (mayR_two hf h)
theorem mayR_zero {t : Ex} (h : mayR t = 0) : fitB t = true ∧ allE t = true := by
  unfold mayR at h
  split at h
  · split at h
    · exact ⟨‹_›, ‹_›⟩
    · cases h
  · cases h
theorem allE_told {nd : Nd} {ks : List Ex} (h : allE (.mk nd ks) = true) : toldB nd ks.length = true := by
  rw [allE] at h; exact (Bool.and_eq_true _ _ ▸ h).1
theorem allE_not {nd : Nd} {ks : List Ex} (h : toldB nd ks.length = false) : allE (.mk nd ks) = false := by
  rw [allE, h]; rfl
theorem told_rest {n : Nd} {len : Nat} (h : toldB n len = true) : ndB (restOf n) ⟨0, 0, 0, no, ⟨0, 0, false, false⟩, ⟨0, 0, false, false⟩, 0⟩ = true := by
  unfold toldB at h; simp only [Bool.and_eq_true] at h; exact h.2
theorem told_not {n : Nd} {len : Nat} (h : ndB (restOf n) ⟨0, 0, 0, no, ⟨0, 0, false, false⟩, ⟨0, 0, false, false⟩, 0⟩ = false) : toldB n len = false := by
  unfold toldB; rw [h, Bool.and_false]
/-- What is left is nothing, field by field. -/
theorem ndB_parts {a b : Nd} (h : ndB a b = true) : a.op = b.op ∧ a.num = b.num ∧ a.text = b.text ∧ a.ref.row = b.ref.row ∧ a.to.pc = b.to.pc := by
  unfold ndB rfB at h; simp only [Bool.and_eq_true, decide_eq_true_eq] at h
  obtain ⟨⟨⟨⟨⟨⟨_, h1⟩, h2⟩, ⟨⟨⟨h3, _⟩, _⟩, _⟩⟩, ⟨_, h4⟩⟩, _⟩, h5⟩ := h
  exact ⟨h1, h2, h5, h3, h4⟩
theorem ndB_op {a b : Nd} (h : a.op ≠ b.op) : ndB a b = false := Bool.eq_false_iff.2 fun e => h (ndB_parts e).1
theorem ndB_num {a b : Nd} (h : a.num ≠ b.num) : ndB a b = false := Bool.eq_false_iff.2 fun e => h (ndB_parts e).2.1
theorem ndB_text {a b : Nd} (h : a.text ≠ b.text) : ndB a b = false := Bool.eq_false_iff.2 fun e => h (ndB_parts e).2.2.1
theorem ndB_row {a b : Nd} (h : a.ref.row ≠ b.ref.row) : ndB a b = false := Bool.eq_false_iff.2 fun e => h (ndB_parts e).2.2.2.1
theorem ndB_pin {a b : Nd} (h : a.to.pc ≠ b.to.pc) : ndB a b = false := Bool.eq_false_iff.2 fun e => h (ndB_parts e).2.2.2.2
theorem rest_op {n : Nd} (h7 : n.kind ≠ 7) (h8 : n.kind ≠ 8) : (restOf n).op = n.op := by
  unfold restOf; simp only [h7, h8, or_self, if_false]; repeat' split
  all_goals rfl
theorem rest_num {n : Nd} (h1 : n.kind ≠ 1) (h3 : n.kind ≠ 3) (h4 : n.kind ≠ 4) : (restOf n).num = n.num := by
  unfold restOf; simp only [h1, h3, h4, or_self, if_false]; repeat' split
  all_goals rfl
theorem rest_text {n : Nd} (h2 : n.kind ≠ 2) : (restOf n).text = n.text := by
  unfold restOf; simp only [h2, if_false]; repeat' split
  all_goals rfl
theorem rest_row {n : Nd} (h5 : n.kind ≠ 5) (h6 : n.kind ≠ 6) : (restOf n).ref = n.ref := by
  unfold restOf; simp only [h5, h6, if_false]; repeat' split
  all_goals rfl
theorem rest_to {n : Nd} (h6 : n.kind ≠ 6) : (restOf n).to = n.to := by
  unfold restOf; simp only [h6, if_false]; repeat' split
  all_goals rfl
/-- One field more: not told any more. -/
theorem turn_op {nd : Nd} {len : Nat} {n : Int} (h : toldB nd len = true) (h7 : nd.kind ≠ 7) (h8 : nd.kind ≠ 8) (hn : wrap64 (nd.op + n) ≠ nd.op) (len' : Nat) : toldB { nd with op := wrap64 (nd.op + n) } len' = false := by
  have := (ndB_parts (told_rest h)).1
  rw [rest_op h7 h8] at this
  refine told_not (ndB_op ?_)
  rw [rest_op (n := { nd with op := wrap64 (nd.op + n) }) h7 h8]
  intro e; exact hn (e.trans this.symm)
theorem turn_num {nd : Nd} {len : Nat} {n : Int} (h : toldB nd len = true) (h1 : nd.kind ≠ 1) (h3 : nd.kind ≠ 3) (h4 : nd.kind ≠ 4) (hn : wrap64 (nd.num + n) ≠ nd.num) (len' : Nat) : toldB { nd with num := wrap64 (nd.num + n) } len' = false := by
  have := (ndB_parts (told_rest h)).2.1
  rw [rest_num h1 h3 h4] at this
  refine told_not (ndB_num ?_)
  rw [rest_num (n := { nd with num := wrap64 (nd.num + n) }) h1 h3 h4]
  intro e; exact hn (e.trans this.symm)
theorem turn_text {nd : Nd} {len : Nat} {x : ByteArray} (h : toldB nd len = true) (h2 : nd.kind ≠ 2) (hn : x ≠ nd.text) (len' : Nat) : toldB { nd with text := x } len' = false := by
  have := (ndB_parts (told_rest h)).2.2.1
  rw [rest_text h2] at this
  refine told_not (ndB_text ?_)
  rw [rest_text (n := { nd with text := x }) h2]
  intro e; exact hn (e.trans this.symm)
theorem turn_row {nd : Nd} {len : Nat} {n : Int} (h : toldB nd len = true) (h5 : nd.kind ≠ 5) (h6 : nd.kind ≠ 6) (hn : wrap64 (nd.ref.row + n) ≠ nd.ref.row) (len' : Nat) : toldB { nd with ref := { nd.ref with row := wrap64 (nd.ref.row + n) } } len' = false := by
  have := (ndB_parts (told_rest h)).2.2.2.1
  rw [rest_row h5 h6] at this
  refine told_not (ndB_row ?_)
  rw [rest_row (n := { nd with ref := { nd.ref with row := wrap64 (nd.ref.row + n) } }) h5 h6]
  intro e; exact hn (e.trans this.symm)
theorem turn_pin {nd : Nd} {len : Nat} (h : toldB nd len = true) (h6 : nd.kind ≠ 6) (len' : Nat) : toldB { nd with to := { nd.to with pc := !nd.to.pc } } len' = false := by
  have := (ndB_parts (told_rest h)).2.2.2.2
  rw [rest_to h6] at this
  refine told_not (ndB_pin ?_)
  rw [rest_to (n := { nd with to := { nd.to with pc := !nd.to.pc } }) h6]
  intro e
  have e' : (!nd.to.pc) = false := e
  have t' : nd.to.pc = false := this
  rw [t'] at e'; cases e'
/-- A kid that may not be. -/
def nd77 : Nd := ⟨77, 0, 0, no, ⟨0, 0, false, false⟩, ⟨0, 0, false, false⟩, 0⟩
theorem allL_snoc : ∀ (ks : List Ex), allL (ks ++ [.mk nd77 []]) = false
  | [] => by rw [List.nil_append, allL, allE]; rfl
  | k :: r => by rw [List.cons_append, allL, allL_snoc r, Bool.and_false]
theorem turn_kid (nd : Nd) (ks : List Ex) : allE (.mk nd (ks ++ [.mk nd77 []])) = false := by rw [allE, allL_snoc, Bool.and_false]
/-- The text of a tree that may be is short. -/
theorem told_text {nd : Nd} {ks : List Ex} (hf : fitB (.mk nd ks) = true) (h : toldB nd ks.length = true) : nd.text.size ≤ 16384 := by
  by_cases h2 : nd.kind = 2
  · unfold fitB at hf
    have := (of_decide_eq_true hf).2.2
    rw [bytesE, if_pos h2] at this
    omega
  · have := (ndB_parts (told_rest h)).2.2.1
    rw [rest_text h2] at this
    rw [this]; exact Nat.zero_le _
/-- Another node above the same list of one's own. -/
theorem Ow.other {w : World} {nd nd' : Nd} {s : Value} {ks : List Ex} {bs : List Nat} (h : Ow w (exV nd s) (.mk nd ks) bs) : Ow w (exV nd' s) (.mk nd' ks) bs := by
  obtain ⟨a, len, cap, he, hl, hr⟩ := h.un
  have hs : s = .slice a len cap := by
    have : exC nd s = exC nd (.slice a len cap) := by unfold exV at he; exact Value.agg.inj he
    have := congrArg (fun c => c[13]?) this
    simpa [exC] using this
  subst hs
  unfold Ow
  exact ⟨a, len, cap, rfl, hl, hr⟩
end Go.Proofs.Ytdegfmebgllklaa
