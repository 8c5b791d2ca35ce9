/- AND, OR, XOR over a column of truths: mathematics. -/
import Derived.Test.YtchphbclaapfhaaGreatDoorJud15
import Derived.Test.YtchphbclaapfhaaGreatDoorColM15
namespace Go.Proofs.YtchphbclaapfhaaGreatDoor
open Go.RowKit Go.Sort
open T9 (Blk Chg)
set_option linter.unusedVariables false
set_option linter.unusedSimpArgs false

/-- The first place of a truth, or how many there are. -/
def firstI (d : Bool) : List Bool → Nat
  | [] => 0
  | b :: r => if b = d then 0 else firstI d r + 1
theorem firstI_le (d : Bool) : ∀ l, firstI d l ≤ l.length
  | [] => Nat.le_refl _
  | b :: r => by
    rw [firstI]
    split
    · exact Nat.zero_le _
    · simp only [List.length_cons]; have := firstI_le d r; omega
theorem firstI_at (d : Bool) : ∀ (l : List Bool) (i : Nat) (h : i < l.length), l[i] = d → firstI d l ≤ i
  | [], i, h, _ => by simp at h
  | b :: r, 0, h, e => by rw [firstI, if_pos (by simpa using e)]; exact Nat.le_refl _
  | b :: r, i + 1, h, e => by
    rw [firstI]
    split
    · exact Nat.zero_le _
    · have := firstI_at d r i (by simpa using h) (by simpa using e); omega
theorem firstI_ne (d : Bool) : ∀ (l : List Bool) (i : Nat) (h : i < l.length), l[i] ≠ d → firstI d l ≠ i
  | [], i, h, _ => by simp at h
  | b :: r, 0, h, e => by rw [firstI, if_neg (by simpa using e)]; omega
  | b :: r, i + 1, h, e => by
    rw [firstI]
    split
    · omega
    · have := firstI_ne d r i (by simpa using h) (by simpa using e); omega
/-- What the law has found up to a place. -/
def upI (d : Bool) (l : List Bool) (i : Nat) : Nat := if firstI d l < i then firstI d l else l.length
theorem upI_zero (d : Bool) (l : List Bool) : upI d l 0 = l.length := by unfold upI; rw [if_neg (by omega)]
theorem upI_le (d : Bool) (l : List Bool) (i : Nat) : upI d l i ≤ l.length := by unfold upI; have := firstI_le d l; split <;> omega
theorem upI_yes (d : Bool) (l : List Bool) (i : Nat) (h : i < l.length) (e : l[i] = d) : upI d l (i + 1) = min (upI d l i) i := by
  have := firstI_at d l i h e
  unfold upI
  split <;> split <;> omega
theorem upI_no (d : Bool) (l : List Bool) (i : Nat) (h : i < l.length) (e : l[i] ≠ d) : upI d l (i + 1) = upI d l i := by
  have := firstI_ne d l i h e
  unfold upI
  split <;> split <;> omega
theorem upI_end (d : Bool) (l : List Bool) : upI d l l.length = firstI d l := by
  have := firstI_le d l
  unfold upI
  split <;> omega
/-- The parity up to a place. -/
def par : List Bool → Bool
  | [] => false
  | b :: r => b != par r
theorem par_app : ∀ (l m : List Bool), par (l ++ m) = (par l != par m)
  | [], m => by simp [par]
  | b :: r, m => by rw [List.cons_append, par, par, par_app r m]; cases b <;> cases par r <;> cases par m <;> rfl
theorem par_succ (l : List Bool) (i : Nat) (h : i < l.length) : par (l.take (i + 1)) = (par (l.take i) != l[i]) := by
  rw [List.take_succ_eq_append_getElem h, par_app]
  simp [par]
theorem b2i_ne (b : Bool) : (b2i b != 0) = b := by cases b <;> rfl
theorem celB_bV (tr : Va → Bool × Int) (htr : ∀ b, tr (bV b) = (b, 0)) (tk : Bool → Bool → Stp × Bool) (s : Bool × Bool) (b : Bool) : celB tr tk s (bV b) = ((tk s.2 b).1, (true, (tk s.2 b).2)) := by
  unfold celB
  rw [if_neg (show ¬ ((2 : Int) = 0 ∨ (2 : Int) = 3) by decide)]
  unfold givB
  rw [htr b, if_pos rfl]
theorem until_col (tr : Va → Bool × Int) (htr : ∀ b, tr (bV b) = (b, 0)) (d : Bool) : ∀ (bs : List Bool) (so : Bool), (so = true ∨ bs ≠ []) → colR (celB tr untT) (lastB (! ·)) (bs.map bV) (so, d) = (bV (if firstI d bs < bs.length then d else !d), min (firstI d bs + 1) bs.length)
  | [], so, h => by
    have hs : so = true := by rcases h with h | h; exact h; exact absurd rfl h
    subst hs
    rfl
  | b :: r, so, _ => by
    rw [List.map_cons, colR, celB_bV tr htr, firstI]
    unfold untT
    by_cases hb : b = d
    · subst hb
      simp
    · have hb' : ¬ (b = (so, d).2) := hb
      have ih := until_col tr htr d r true (.inl rfl)
      simp only [if_neg hb']
      unfold untT at ih
      rw [ih]
      simp only [List.length_cons]
      refine Prod.ext ?_ ?_
      · simp only [Nat.add_lt_add_iff_right]
      · simp only; omega
theorem xor_col (tr : Va → Bool × Int) (htr : ∀ b, tr (bV b) = (b, 0)) : ∀ (bs : List Bool) (so o : Bool), (so = true ∨ bs ≠ []) → colR (celB tr xorT) (lastB id) (bs.map bV) (so, o) = (bV (o != par bs), bs.length)
  | [], so, o, h => by
    have hs : so = true := by rcases h with h | h; exact h; exact absurd rfl h
    subst hs
    cases o <;> rfl
  | b :: r, so, o, _ => by
    rw [List.map_cons, colR, celB_bV tr htr]
    have ih := xor_col tr htr r true (o != b) (.inl rfl)
    simp only [xorT]
    rw [show colR (celB tr xorT) (lastB id) (r.map bV) (true, (o != b)) = _ from ih]
    simp only [List.length_cons, par]
    cases o <;> cases b <;> cases par r <;> rfl
end Go.Proofs.YtchphbclaapfhaaGreatDoor
