/- Plain facts on texts of digits: which texts are a number's one form, and which number; no Go in sight. -/
import Derived.WalkKit
import Derived.Lib.Strings
import Derived.Lib.ItoaNum
namespace Go.Proofs.YtnfoknifofglbaaDoor
open Go.RowKit

theorem hide {p : Prop} (h : p) : Hid p := h

def dig (c : UInt8) : Bool := decide (48 ≤ c.toNat) && decide (c.toNat ≤ 57)
def dgs (l : List UInt8) : Bool := l.all dig
def numL : List UInt8 → Bool
  | [] => false
  | c :: r => c != 48 && dgs (c :: r)
def unsig : List UInt8 → List UInt8
  | [] => []
  | c :: r => if c = 45 then r else c :: r
/-- The text is the one form of some number. -/
def formL (l : List UInt8) : Bool := l == [48] || numL (unsig l)
def formB (s : ByteArray) : Bool := formL s.data.toList
/-- The number of a row of digits. -/
def val (l : List UInt8) : Nat := l.foldl (fun a c => a * 10 + (c.toNat - 48)) 0

theorem toList_cons (s : ByteArray) (h : 0 < s.size) : ∃ r, s.data.toList = s[0] :: r := by
  obtain ⟨⟨l⟩⟩ := s
  cases l with
  | nil => simp [ByteArray.size] at h
  | cons c r => exact ⟨r, rfl⟩
theorem toList_nil (s : ByteArray) (h : ¬ 0 < s.size) : s.data.toList = [] := by
  have := Lib.size_eq s
  exact List.eq_nil_of_length_eq_zero (by omega)
theorem toList_ne (s : ByteArray) (h : 0 < s.size) : ¬ s.toList = [] := by
  rw [ByteArray.toList_eq]
  obtain ⟨r, hr⟩ := toList_cons s h
  rw [hr]; simp
theorem isEmpty_ne (s : ByteArray) (h : 0 < s.size) : s.toList.isEmpty = false := by
  rw [List.isEmpty_eq_false_iff]; exact toList_ne s h
theorem take_snoc (s : ByteArray) (k : Nat) (h : k < s.size) : s.data.toList.take (k + 1) = s.data.toList.take k ++ [s[k]] := by
  rw [List.take_succ_eq_append_getElem (by simpa using h)]; rfl
theorem dgs_snoc (l : List UInt8) (c : UInt8) : dgs (l ++ [c]) = (dgs l && dig c) := by simp [dgs]
theorem dgs_all (l : List UInt8) (k : Nat) (h : dgs l = true) : dgs (l.take k) = true := by
  unfold dgs at *
  rw [List.all_eq_true] at *
  exact fun x hx => h x (List.mem_of_mem_take hx)
theorem dgs_at (s : ByteArray) (k : Nat) (h : k < s.size) (hd : dgs s.data.toList = true) : 48 ≤ s[k].toNat ∧ s[k].toNat ≤ 57 := by
  unfold dgs at hd
  rw [List.all_eq_true] at hd
  have := hd s[k] (by rw [show s[k] = s.data.toList[k]'(by simpa using h) from rfl]; exact List.getElem_mem _)
  simpa [dig] using this
theorem val_snoc (l : List UInt8) (c : UInt8) : val (l ++ [c]) = val l * 10 + (c.toNat - 48) := by simp [val]
theorem val_go (l : List UInt8) (a : Nat) : a ≤ l.foldl (fun a c => a * 10 + (c.toNat - 48)) a := by
  induction l generalizing a with
  | nil => exact Nat.le_refl _
  | cons c r ih => exact Nat.le_trans (by omega) (ih (a * 10 + (c.toNat - 48)))
theorem val_take (l : List UInt8) (k : Nat) : val (l.take k) ≤ val l := by
  conv => rhs; rw [← List.take_append_drop k l]
  unfold val
  rw [List.foldl_append]
  exact val_go _ _
theorem take_all (s : ByteArray) (k : Nat) (h : s.size ≤ k) : s.data.toList.take k = s.data.toList :=
  List.take_of_length_le (by have := Lib.size_eq s; omega)

theorem eq_48 (c : UInt8) : ((c.toNat : Int) == 48) = (c == 48) := by
  rw [Bool.eq_iff_iff, beq_iff_eq, beq_iff_eq, ← UInt8.toNat_inj]; simp; omega
theorem eq_45 (c : UInt8) : ((c.toNat : Int) == 45) = (c == 45) := by
  rw [Bool.eq_iff_iff, beq_iff_eq, beq_iff_eq, ← UInt8.toNat_inj]; simp; omega

/-- Without a sign. -/
theorem form_bare (s : ByteArray) (h : 0 < s.size) (h0 : (s.toList == [48]) = false) (h1 : ((s[0].toNat : Int) == 45) = false) (h2 : ((s[0].toNat : Int) == 48) = false) : formB s = dgs s.data.toList := by
  rw [eq_45] at h1; rw [eq_48] at h2; rw [ByteArray.toList_eq] at h0
  obtain ⟨r, hr⟩ := toList_cons s h
  unfold formB formL
  rw [h0, hr]
  have e1 : ¬ s[0] = 45 := by simpa using h1
  have e2 : (s[0] != 48) = true := by rw [bne, h2]; rfl
  simp only [unsig, if_neg e1, numL, e2, Bool.true_and, Bool.false_or]
/-- With a sign: t is what is behind it. -/
theorem form_sign (s t : ByteArray) (h : 0 < s.size) (ht : s.extract 1 s.size = t) (h1 : ((s[0].toNat : Int) == 45) = true) : formB s = numL t.data.toList := by
  rw [eq_45] at h1
  obtain ⟨r, hr⟩ := toList_cons s h
  have e1 : s[0] = 45 := by simpa using h1
  have e2 : t.data.toList = r := by
    rw [← ht, Lib.extract_data, hr, List.drop_one, List.tail_cons]
    exact List.take_of_length_le (by have := Lib.size_eq s; rw [hr] at this; simp at this; omega)
  unfold formB formL
  rw [hr, e1, e2]
  simp [unsig]
theorem num_nil (t : ByteArray) (h : ¬ 0 < t.size) : numL t.data.toList = false := by rw [toList_nil t h]; rfl
theorem num_zero (t : ByteArray) (h : 0 < t.size) (h2 : ((t[0].toNat : Int) == 48) = true) : numL t.data.toList = false := by
  rw [eq_48] at h2
  obtain ⟨r, hr⟩ := toList_cons t h
  have e2 : t[0] = 48 := by simpa using h2
  rw [hr, e2]; rfl
theorem num_else (t : ByteArray) (h : 0 < t.size) (h2 : ((t[0].toNat : Int) == 48) = false) : numL t.data.toList = dgs t.data.toList := by
  rw [eq_48] at h2
  obtain ⟨r, hr⟩ := toList_cons t h
  rw [hr]
  have e2 : (t[0] != 48) = true := by rw [bne, h2]; rfl
  simp only [numL, e2, Bool.true_and]
theorem form_zero (s : ByteArray) (h0 : (s.toList == [48]) = true) : formB s = true := by
  rw [ByteArray.toList_eq] at h0
  unfold formB formL; rw [h0]; rfl
theorem form_nil (s : ByteArray) (h : ¬ 0 < s.size) : formB s = false := by unfold formB; rw [toList_nil s h]; rfl
theorem form_lead (s : ByteArray) (h : 0 < s.size) (h0 : (s.toList == [48]) = false) (h2 : ((s[0].toNat : Int) == 48) = true) : formB s = false := by
  rw [eq_48] at h2; rw [ByteArray.toList_eq] at h0
  obtain ⟨r, hr⟩ := toList_cons s h
  have e2 : s[0] = 48 := by simpa using h2
  unfold formB formL
  rw [h0, hr, e2]; rfl
end Go.Proofs.YtnfoknifofglbaaDoor
