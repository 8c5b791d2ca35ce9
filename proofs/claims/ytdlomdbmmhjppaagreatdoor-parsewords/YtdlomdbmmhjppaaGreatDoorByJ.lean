/- Plain facts on texts of digits: which texts are a number's one form, and which number; no Go in sight. Plain facts: a number's decimal numeral is in its one form and is read as that number; a text in its one form is the numeral of the number that it is read as; no Go in sight. -/
import Derived.WalkKit
import Derived.Lib.Strings
import Derived.Lib.ItoaNum
import Derived.Lib.ItoaMem
namespace Go.Proofs.YtdlomdbmmhjppaaGreatDoor
open Go.RowKit

theorem hide {p : Prop} (h : p) : Hid p := h

def dig (c : UInt8) : Bool := decide (48 ≤ c.toNat) && decide (c.toNat ≤ 57)
def dgs (l : List UInt8) : Bool := l.all dig
def numL : List UInt8 → Bool
  | [] => false
  | c :: r => c != 48 && dgs (c :: r)
def unsig : List UInt8 → List UInt8
  | [] => []
  | c :: r => if c = 45 then r else c :: r
/-- The text is the one form of some number. -/
def formL (l : List UInt8) : Bool := l == [48] || numL (unsig l)
def formB (s : ByteArray) : Bool := formL s.data.toList
/-- The number of a row of digits. -/
def val (l : List UInt8) : Nat := l.foldl (fun a c => a * 10 + (c.toNat - 48)) 0

theorem toList_cons (s : ByteArray) (h : 0 < s.size) : ∃ r, s.data.toList = s[0] :: r := by
  obtain ⟨⟨l⟩⟩ := s
  cases l with
  | nil => simp [ByteArray.size] at h
  | cons c r => exact ⟨r, rfl⟩
theorem toList_nil (s : ByteArray) (h : ¬ 0 < s.size) : s.data.toList = [] := by
  have := Lib.size_eq s
  exact List.eq_nil_of_length_eq_zero (by omega)
theorem toList_ne (s : ByteArray) (h : 0 < s.size) : ¬ s.toList = [] := by
  rw [ByteArray.toList_eq]
  obtain ⟨r, hr⟩ := toList_cons s h
  rw [hr]; simp
theorem isEmpty_ne (s : ByteArray) (h : 0 < s.size) : s.toList.isEmpty = false := by
  rw [List.isEmpty_eq_false_iff]; exact toList_ne s h
theorem take_snoc (s : ByteArray) (k : Nat) (h : k < s.size) : s.data.toList.take (k + 1) = s.data.toList.take k ++ [s[k]] := by
  rw [List.take_succ_eq_append_getElem (by simpa using h)]; rfl
theorem dgs_snoc (l : List UInt8) (c : UInt8) : dgs (l ++ [c]) = (dgs l && dig c) := by simp [dgs]
theorem dgs_all (l : List UInt8) (k : Nat) (h : dgs l = true) : dgs (l.take k) = true := by
  unfold dgs at *
  rw [List.all_eq_true] at *
  exact fun x hx => h x (List.mem_of_mem_take hx)
theorem dgs_at (s : ByteArray) (k : Nat) (h : k < s.size) (hd : dgs s.data.toList = true) : 48 ≤ s[k].toNat ∧ s[k].toNat ≤ 57 := by
  unfold dgs at hd
  rw [List.all_eq_true] at hd
  have := hd s[k] (by rw [show s[k] = s.data.toList[k]'(by simpa using h) from rfl]; exact List.getElem_mem _)
  simpa [dig] using this
theorem val_snoc (l : List UInt8) (c : UInt8) : val (l ++ [c]) = val l * 10 + (c.toNat - 48) := by simp [val]
theorem val_go (l : List UInt8) (a : Nat) : a ≤ l.foldl (fun a c => a * 10 + (c.toNat - 48)) a := by
  induction l generalizing a with
  | nil => exact Nat.le_refl _
  | cons c r ih => exact Nat.le_trans (by omega) (ih (a * 10 + (c.toNat - 48)))
theorem val_take (l : List UInt8) (k : Nat) : val (l.take k) ≤ val l := by
  conv => rhs; rw [← List.take_append_drop k l]
  unfold val
  rw [List.foldl_append]
  exact val_go _ _
theorem take_all (s : ByteArray) (k : Nat) (h : s.size ≤ k) : s.data.toList.take k = s.data.toList :=
  List.take_of_length_le (by have := Lib.size_eq s; omega)

theorem eq_48 (c : UInt8) : ((c.toNat : Int) == 48) = (c == 48) := by
  rw [Bool.eq_iff_iff, beq_iff_eq, beq_iff_eq, ← UInt8.toNat_inj]; simp; omega
theorem eq_45 (c : UInt8) : ((c.toNat : Int) == 45) = (c == 45) := by
  rw [Bool.eq_iff_iff, beq_iff_eq, beq_iff_eq, ← UInt8.toNat_inj]; simp; omega

/-- Without a sign. -/
theorem form_bare (s : ByteArray) (h : 0 < s.size) (h0 : (s.toList == [48]) = false) (h1 : ((s[0].toNat : Int) == 45) = false) (h2 : ((s[0].toNat : Int) == 48) = false) : formB s = dgs s.data.toList := by
  rw [eq_45] at h1; rw [eq_48] at h2; rw [ByteArray.toList_eq] at h0
  obtain ⟨r, hr⟩ := toList_cons s h
  unfold formB formL
  rw [h0, hr]
  have e1 : ¬ s[0] = 45 := by simpa using h1
  have e2 : (s[0] != 48) = true := by rw [bne, h2]; rfl
  simp only [unsig, if_neg e1, numL, e2, Bool.true_and, Bool.false_or]
/-- With a sign: t is what is behind it. -/
theorem form_sign (s t : ByteArray) (h : 0 < s.size) (ht : s.extract 1 s.size = t) (h1 : ((s[0].toNat : Int) == 45) = true) : formB s = numL t.data.toList := by
  rw [eq_45] at h1
  obtain ⟨r, hr⟩ := toList_cons s h
  have e1 : s[0] = 45 := by simpa using h1
  have e2 : t.data.toList = r := by
    rw [← ht, Lib.extract_data, hr, List.drop_one, List.tail_cons]
    exact List.take_of_length_le (by have := Lib.size_eq s; rw [hr] at this; simp at this; omega)
  unfold formB formL
  rw [hr, e1, e2]
  simp [unsig]
theorem num_nil (t : ByteArray) (h : ¬ 0 < t.size) : numL t.data.toList = false := by rw [toList_nil t h]; rfl
theorem num_zero (t : ByteArray) (h : 0 < t.size) (h2 : ((t[0].toNat : Int) == 48) = true) : numL t.data.toList = false := by
  rw [eq_48] at h2
  obtain ⟨r, hr⟩ := toList_cons t h
  have e2 : t[0] = 48 := by simpa using h2
  rw [hr, e2]; rfl
theorem num_else (t : ByteArray) (h : 0 < t.size) (h2 : ((t[0].toNat : Int) == 48) = false) : numL t.data.toList = dgs t.data.toList := by
  rw [eq_48] at h2
  obtain ⟨r, hr⟩ := toList_cons t h
  rw [hr]
  have e2 : (t[0] != 48) = true := by rw [bne, h2]; rfl
  simp only [numL, e2, Bool.true_and]
theorem form_zero (s : ByteArray) (h0 : (s.toList == [48]) = true) : formB s = true := by
  rw [ByteArray.toList_eq] at h0
  unfold formB formL; rw [h0]; rfl
theorem form_nil (s : ByteArray) (h : ¬ 0 < s.size) : formB s = false := by unfold formB; rw [toList_nil s h]; rfl
theorem form_lead (s : ByteArray) (h : 0 < s.size) (h0 : (s.toList == [48]) = false) (h2 : ((s[0].toNat : Int) == 48) = true) : formB s = false := by
  rw [eq_48] at h2; rw [ByteArray.toList_eq] at h0
  obtain ⟨r, hr⟩ := toList_cons s h
  have e2 : s[0] = 48 := by simpa using h2
  unfold formB formL
  rw [h0, hr, e2]; rfl
end Go.Proofs.YtdlomdbmmhjppaaGreatDoor
namespace Go.Proofs.YtdlomdbmmhjppaaGreatDoor
open Go.RowKit

theorem digit_of (d : Nat) (h : d < 10) : (UInt8.ofNat (48 + d)).toNat = 48 + d := by
  rw [UInt8.toNat_ofNat']; omega
theorem dec_small {u : Nat} (h : u < 10) : Lib.decDigits u = [UInt8.ofNat (48 + u)] := Lib.decDigits_one h
theorem dec_big {u : Nat} (h : ¬ u < 10) : Lib.decDigits u = Lib.decDigits (u / 10) ++ [UInt8.ofNat (48 + u % 10)] := by
  rw [Lib.decDigits, dif_neg h]
theorem val_dec (u : Nat) : val (Lib.decDigits u) = u := by
  induction u using Nat.strongRecOn with
  | ind u ih =>
    by_cases h : u < 10
    · rw [dec_small h]; simp only [val, List.foldl_cons, List.foldl_nil, digit_of u h]; omega
    · rw [dec_big h, val_snoc, ih (u / 10) (by omega), digit_of _ (by omega)]; omega
theorem dgs_dec (u : Nat) : dgs (Lib.decDigits u) = true := by
  induction u using Nat.strongRecOn with
  | ind u ih =>
    by_cases h : u < 10
    · rw [dec_small h]; simp only [dgs, dig, List.all_cons, List.all_nil, digit_of u h, Bool.and_true, Bool.and_eq_true, decide_eq_true_eq]; omega
    · rw [dec_big h, dgs_snoc, ih (u / 10) (by omega)]; simp only [dig, digit_of _ (show u % 10 < 10 by omega), Bool.true_and, Bool.and_eq_true, decide_eq_true_eq]; omega
theorem dec_lead (u : Nat) (h1 : 1 ≤ u) : ∃ c r, Lib.decDigits u = c :: r ∧ c ≠ 48 := by
  induction u using Nat.strongRecOn with
  | ind u ih =>
    by_cases h : u < 10
    · refine ⟨_, _, dec_small h, fun e => ?_⟩
      have := congrArg UInt8.toNat e
      rw [digit_of u h] at this
      simp at this; omega
    · obtain ⟨c, r, hr, hc⟩ := ih (u / 10) (by omega) (by omega)
      exact ⟨c, r ++ [_], by rw [dec_big h, hr]; rfl, hc⟩
theorem num_dec (u : Nat) (h1 : 1 ≤ u) : numL (Lib.decDigits u) = true := by
  have hd := dgs_dec u
  obtain ⟨c, r, hr, hc⟩ := dec_lead u h1
  rw [hr] at hd ⊢
  simp only [numL, hd, Bool.and_true]
  rw [bne_iff_ne]; exact hc
theorem dec_len (k u : Nat) (h : u < 10 ^ (k + 1)) : (Lib.decDigits u).length ≤ k + 1 := by
  induction k generalizing u with
  | zero => rw [dec_small (by omega)]; simp
  | succ k ih =>
    by_cases h' : u < 10
    · rw [dec_small h']; simp
    · rw [dec_big h', List.length_append]
      have := ih (u / 10) (by rw [Nat.pow_succ] at h; omega)
      simp; omega
theorem dec_pos (u : Nat) : 1 ≤ (Lib.decDigits u).length := by
  by_cases h : u < 10
  · rw [dec_small h]; simp
  · rw [dec_big h]; simp
theorem val_lt (l : List UInt8) (h : dgs l = true) : val l < 10 ^ l.length := by
  induction hn : l.length generalizing l with
  | zero => rw [List.eq_nil_of_length_eq_zero hn]; simp [val]
  | succ n ih =>
    have hne : l ≠ [] := by rintro rfl; simp at hn
    obtain ⟨i, c, rfl⟩ : ∃ i c, l = i ++ [c] := ⟨l.dropLast, l.getLast hne, (List.dropLast_concat_getLast hne).symm⟩
    rw [dgs_snoc, Bool.and_eq_true] at h
    have hc := h.2
    simp [dig] at hc
    have := ih i h.1 (by simp at hn; exact hn)
    rw [val_snoc, Nat.pow_succ]; omega
theorem dec_val (l : List UInt8) (h : numL l = true) : Lib.decDigits (val l) = l ∧ 1 ≤ val l := by
  induction hn : l.length generalizing l with
  | zero => rw [List.eq_nil_of_length_eq_zero hn] at h; cases h
  | succ n ih =>
    have hne : l ≠ [] := by rintro rfl; simp at hn
    obtain ⟨i, c, rfl⟩ : ∃ i c, l = i ++ [c] := ⟨l.dropLast, l.getLast hne, (List.dropLast_concat_getLast hne).symm⟩
    cases i with
    | nil =>
      simp [numL, dgs, dig] at h
      obtain ⟨h0, h1, h2⟩ := h
      have h48 : c.toNat ≠ 48 := fun e => h0 (UInt8.toNat_inj.1 e)
      have e : val ([] ++ [c]) = c.toNat - 48 := by simp [val]
      rw [e, dec_small (by omega)]
      refine ⟨congrArg (fun x => [x]) ?_, by omega⟩
      apply UInt8.toNat_inj.1
      rw [digit_of _ (by omega)]; omega
    | cons d r =>
      have hi : numL (d :: r) = true := by
        simp only [List.cons_append, numL, Bool.and_eq_true] at h ⊢
        refine ⟨h.1, ?_⟩
        have := h.2
        rw [← List.cons_append, dgs_snoc, Bool.and_eq_true] at this
        exact this.1
      have hc : dig c = true := by
        simp only [List.cons_append, numL, Bool.and_eq_true] at h
        have := h.2
        rw [← List.cons_append, dgs_snoc, Bool.and_eq_true] at this
        exact this.2
      simp [dig] at hc
      obtain ⟨e1, e2⟩ := ih (d :: r) hi (by simp at hn ⊢; exact hn)
      rw [val_snoc]
      refine ⟨?_, by omega⟩
      rw [dec_big (by omega), show (val (d :: r) * 10 + (c.toNat - 48)) / 10 = val (d :: r) by omega, show (val (d :: r) * 10 + (c.toNat - 48)) % 10 = c.toNat - 48 by omega, e1]
      congr 2
      apply UInt8.toNat_inj.1
      rw [digit_of _ (by omega)]; omega

/-- The numeral as a text. -/
def numeral (n : Int) : ByteArray := ⟨(Lib.itoa n).toArray⟩
theorem numeral_data (n : Int) : (numeral n).data.toList = Lib.itoa n := by simp [numeral]
theorem numeral_size (n : Int) : (numeral n).size = (Lib.itoa n).length := by rw [Lib.size_eq, numeral_data]
theorem itoa_pos (u : Nat) : Lib.itoa (u : Int) = Lib.decDigits u := Lib.itoa_nonneg u
theorem itoa_neg (u : Nat) (h : 1 ≤ u) : Lib.itoa (-(u : Int)) = 45 :: Lib.decDigits u := Lib.itoa_neg u h
theorem numeral_len (n : Int) (h0 : -9223372036854775808 ≤ n) (h1 : n ≤ 9223372036854775807) : 1 ≤ (numeral n).size ∧ (numeral n).size ≤ 20 := by
  rw [numeral_size]
  by_cases hn : n < 0
  · obtain ⟨u, rfl⟩ : ∃ u : Nat, n = -(u : Int) := ⟨n.natAbs, by omega⟩
    rw [itoa_neg u (by omega)]
    have := dec_len 18 u (by omega)
    simp; omega
  · obtain ⟨u, rfl⟩ : ∃ u : Nat, n = (u : Int) := ⟨n.toNat, by omega⟩
    rw [itoa_pos]
    have := dec_len 18 u (by omega)
    have := dec_pos u
    omega
theorem form_pos (u : Nat) : formL (Lib.decDigits u) = true := by
  by_cases h : u = 0
  · subst h; rw [dec_small (by omega)]; rfl
  · obtain ⟨c, r, hr, hc⟩ := dec_lead u (by omega)
    have hn := num_dec u (by omega)
    have hd := dgs_dec u
    rw [hr] at hn hd ⊢
    have h45 : ¬ c = 45 := by
      rintro rfl
      simp [dgs, dig] at hd
    have e : unsig (c :: r) = c :: r := if_neg h45
    unfold formL
    rw [e, hn]; simp
theorem form_neg (u : Nat) (h : 1 ≤ u) : formL (45 :: Lib.decDigits u) = true := by
  have e : unsig (45 :: Lib.decDigits u) = Lib.decDigits u := by simp [unsig]
  unfold formL
  rw [e, num_dec u h]; simp
end Go.Proofs.YtdlomdbmmhjppaaGreatDoor
