/- When a row of digits is a number above 2^63 - 1; leading zeros; of no program. -/
import Derived.Test.YtcabgnikbgoikaaDoorMach8
namespace Go.Proofs.YtcabgnikbgoikaaDoor
open Go.RowKit
set_option linter.unusedVariables false

def mostL : List UInt8 := [57, 50, 50, 51, 51, 55, 50, 48, 51, 54, 56, 53, 52, 55, 55, 53, 56, 48, 55]
theorem val_from (l : List UInt8) (a : Nat) : l.foldl (fun a c => a * 10 + (c.toNat - 48)) a = a * 10 ^ l.length + val l := by
  induction l generalizing a with
  | nil => simp [val]
  | cons c r ih =>
    unfold val
    rw [List.foldl_cons, List.foldl_cons, ih, ih (0 * 10 + (c.toNat - 48)), List.length_cons, Nat.pow_succ, Nat.zero_mul, Nat.zero_add, Nat.add_mul, ← Nat.add_assoc]
    congr 2
    rw [Nat.mul_assoc, Nat.mul_comm 10]
theorem val_cons (c : UInt8) (r : List UInt8) : val (c :: r) = (c.toNat - 48) * 10 ^ r.length + val r := by
  have := val_from r (0 * 10 + (c.toNat - 48))
  unfold val at *
  rw [List.foldl_cons, this]; simp
theorem dgs_cons {c : UInt8} {r : List UInt8} (h : dgs (c :: r) = true) : (48 ≤ c.toNat ∧ c.toNat ≤ 57) ∧ dgs r = true := by
  unfold dgs at *
  rw [List.all_cons, Bool.and_eq_true] at h
  refine ⟨?_, h.2⟩
  have := h.1
  simpa [dig] using this
/-- Rows of digits of one length are in order as their numbers are. -/
theorem less_val : ∀ (a b : List UInt8), a.length = b.length → dgs a = true → dgs b = true → (Op.bytesLess a b = true ↔ val a < val b)
  | [], [], _, _, _ => by simp [Op.bytesLess, val]
  | [], _ :: _, h, _, _ => by simp at h
  | _ :: _, [], h, _, _ => by simp at h
  | c :: a, d :: b, h, ha, hb => by
    have hl : a.length = b.length := by simpa using h
    obtain ⟨⟨c1, c2⟩, ha'⟩ := dgs_cons ha
    obtain ⟨⟨d1, d2⟩, hb'⟩ := dgs_cons hb
    have ih := less_val a b hl ha' hb'
    have va := val_lt a ha'
    have vb := val_lt b hb'
    rw [val_cons, val_cons, hl]
    rw [hl] at va
    unfold Op.bytesLess
    rw [Bool.or_eq_true, Bool.and_eq_true, decide_eq_true_eq, beq_iff_eq, ih, UInt8.lt_iff_toNat_lt, ← UInt8.toNat_inj]
    generalize 10 ^ b.length = P at *
    generalize val a = x at *
    generalize val b = y at *
    rcases Nat.lt_trichotomy c.toNat d.toNat with hc | hc | hc
    · constructor
      · intro _
        have : (c.toNat - 48 + 1) * P ≤ (d.toNat - 48) * P := Nat.mul_le_mul_right P (by omega)
        rw [Nat.add_mul] at this
        omega
      · intro _; exact .inl hc
    · rw [hc]; constructor
      · rintro (h1 | ⟨_, h1⟩) <;> omega
      · intro h1; exact .inr ⟨rfl, by omega⟩
    · constructor
      · rintro (h1 | ⟨h1, _⟩) <;> omega
      · intro h1
        exfalso
        have : (d.toNat - 48 + 1) * P ≤ (c.toNat - 48) * P := Nat.mul_le_mul_right P (by omega)
        rw [Nat.add_mul] at this
        omega
theorem val_inj (a b : List UInt8) (hl : a.length = b.length) (ha : dgs a = true) (hb : dgs b = true) (h : val a = val b) : a = b := by
  induction a generalizing b with
  | nil => exact (List.eq_nil_of_length_eq_zero (by simpa using hl.symm)).symm
  | cons c a ih =>
    cases b with
    | nil => simp at hl
    | cons d b =>
      have hl' : a.length = b.length := by simpa using hl
      obtain ⟨⟨c1, c2⟩, ha'⟩ := dgs_cons ha
      obtain ⟨⟨d1, d2⟩, hb'⟩ := dgs_cons hb
      have va := val_lt a ha'
      have vb := val_lt b hb'
      rw [val_cons, val_cons, hl'] at h
      rw [hl'] at va
      have hc : c.toNat = d.toNat := by
        generalize 10 ^ b.length = P at *
        rcases Nat.lt_trichotomy c.toNat d.toNat with hc | hc | hc
        · have : (c.toNat - 48 + 1) * P ≤ (d.toNat - 48) * P := Nat.mul_le_mul_right P (by omega)
          rw [Nat.add_mul] at this
          omega
        · exact hc
        · have : (d.toNat - 48 + 1) * P ≤ (c.toNat - 48) * P := Nat.mul_le_mul_right P (by omega)
          rw [Nat.add_mul] at this
          omega
      rw [UInt8.toNat_inj.1 hc] at h ⊢
      rw [ih b hl' ha' hb' (by omega)]
theorem val_ge {l : List UInt8} (h : numL l = true) : 10 ^ (l.length - 1) ≤ val l := by
  cases l with
  | nil => cases h
  | cons c r =>
    simp only [numL, Bool.and_eq_true, bne_iff_ne, ne_eq] at h
    obtain ⟨⟨c1, c2⟩, _⟩ := dgs_cons h.2
    have hc : c.toNat ≠ 48 := fun e => h.1 (UInt8.toNat_inj.1 e)
    rw [val_cons, List.length_cons, Nat.add_sub_cancel]
    have : 1 * 10 ^ r.length ≤ (c.toNat - 48) * 10 ^ r.length := Nat.mul_le_mul_right _ (by omega)
    omega
theorem most_val : val mostL = 9223372036854775807 := by decide +kernel
theorem most_dgs : dgs mostL = true := by decide +kernel
theorem num_dgs {l : List UInt8} (h : numL l = true) : dgs l = true := by
  cases l with
  | nil => cases h
  | cons c r => simp only [numL, Bool.and_eq_true] at h; exact h.2
/-- Too great by its length and its order. -/
theorem over_len {l : List UInt8} (h : numL l = true ∨ l = [48]) (hl : 19 < l.length) : 9223372036854775807 < val l := by
  rcases h with h | rfl
  · have h1 := val_ge h
    have h2 : 10 ^ 19 ≤ 10 ^ (l.length - 1) := Nat.pow_le_pow_right (by decide) (by omega)
    omega
  · simp at hl
theorem over_not {l : List UInt8} (h : numL l = true ∨ l = [48]) (hl : l.length < 19) : val l ≤ 9223372036854775807 := by
  have hd : dgs l = true := by rcases h with h | rfl; exact num_dgs h; rfl
  have h1 := val_lt l hd
  have h2 : 10 ^ l.length ≤ 10 ^ 18 := Nat.pow_le_pow_right (by decide) (by omega)
  omega
theorem over_same {l : List UInt8} (h : numL l = true ∨ l = [48]) (hl : l.length = 19) : (9223372036854775807 < val l ↔ ¬ (Op.bytesLess l mostL = true) ∧ l ≠ mostL) := by
  have hd : dgs l = true := by rcases h with h | rfl; exact num_dgs h; rfl
  rw [less_val l mostL (by rw [hl]; rfl) hd most_dgs, most_val]
  constructor
  · intro h1
    refine ⟨by omega, ?_⟩
    rintro rfl
    rw [most_val] at h1; omega
  · rintro ⟨h1, h2⟩
    rcases Nat.lt_or_ge 9223372036854775807 (val l) with h3 | h3
    · exact h3
    · exact absurd (val_inj l mostL (by rw [hl]; rfl) hd most_dgs (by rw [most_val]; omega)) h2
theorem trim_zero (r : List UInt8) : trim0 (48 :: r) = trim0 r := by unfold trim0; simp
theorem trim_other {c : UInt8} {r : List UInt8} (h : c ≠ 48) : trim0 (c :: r) = c :: r := by unfold trim0; simp [h]
theorem trim_one (c : UInt8) : trim0 [c] = [c] := by
  by_cases h : c = 48
  · subst h; rfl
  · exact trim_other h
theorem trim_num {r : List UInt8} (h : dgs r = true) : numL (trim0 r) = true ∨ trim0 r = [48] := by
  unfold trim0
  cases hc : r.dropWhile (· == 48) with
  | nil => exact .inr rfl
  | cons c t =>
    left
    have hd : dgs (c :: t) = true := by
      unfold dgs at *
      rw [List.all_eq_true] at *
      exact fun x hx => h x ((List.dropWhile_sublist _).subset (by rw [hc]; exact hx))
    have h48 : (c == 48) = false := by
      have := List.head?_dropWhile_not (· == (48 : UInt8)) r
      rw [hc] at this
      simpa using this
    show numL (c :: t) = true
    simp only [numL, hd, Bool.and_true]
    rw [bne, h48]; rfl
end Go.Proofs.YtcabgnikbgoikaaDoor
