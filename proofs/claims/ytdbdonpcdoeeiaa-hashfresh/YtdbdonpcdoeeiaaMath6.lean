/- A value's bytes, their sum, the lowest bits of a number: of no program. -/
import Derived.Test.YtdbdonpcdoeeiaaRows
import Derived.Laws.BitsAllLaws
import Derived.Below
namespace Go.Proofs.Ytdbdonpcdoeeiaa
open Go.RowKit
set_option linter.unusedVariables false

theorem hide {p : Prop} (h : p) : Hid p := h
abbrev no : ByteArray := { data := #[] }
/-- Is there the value? -/
def Good (k i : Int) (t : ByteArray) : Prop := (k = 0 ∧ i = 0 ∧ t = no) ∨ (k = 1 ∧ t = no) ∨ (k = 2 ∧ (i = 0 ∨ i = 1) ∧ t = no) ∨ (k = 3 ∧ i = 0 ∧ t.size ≤ 32767) ∨ (k = 4 ∧ (1 ≤ i ∧ i ≤ 6) ∧ t = no)
theorem no_of {t : ByteArray} (h : t.size = 0) : t = no := by
  obtain ⟨⟨l⟩⟩ := t
  cases l with
  | nil => rfl
  | cons c r => simp [ByteArray.size] at h
theorem ne_no {t : ByteArray} (h : ¬ t = no) : 0 < t.size := by
  apply Classical.byContradiction
  intro hc
  exact h (no_of (by omega))
/-- The byte that stands s bits up. -/
def byteAt (n : Int) (s : Nat) : UInt8 := UInt8.ofNat (n / 2 ^ s % 256).toNat
def be8 (n : Int) : List UInt8 := [byteAt n 56, byteAt n 48, byteAt n 40, byteAt n 32, byteAt n 24, byteAt n 16, byteAt n 8, byteAt n 0]
theorem byteAt_int (n : Int) (s : Nat) : ((byteAt n s).toNat : Int) = n / 2 ^ s % 256 := by
  unfold byteAt
  have h1 : 0 ≤ n / 2 ^ s % 256 := Int.emod_nonneg _ (by decide)
  have h2 : n / 2 ^ s % 256 < 256 := Int.emod_lt_of_pos _ (by decide)
  rw [UInt8.toNat_ofNat']
  omega
/-- The bytes of a value that there is. -/
def goodBs (k i : Int) (t : ByteArray) : List UInt8 := if k = 0 then [0] else if k = 1 then 1 :: be8 i else if k = 3 then 3 :: t.data.toList else [UInt8.ofNat k.toNat, UInt8.ofNat i.toNat]
def goodB (k i : Int) (t : ByteArray) : Bool := (k == 0 && i == 0 && t.size == 0) || (k == 1 && t.size == 0) || (k == 2 && (i == 0 || i == 1) && t.size == 0) || (k == 3 && i == 0 && decide (t.size ≤ 32767)) || (k == 4 && decide (1 ≤ i) && decide (i ≤ 6) && t.size == 0)
theorem size_no {t : ByteArray} : t.size = 0 ↔ t = no := ⟨no_of, fun h => by rw [h]; rfl⟩
theorem goodB_iff (k i : Int) (t : ByteArray) : goodB k i t = true ↔ Good k i t := by
  unfold goodB Good
  simp only [Bool.or_eq_true, Bool.and_eq_true, beq_iff_eq, decide_eq_true_eq, size_no]
  constructor
  · rintro ((((⟨⟨a, b⟩, c⟩ | ⟨a, b⟩) | ⟨⟨a, b⟩, c⟩) | ⟨⟨a, b⟩, c⟩) | ⟨⟨⟨a, b⟩, c⟩, d⟩)
    · exact .inl ⟨a, b, c⟩
    · exact .inr (.inl ⟨a, b⟩)
    · exact .inr (.inr (.inl ⟨a, b, c⟩))
    · exact .inr (.inr (.inr (.inl ⟨a, b, c⟩)))
    · exact .inr (.inr (.inr (.inr ⟨a, ⟨b, c⟩, d⟩)))
  · rintro (⟨a, b, c⟩ | ⟨a, b⟩ | ⟨a, b, c⟩ | ⟨a, b, c⟩ | ⟨a, ⟨b, c⟩, d⟩)
    · exact .inl (.inl (.inl (.inl ⟨⟨a, b⟩, c⟩)))
    · exact .inl (.inl (.inl (.inr ⟨a, b⟩)))
    · exact .inl (.inl (.inr ⟨⟨a, b⟩, c⟩))
    · exact .inl (.inr ⟨⟨a, b⟩, c⟩)
    · exact .inr ⟨⟨⟨a, b⟩, c⟩, d⟩
/-- What is summed of a value. -/
def bsOf (k i : Int) (t : ByteArray) : List UInt8 := if goodB k i t then goodBs k i t else [4, 4]
theorem bsOf_good {k i : Int} {t : ByteArray} (h : Good k i t) : bsOf k i t = goodBs k i t := by unfold bsOf; rw [if_pos ((goodB_iff k i t).2 h)]
theorem bsOf_bad {k i : Int} {t : ByteArray} (h : ¬ Good k i t) : bsOf k i t = [4, 4] := by unfold bsOf; rw [if_neg (fun e => h ((goodB_iff k i t).1 e))]
theorem bsOf_len (k i : Int) (t : ByteArray) : 1 ≤ (bsOf k i t).length ∧ (bsOf k i t).length ≤ 32768 := by
  by_cases h : Good k i t
  · rw [bsOf_good h]
    rcases h with ⟨rfl, rfl, rfl⟩ | ⟨rfl, rfl⟩ | ⟨rfl, _, rfl⟩ | ⟨rfl, rfl, ht⟩ | ⟨rfl, _, rfl⟩
    · simp [goodBs]
    · simp [goodBs, be8]
    · simp [goodBs]
    · simp [goodBs]; exact ht
    · simp [goodBs]
  · rw [bsOf_bad h]; simp
/-- Values that there are and are not the same have unlike bytes. -/
theorem byte_inj {m n : Int} (hm : -9223372036854775808 ≤ m ∧ m ≤ 9223372036854775807) (hn : -9223372036854775808 ≤ n ∧ n ≤ 9223372036854775807) (h : be8 m = be8 n) : m = n := by
  unfold be8 at h
  injection h with h7 h
  injection h with h6 h
  injection h with h5 h
  injection h with h4 h
  injection h with h3 h
  injection h with h2 h
  injection h with h1 h
  injection h with h0 h
  have g : ∀ s, byteAt m s = byteAt n s → m / 2 ^ s % 256 = n / 2 ^ s % 256 := fun s e => by rw [← byteAt_int, ← byteAt_int, e]
  have g7 := g 56 h7
  have g6 := g 48 h6
  have g5 := g 40 h5
  have g4 := g 32 h4
  have g3 := g 24 h3
  have g2 := g 16 h2
  have g1 := g 8 h1
  have g0 := g 0 h0
  clear g h h0 h1 h2 h3 h4 h5 h6 h7
  simp only [Int.reducePow] at g0 g1 g2 g3 g4 g5 g6 g7
  obtain ⟨m1, m2⟩ := hm
  obtain ⟨n1, n2⟩ := hn
  have e1 : m % 65536 = n % 65536 := by omega
  clear g0 g1
  have e2 : m % 16777216 = n % 16777216 := by omega
  clear e1 g2
  have e3 : m % 4294967296 = n % 4294967296 := by omega
  clear e2 g3
  have e4 : m % 1099511627776 = n % 1099511627776 := by omega
  clear e3 g4
  have e5 : m % 281474976710656 = n % 281474976710656 := by omega
  clear e4 g5
  have e6 : m % 72057594037927936 = n % 72057594037927936 := by omega
  clear e5 g6
  omega
theorem u8_inj {a b : Int} (ha : 0 ≤ a ∧ a < 256) (hb : 0 ≤ b ∧ b < 256) (h : UInt8.ofNat a.toNat = UInt8.ofNat b.toNat) : a = b := by
  have := congrArg UInt8.toNat h
  rw [UInt8.toNat_ofNat', UInt8.toNat_ofNat'] at this
  omega
theorem data_inj {s t : ByteArray} (h : s.data.toList = t.data.toList) : s = t := by
  obtain ⟨⟨l⟩⟩ := s
  obtain ⟨⟨r⟩⟩ := t
  simp at h
  rw [h]
theorem bsOf_inj {k i k' i' : Int} {t t' : ByteArray} (hi : -9223372036854775808 ≤ i ∧ i ≤ 9223372036854775807) (hi' : -9223372036854775808 ≤ i' ∧ i' ≤ 9223372036854775807) (h : Good k i t) (h' : Good k' i' t') (e : bsOf k i t = bsOf k' i' t') : k = k' ∧ i = i' ∧ t = t' := by
  rw [bsOf_good h, bsOf_good h'] at e
  rcases h with ⟨rfl, rfl, rfl⟩ | ⟨rfl, rfl⟩ | ⟨rfl, d, rfl⟩ | ⟨rfl, rfl, ht⟩ | ⟨rfl, d, rfl⟩ <;> rcases h' with ⟨rfl, rfl, rfl⟩ | ⟨rfl, rfl⟩ | ⟨rfl, d', rfl⟩ | ⟨rfl, rfl, ht'⟩ | ⟨rfl, d', rfl⟩ <;> first
    | exact ⟨rfl, rfl, rfl⟩
    | (refine ⟨rfl, byte_inj hi hi' ?_, rfl⟩; exact (List.cons.inj e).2)
    | (refine ⟨rfl, rfl, data_inj ?_⟩; exact (List.cons.inj e).2)
    | (refine ⟨rfl, u8_inj ?_ ?_ (List.cons.inj (List.cons.inj e).2).1, rfl⟩ <;> omega)
    | (exfalso; have e2 := congrArg (fun l => l.head?.map UInt8.toNat) e; simp [goodBs] at e2; done)
/-- The sum FNV-1a. -/
def fnvStep (h : Nat) (b : UInt8) : Nat := (h ^^^ b.toNat) * 1099511628211 % 18446744073709551616
def fnvL (L : List UInt8) : Nat := L.foldl fnvStep 14695981039346656037
theorem fnvStep_lt (h : Nat) (b : UInt8) : fnvStep h b < 18446744073709551616 := by unfold fnvStep; exact Nat.mod_lt _ (by decide)
theorem foldl_snoc (f : Nat → UInt8 → Nat) (a : Nat) (L : List UInt8) (c : UInt8) : (L ++ [c]).foldl f a = f (L.foldl f a) c := by simp
theorem fnv_snoc (L : List UInt8) (c : UInt8) : fnvL (L ++ [c]) = fnvStep (fnvL L) c := foldl_snoc fnvStep _ L c
theorem fnv_take (L : List UInt8) (k : Nat) (h : k < L.length) : fnvL (L.take (k + 1)) = fnvStep (fnvL (L.take k)) L[k] := by
  rw [List.take_succ_eq_append_getElem h, fnv_snoc]
theorem foldl_lt (L : List UInt8) : ∀ h, h < 18446744073709551616 → L.foldl fnvStep h < 18446744073709551616 := by
  induction L with
  | nil => intro h hh; exact hh
  | cons c r ih => intro h _; exact ih _ (fnvStep_lt h c)
theorem fnv_lt (L : List UInt8) : fnvL L < 18446744073709551616 := foldl_lt L _ (by decide)
theorem byte_lt (b : UInt8) : b.toNat < 18446744073709551616 := by have := b.toNat_lt; omega
theorem xor_bits (h : Nat) (b : UInt8) (hh : h < 18446744073709551616) : bits .xor .u64 (h : Int) (b.toNat : Int) = ((h ^^^ b.toNat : Nat) : Int) := bits_xor_u64_nat h b.toNat hh (byte_lt b)
theorem step_int (h : Nat) (b : UInt8) (hh : h < 18446744073709551616) : IntKind.u64.wrap (bits .xor .u64 (h : Int) (b.toNat : Int) * 1099511628211) = (fnvStep h b : Int) := by
  rw [xor_bits h b hh, IntKind.wrap_u64]
  unfold fnvStep
  rw [Int.natCast_emod, Int.natCast_mul]
  rfl
theorem step_int2 (h : Nat) (b : UInt8) (hh : h < 18446744073709551616) : IntKind.u64.wrap (bits .xor .u64 (h : Int) (IntKind.u64.wrap (b.toNat : Int)) * 1099511628211) = (fnvStep h b : Int) := by
  rw [show IntKind.u64.wrap (b.toNat : Int) = (b.toNat : Int) by have := byte_lt b; rw [IntKind.wrap_u64]; omega]
  exact step_int h b hh
/-- The lowest bits. -/
theorem and_mask (f n : Nat) (hf : f < 18446744073709551616) : f &&& (2 ^ n - 1) = f % 2 ^ n := Nat.and_two_pow_sub_one_eq_mod f n
theorem low_bit (f i : Nat) : f % 2 ^ i ||| (f &&& 2 ^ i) = f % 2 ^ (i + 1) := by
  apply Nat.eq_of_testBit_eq
  intro j
  rw [Nat.testBit_or, Nat.testBit_and, Nat.testBit_mod_two_pow, Nat.testBit_mod_two_pow, Nat.testBit_two_pow]
  by_cases h1 : j < i
  · have h2 : ¬ i = j := by omega
    have h3 : j < i + 1 := by omega
    simp [h1, h2, h3]
  · by_cases h2 : i = j
    · subst h2; simp
    · have h3 : ¬ j < i + 1 := by omega
      simp [h1, h2, h3]
theorem shl_shr (f n : Nat) (hn : n ≤ 64) : f * 2 ^ (64 - n) % 18446744073709551616 / 2 ^ (64 - n) = f % 2 ^ n := by
  have e : (18446744073709551616 : Nat) = 2 ^ n * 2 ^ (64 - n) := by rw [← Nat.pow_add, show n + (64 - n) = 64 by omega]
  rw [e, Nat.mul_mod_mul_right, Nat.mul_div_cancel _ (Nat.two_pow_pos _)]
end Go.Proofs.Ytdbdonpcdoeeiaa
