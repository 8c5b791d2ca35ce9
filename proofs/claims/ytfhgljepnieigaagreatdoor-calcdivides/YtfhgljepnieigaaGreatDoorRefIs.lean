/- The reference's sums, products and answers, said of the numbers that they stand for; its Add, Sub and Mul answer the exact result where it fits, else 0 and false: proved of the Go text. -/
import Derived.Test.YtfhgljepnieigaaGreatDoorRefNum
import Derived.Test.YtfhgljepnieigaaGreatDoorNumNamed
import Derived.Handy
namespace Go.Proofs.YtfhgljepnieigaaGreatDoor
open Go.RowKit
set_option linter.unusedVariables false

/-- The number of a sign and a size. -/
def sval (s : Bool) (m : Int) : Int := if s then -m else m
/-- A reference number stands for z; 'over': z's size is 2^64 or more. -/
def IsN (s o : Bool) (m z : Int) : Prop := 0 ≤ m ∧ m < 18446744073709551616 ∧ (o = false → z = sval s m) ∧ (o = true → 18446744073709551616 ≤ z.natAbs)
theorem isN_of (n : Int) (h0 : -9223372036854775808 ≤ n) (h1 : n ≤ 9223372036854775807) : IsN (decide (n < 0)) false (n.natAbs : Int) n := by
  refine ⟨by omega, by omega, fun _ => ?_, (fun h => by cases h)⟩
  unfold sval
  by_cases h : n < 0
  · rw [if_pos (by simpa using h)]; omega
  · rw [if_neg (by simpa using h)]; omega
theorem isN_plain (s : Bool) (m : Int) (h : 0 ≤ m) (h' : m < 18446744073709551616) : IsN s false m (sval s m) := ⟨h, h', fun _ => rfl, (fun h => by cases h)⟩
theorem fits_is_yes (s o : Bool) (m z : Int) (w : World) (h : IsN s o m z) (hf : Fit z) :
    Calls Tryz.prog 151 #[num s o m] w fun e w' => e = .returned (.tuple #[.int .i64 z, .bool true]) ∧ Below w.heap.size w w' := by
  obtain ⟨h0, h1, h2, h3⟩ := h
  unfold Fit at hf
  cases o
  · have hz := h2 rfl
    unfold sval at hz
    cases s
    · rw [if_neg (by decide)] at hz
      subst hz
      exact (fits_pos z (by omega) (by omega) w).mono fun _ _ ⟨a, b⟩ => ⟨a, b ▸ (Below.refl _ _).alloc (Nat.le_refl _) _⟩
    · rw [if_pos rfl] at hz
      by_cases e : m = 9223372036854775808
      · subst e
        rw [show z = -9223372036854775808 by omega]
        exact (fits_least w).mono fun _ _ ⟨a, b⟩ => ⟨a, b ▸ (Below.refl _ _).alloc (Nat.le_refl _) _⟩
      · subst hz
        exact (fits_neg m (by omega) (by omega) w).mono fun _ _ ⟨a, b⟩ => ⟨a, b ▸ (Below.refl _ _).alloc (Nat.le_refl _) _⟩
  · have := h3 rfl; omega
theorem fits_is_no (s o : Bool) (m z : Int) (w : World) (h : IsN s o m z) (hf : ¬ Fit z) :
    Calls Tryz.prog 151 #[num s o m] w fun e w' => e = .returned (.tuple #[.int .i64 0, .bool false]) ∧ Below w.heap.size w w' := by
  obtain ⟨h0, h1, h2, h3⟩ := h
  unfold Fit at hf
  cases o
  · have hz := h2 rfl
    unfold sval at hz
    by_cases g : 9223372036854775808 < m
    · exact (fits_great s m g w).mono fun _ _ ⟨a, b⟩ => ⟨a, b ▸ (Below.refl _ _).alloc (Nat.le_refl _) _⟩
    · cases s
      · rw [if_neg (by decide)] at hz
        rw [show m = 9223372036854775808 by omega]
        exact (fits_half w).mono fun _ _ ⟨a, b⟩ => ⟨a, b ▸ (Below.refl _ _).alloc (Nat.le_refl _) _⟩
      · rw [if_pos rfl] at hz; omega
  · exact (fits_over s m w).mono fun _ _ ⟨a, b⟩ => ⟨a, b ▸ (Below.refl _ _).alloc (Nat.le_refl _) _⟩
theorem fits_is (s o : Bool) (m z : Int) (w : World) (h : IsN s o m z) :
    Calls Tryz.prog 151 #[num s o m] w fun e w' => e = .returned (.tuple #[.int .i64 (sumV64 z), .bool (sumB64 z)]) ∧ Below w.heap.size w w' := by
  by_cases c : Fit z
  · rw [show sumV64 z = z from if_pos c, show sumB64 z = true from decide_eq_true c]
    exact fits_is_yes s o m z w h c
  · rw [show sumV64 z = 0 from if_neg c, show sumB64 z = false from decide_eq_false c]
    exact fits_is_no s o m z w h c
theorem below3 (w : World) (a b c : Obj) : Below w.heap.size w (((w.alloc a).alloc b).alloc c) :=
  (((Below.refl _ _).alloc (Nat.le_refl _) _).alloc (by simp) _).alloc (by simp; omega) _
theorem sum_is (s t : Bool) (a b x y : Int) (w : World) (hx : IsN s false a x) (hy : IsN t false b y) :
    Calls Tryz.prog 152 #[num s false a, num t false b] w fun e w' => ∃ r o c, e = .returned (num r o c) ∧ IsN r o c (x + y) ∧ Below w.heap.size w w' := by
  obtain ⟨a0, a1, a2, -⟩ := hx
  obtain ⟨b0, b1, b2, -⟩ := hy
  have ex := a2 rfl
  have ey := b2 rfl
  clear a2 b2
  unfold sval at ex ey
  by_cases e : t = s
  · subst e
    by_cases h : a + b < 18446744073709551616
    · refine (sum_same t false false a b a0 a1 b0 b1 h w).mono fun _ _ ⟨p, q⟩ => ⟨_, _, _, p, ⟨by omega, h, fun _ => ?_, (fun h => by cases h)⟩, q ▸ below3 _ _ _ _⟩
      unfold sval; cases t <;> simp at ex ey ⊢ <;> omega
    · refine (sum_wrap t false false a b a0 a1 b0 b1 (by omega) w).mono fun _ _ ⟨p, q⟩ => ⟨_, _, _, p, ⟨by omega, by omega, (fun h => by cases h), fun _ => ?_⟩, q ▸ below3 _ _ _ _⟩
      cases t <;> simp at ex ey <;> omega
  · obtain rfl : t = !s := by cases s <;> cases t <;> simp at e ⊢
    by_cases h : b ≤ a
    · refine (sum_ge s false false a b a0 a1 b0 b1 h w).mono fun _ _ ⟨p, q⟩ => ⟨_, _, _, p, ⟨by omega, by omega, fun _ => ?_, (fun h => by cases h)⟩, q ▸ below3 _ _ _ _⟩
      unfold sval; cases s <;> simp at ex ey ⊢ <;> omega
    · refine (sum_lt s false false a b a0 a1 b0 b1 (by omega) w).mono fun _ _ ⟨p, q⟩ => ⟨_, _, _, p, ⟨by omega, by omega, fun _ => ?_, (fun h => by cases h)⟩, q ▸ below3 _ _ _ _⟩
      unfold sval; cases s <;> simp at ex ey ⊢ <;> omega
theorem sval_mul (s t : Bool) (a b : Int) : sval s a * sval t b = sval (s != t) (a * b) := by
  unfold sval; cases s <;> cases t <;> simp [Int.neg_mul, Int.mul_neg]
theorem sval_abs (s : Bool) (a : Int) (h : 0 ≤ a) : (sval s a).natAbs = a.natAbs := by unfold sval; cases s <;> simp
theorem product_is (s t : Bool) (a b x y : Int) (w : World) (hx : IsN s false a x) (hy : IsN t false b y) :
    Calls Tryz.prog 154 #[num s false a, num t false b] w fun e w' => ∃ r o c, e = .returned (num r o c) ∧ IsN r o c (x * y) ∧ Below w.heap.size w w' := by
  obtain ⟨a0, a1, a2, -⟩ := hx
  obtain ⟨b0, b1, b2, -⟩ := hy
  rw [a2 rfl, b2 rfl, sval_mul]
  by_cases z : a = 0
  · subst z
    exact (product_zero s t 0 b rfl b0 b1 w).mono fun _ _ ⟨p, q⟩ => ⟨_, _, _, p, ⟨by omega, by omega, fun _ => by rw [Int.zero_mul], (fun h => by cases h)⟩, q ▸ (below3 _ _ _ _).drew⟩
  · have p0 : 0 ≤ a * b := Int.mul_nonneg a0 b0
    by_cases h : a * b < 18446744073709551616
    · exact (product_fit s t a b (by omega) a1 b0 b1 h w).mono fun _ _ ⟨p, q⟩ => ⟨_, _, _, p, ⟨p0, h, fun _ => rfl, (fun h => by cases h)⟩, q ▸ (below3 _ _ _ _).drew⟩
    · refine (product_over s t a b _ (by omega) a1 b0 b1 (by omega) rfl w).mono fun _ _ ⟨p, q⟩ => ⟨_, _, _, p, ⟨?_, ?_, (fun h => by cases h), fun _ => ?_⟩, q ▸ (below3 _ _ _ _).drew⟩
      · rw [IntKind.wrap_u64]; omega
      · rw [IntKind.wrap_u64]; omega
      · rw [sval_abs _ _ p0]; omega

set_option maxHeartbeats 1000000 in
theorem refAdd (a b : Int) (w : World) (ha : -9223372036854775808 ≤ a) (ha' : a ≤ 9223372036854775807) (hb : -9223372036854775808 ≤ b) (hb' : b ≤ 9223372036854775807) :
    Calls Tryz.prog 59 #[.int .i64 a, .int .i64 b] w fun e w' => e = .returned (.tuple #[.int .i64 (sumV64 (a + b)), .bool (sumB64 (a + b))]) ∧ Below w.heap.size w w' := by
  have HA := hide (isN_of a ha ha')
  have HB := hide (isN_of b hb hb')
  go_enter Tryz.func59, Tryz.ntmps59
  go_wp2_with (go_at_call 153; refine (of_as _ _ _ _ (by omega) (by omega) rfl rfl).mono ?_; rintro e w' ⟨rfl, rfl⟩)
  refine (sum_is _ _ _ _ _ _ _ HA.out HB.out).mono ?_
  rintro e w1 ⟨r, o, c, rfl, hn, hb1⟩
  go_wp2_with (go_at_call 151; refine (fits_is _ _ _ _ _ hn).mono ?_; rintro e w2 ⟨rfl, hb2⟩)
  go_ret2
  refine ⟨rfl, ?_⟩
  have k0 : Below w.heap.size w ((w.alloc (box (decide (a < 0)) false ↑a.natAbs)).alloc (box (decide (b < 0)) false ↑b.natAbs)) := ((Below.refl _ _).alloc (Nat.le_refl _) _).alloc (by simp) _
  exact (k0.trans (hb1.mono k0.size)).trans (hb2.mono (k0.trans (hb1.mono k0.size)).size)

set_option maxHeartbeats 1000000 in
theorem refMul (a b : Int) (w : World) (ha : -9223372036854775808 ≤ a) (ha' : a ≤ 9223372036854775807) (hb : -9223372036854775808 ≤ b) (hb' : b ≤ 9223372036854775807) :
    Calls Tryz.prog 61 #[.int .i64 a, .int .i64 b] w fun e w' => e = .returned (.tuple #[.int .i64 (sumV64 (a * b)), .bool (sumB64 (a * b))]) ∧ Below w.heap.size w w' := by
  have HA := hide (isN_of a ha ha')
  have HB := hide (isN_of b hb hb')
  go_enter Tryz.func61, Tryz.ntmps61
  go_wp2_with (go_at_call 153; refine (of_as _ _ _ _ (by omega) (by omega) rfl rfl).mono ?_; rintro e w' ⟨rfl, rfl⟩)
  refine (product_is _ _ _ _ _ _ _ HA.out HB.out).mono ?_
  rintro e w1 ⟨r, o, c, rfl, hn, hb1⟩
  go_wp2_with (go_at_call 151; refine (fits_is _ _ _ _ _ hn).mono ?_; rintro e w2 ⟨rfl, hb2⟩)
  go_ret2
  refine ⟨rfl, ?_⟩
  have k0 : Below w.heap.size w ((w.alloc (box (decide (a < 0)) false ↑a.natAbs)).alloc (box (decide (b < 0)) false ↑b.natAbs)) := ((Below.refl _ _).alloc (Nat.le_refl _) _).alloc (by simp) _
  exact (k0.trans (hb1.mono k0.size)).trans (hb2.mono (k0.trans (hb1.mono k0.size)).size)
end Go.Proofs.YtfhgljepnieigaaGreatDoor
