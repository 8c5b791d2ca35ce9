/- CalcOrder: small facts. -/
import Derived.Test.YtgciccahmbghpaaGreatDoorB14J
import Derived.Test.YtgciccahmbghpaaGreatDoorC14J
namespace Go.Proofs.YtgciccahmbghpaaGreatDoor
open Go.RowKit Go.Sort
set_option linter.unusedVariables false

theorem va_field (k i : Int) (t : ByteArray) (w : World) : (Instr.field 26 (vV k i t) 1).run Tryz.prog w = .ok (.int .i64 i) w := by kernel_rfl
theorem va_eq (k i : Int) (t : ByteArray) (w : World) : (binOp .eql 26 (vV k i t) (vV k i t)).run Tryz.prog w = .ok (.bool true) w := by go_simp
/-- The six answers. -/
abbrev six (R : Int → Va) : List Va := [R 7, R 8, R 9, R 10, R 11, R 12]
theorem six_take (R : Int → Va) (j : Nat) (h : j < 6) : (six R).take (j + 1) = (six R).take j ++ [R (7 + (j : Int))] := by
  match j, h with
  | 0, _ => rfl
  | 1, _ => rfl
  | 2, _ => rfl
  | 3, _ => rfl
  | 4, _ => rfl
  | 5, _ => rfl
theorem range_va (w : World) (k i : Int) (t : ByteArray) : (w.alloc (.cells #[.int .i64 k, .int .i64 i, .string t] 26)).rangeAt w.heap.size 0 (vaC ⟨k, i, t⟩) := World.rangeAt_of_block (heap_alloc_new w _) 0 3
theorem meas7 {j : Nat} (h : j < 6) : 13 - (intOf (.int .i64 (7 + (j : Int) + 1))).toNat < 13 - (intOf (.int .i64 (7 + (j : Int)))).toNat := by
  have h1 : (intOf (.int .i64 (7 + (j : Int) + 1))).toNat = 8 + j := by show (7 + (j : Int) + 1).toNat = 8 + j; omega
  have h2 : (intOf (.int .i64 (7 + (j : Int)))).toNat = 7 + j := by show (7 + (j : Int)).toNat = 7 + j; omega
  rw [h1, h2]; omega
theorem meas6 {j : Nat} (h : j < 6) : 6 - (intOf (.int .i64 ((j : Int) + 1))).toNat < 6 - (intOf (.int .i64 (j : Int))).toNat := by
  have h1 : (intOf (.int .i64 ((j : Int) + 1))).toNat = j + 1 := rfl
  have h2 : (intOf (.int .i64 (j : Int))).toNat = j := rfl
  rw [h1, h2]; omega
theorem VaAt.other {w : World} {b B o : Nat} {x : Va} {u0 u1 u2 : Value} (h : VaAt w b o x) (hn : b ≠ B) : VaAt (((w.setCell ⟨B, 0, none⟩ u0).setCell ⟨B, 1, none⟩ u1).setCell ⟨B, 2, none⟩ u2) b o x :=
  ⟨(put3_other w B u0 u1 u2 b _ hn).trans h.1, (put3_other w B u0 u1 u2 b _ hn).trans h.2.1, (put3_other w B u0 u1 u2 b _ hn).trans h.2.2⟩
end Go.Proofs.YtgciccahmbghpaaGreatDoor
