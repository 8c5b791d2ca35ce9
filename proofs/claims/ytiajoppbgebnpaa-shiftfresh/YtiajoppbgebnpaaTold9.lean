/- tree.placeOf, spot.May; tree.isAsTold. -/
import Derived.Test.YtiajoppbgebnpaaSame9
import Derived.Test.YtiajoppbgebnpaaList9
namespace Go.Proofs.Ytiajoppbgebnpaa
open Go.RowKit Go.Sort
set_option linter.unusedVariables false

abbrev spotV (r c : Int) : Value := .agg #[.int .i64 r, .int .i64 c]
def mayB (r c : Int) : Bool := decide (0 ≤ r ∧ r < 65536 ∧ 0 ≤ c ∧ c < 702)
theorem placeOf_any (r c : Int) (p q : Bool) (w : World) : Calls Try.prog 49 #[.agg #[.int .i64 r, .int .i64 c, .bool p, .bool q]] w fun e w' => e = .returned (spotV r c) ∧ Below w.heap.size w w' := by
  go_enter Try.func49, Try.ntmps49
  go_wp2_with fail
  refine bodyPost_ret (v := spotV r c) (by simp [results, Try.results49, go_sem]; try rfl) rfl ?_
  exact ⟨rfl, by go_grown⟩
theorem spotMay_any (r c : Int) (w : World) : Calls Try.prog 42 #[spotV r c] w fun e w' => e = .returned (.bool (mayB r c)) ∧ Below w.heap.size w w' := by
  go_enter Try.func42, Try.ntmps42
  go_wp2_with fail
  all_goals go_ret
  all_goals refine ⟨ret_bool ?_, by go_grown⟩
  all_goals (unfold mayB; rw [Bool.eq_iff_iff]; simp; try omega)
/-- What is left of a node when its kind's own fields are taken out. -/
def restOf (n : Nd) : Nd :=
  if n.kind = 1 ∨ n.kind = 3 ∨ n.kind = 4 then { n with kind := 0, num := 0 } else if n.kind = 2 then { n with kind := 0, text := no } else if n.kind = 5 then { n with kind := 0, ref := ⟨0, 0, false, false⟩ } else
  if n.kind = 6 then { n with kind := 0, ref := ⟨0, 0, false, false⟩, to := ⟨0, 0, false, false⟩ } else if n.kind = 7 ∨ n.kind = 8 then { n with kind := 0, op := 0 } else if n.kind = 9 then { n with kind := 0, fn := 0 } else { n with kind := 0 }
def okOf (n : Nd) (len : Nat) : Bool :=
  if n.kind = 1 then decide (0 ≤ n.num) else if n.kind = 2 then true else if n.kind = 3 then decide (n.num = 0 ∨ n.num = 1) else if n.kind = 4 then decide (1 ≤ n.num ∧ n.num ≤ 6) else if n.kind = 5 then mayB n.ref.row n.ref.col else
  if n.kind = 6 then mayB n.ref.row n.ref.col && mayB n.to.row n.to.col else if n.kind = 7 then decide (1 ≤ n.op ∧ n.op ≤ 3 ∧ len = 1) else if n.kind = 8 then decide (1 ≤ n.op ∧ n.op ≤ 12 ∧ len = 2) else if n.kind = 9 then takesB n.fn len else false
def leftOf (n : Nd) (len : Nat) : Nat := if n.kind = 7 ∨ n.kind = 8 ∨ n.kind = 9 then 0 else len
/-- Is a node as told? -/
def toldB (n : Nd) (len : Nat) : Bool := okOf n len && decide (leftOf n len = 0) && ndB (restOf n) ⟨0, 0, 0, no, ⟨0, 0, false, false⟩, ⟨0, 0, false, false⟩, 0⟩
theorem Blk.c14 {w : World} {B : Nat} {n : Nd} {s : Value} {t : TypeId} (h : Blk w B (exC n s) t) :
    w.cell? ⟨B, 0, none⟩ = some (.int .i64 n.kind) ∧ w.cell? ⟨B, 1, none⟩ = some (.int .i64 n.op) ∧ w.cell? ⟨B, 2, none⟩ = some (.int .i64 n.num) ∧ w.cell? ⟨B, 3, none⟩ = some (.string n.text) ∧ w.cell? ⟨B, 4, none⟩ = some (.int .i64 n.ref.row) ∧ w.cell? ⟨B, 5, none⟩ = some (.int .i64 n.ref.col) ∧ w.cell? ⟨B, 6, none⟩ = some (.bool n.ref.pr) ∧ w.cell? ⟨B, 7, none⟩ = some (.bool n.ref.pc) ∧
    w.cell? ⟨B, 8, none⟩ = some (.int .i64 n.to.row) ∧ w.cell? ⟨B, 9, none⟩ = some (.int .i64 n.to.col) ∧ w.cell? ⟨B, 10, none⟩ = some (.bool n.to.pr) ∧ w.cell? ⟨B, 11, none⟩ = some (.bool n.to.pc) ∧ w.cell? ⟨B, 12, none⟩ = some (.int .i64 n.fn) ∧ w.cell? ⟨B, 13, none⟩ = some s :=
  ⟨h.at' 0, h.at' 1, h.at' 2, h.at' 3, h.at' 4, h.at' 5, h.at' 6, h.at' 7, h.at' 8, h.at' 9, h.at' 10, h.at' 11, h.at' 12, h.at' 13⟩
theorem below_st {w w1 : World} (h : Below w.heap.size w w1) (j : Nat) (u : Value) : Below w.heap.size w (w1.setCell ⟨w.heap.size + 1, j, none⟩ u) := h.setCell (p := ⟨w.heap.size + 1, j, none⟩) (by simp) _
theorem below_st2 {w w1 : World} (h : Below w.heap.size w w1) {u0 u1 : Value} {j0 j1 : Nat} : Below w.heap.size w ((w1.setCell ⟨w.heap.size + 1, j0, none⟩ u0).setCell ⟨w.heap.size + 1, j1, none⟩ u1) := below_st (below_st h _ _) _ _
theorem below_st4 {w w1 : World} (h : Below w.heap.size w w1) {u0 u1 u2 u3 : Value} {j0 j1 j2 j3 : Nat} : Below w.heap.size w ((((w1.setCell ⟨w.heap.size + 1, j0, none⟩ u0).setCell ⟨w.heap.size + 1, j1, none⟩ u1).setCell ⟨w.heap.size + 1, j2, none⟩ u2).setCell ⟨w.heap.size + 1, j3, none⟩ u3) := below_st2 (below_st2 h)
theorem below_st8 {w w1 : World} (h : Below w.heap.size w w1) {u0 u1 u2 u3 u4 u5 u6 u7 : Value} {j0 j1 j2 j3 j4 j5 j6 j7 : Nat} : Below w.heap.size w ((((((((w1.setCell ⟨w.heap.size + 1, j0, none⟩ u0).setCell ⟨w.heap.size + 1, j1, none⟩ u1).setCell ⟨w.heap.size + 1, j2, none⟩ u2).setCell ⟨w.heap.size + 1, j3, none⟩ u3).setCell ⟨w.heap.size + 1, j4, none⟩ u4).setCell ⟨w.heap.size + 1, j5, none⟩ u5).setCell ⟨w.heap.size + 1, j6, none⟩ u6).setCell ⟨w.heap.size + 1, j7, none⟩ u7) := below_st4 (below_st4 h)
set_option maxHeartbeats 2000000 in
theorem told_mark : True := trivial
end Go.Proofs.Ytiajoppbgebnpaa
