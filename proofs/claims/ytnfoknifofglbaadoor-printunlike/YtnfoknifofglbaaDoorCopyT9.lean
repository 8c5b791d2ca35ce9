/- tree.Copy: what it answers of every tree. -/
import Derived.Test.YtnfoknifofglbaaDoorCopy9
namespace Go.Proofs.YtnfoknifofglbaaDoor.T9
open Go.RowKit Go.Sort
set_option linter.unusedVariables false

theorem run_blk {w : World} {g : Nat} {cs : Array Value} (h : Blk w g cs 26) (hs : cs.size = 14) : (loadVar 26 ⟨g, 0, none⟩).run Tryd.prog w = .ok (.agg cs) w :=
  run_loadVar_row w g 26 26 cs (0, 0) _ h Tryd.underlying26 rfl (by rw [hs]; kernel_rfl)
theorem Blk.setRow {w : World} {g : Nat} {old cs : Array Value} {t : TypeId} (h : Blk w g old t) : Blk (w.setRow g cs) g cs t := setRow_heap _ _ _ _ _ _ h
theorem below_setRow {B : Nat} {a w : World} (h : Below B a w) {g : Nat} (hg : B ≤ g) (cs : Array Value) : Below B a (w.setRow g cs) := ⟨h.os, h.tape, h.output, by rw [size_setRow]; exact h.size, fun k hk => (setRow_other _ _ _ _ (by omega)).trans (h.block k hk)⟩
/-- What Copy answers. -/
def CopyP (w : World) (t : Ex) (e : Ending) (w' : World) : Prop :=
  (fitB t = false ∧ e = .returned (.tuple #[exV nd0 (.slice none 0 0), .int .i64 2]) ∧ Below w.heap.size w w') ∨
  (fitB t = true ∧ ∃ a len cap bs, e = .returned (.tuple #[exV t.nd (.slice a len cap), .int .i64 0]) ∧ New w w' (exV t.nd (.slice a len cap)) t bs ∧ Below w.heap.size w w')
theorem run_putrow {w : World} {g : Nat} {old : Array Value} (n : Nd) (a : Option Addr) (l c : Nat) (h : Blk w g old 26) (hs : old.size = 14) : (storeCells ⟨g, 0, none⟩ (exC n (.slice a l c)).toList).run Tryd.prog w = .ok () (w.setRow g (exC n (.slice a l c))) := by
  have := run_storeVar_row (P := Tryd.prog) w g 26 26 old (exC n (.slice a l c)) h (exC_info _ _) (by rw [hs]; rfl) (exC_one _ _ _ _)
  have hi := exC_info n (.slice a l c)
  cases hq : Tryd.prog.info? 26 with
  | none => simp [hq] at hi
  | some i =>
    have hz : (exC n (.slice a l c)).size = i.size := by simp [hq] at hi; omega
    simpa [storeVar, sizeOf, typeInfo, hq, Value.cells, hz] using this
end Go.Proofs.YtnfoknifofglbaaDoor.T9
