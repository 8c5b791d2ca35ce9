/- quadrilleref9.Own: a tree in memory of its own, its lists grown one by one. -/
import Derived.Test.YtnikmbkkhfmbeaaROwn9
namespace Go.Proofs.Ytnikmbkkhfmbeaa
open Go.RowKit Go.Sort
set_option linter.unusedVariables false

theorem meas_lt9 {len k : Nat} (h : k < len) : len - (intOf (.int .i64 ((k : Int) + 1))).toNat < len - (intOf (.int .i64 (k : Int))).toNat := by
  show len - ((k : Int) + 1).toNat < len - (k : Int).toNat
  omega
theorem range_ex (w : World) (n : Nd) (s : Value) : (w.alloc (exO n s)).rangeAt w.heap.size 0 (exC n s).toList := World.rangeAt_of_block (Blk.new w (exC n s) 29) 0 14
theorem onst_end {w w1 : World} {nd : Nd} {ks : List Ex} {len : Nat} {wr : World} {v : Value} {css : List (Array Value)} {bs : List Nat} (h1 : w1.heap.size = w.heap.size + 1 + 1) (hl : len = ks.length) (h : OnSt w1 ks len wr v css bs) :
    New w wr (exV nd v) (.mk nd ks) (v.ownBlock.toList ++ bs) ∧ ∀ k ∈ v.ownBlock.toList ++ bs, w.heap.size + 1 < k := by
  have hk := h.kids
  rw [List.take_of_length_le (by omega)] at hk
  obtain ⟨a, l, c, rfl, ho⟩ := tree_row (nd := nd) h.row hk
  have hown := owns_lt h.row
  have hall : ∀ x ∈ (Value.slice a l c).ownBlock.toList ++ bs, w1.heap.size ≤ x ∧ x < wr.heap.size := fun x hx => by
    rcases List.mem_append.1 hx with hx | hx
    · exact hown x (by simpa using hx)
    · have := h.new x hx; exact ⟨this.1, this.2.1⟩
  refine ⟨⟨ho, ?_, fun x hx => ?_⟩, fun x hx => ?_⟩
  · refine List.nodup_append.2 ⟨?_, h.nd, fun x hx y hy e => ?_⟩
    · cases (Value.slice a l c).ownBlock <;> simp
    · subst e
      exact (h.new x hy).2.2 (by simpa using hx)
  · have := hall x hx; exact ⟨by omega, this.2⟩
  · have := hall x hx; omega
end Go.Proofs.Ytnikmbkkhfmbeaa
