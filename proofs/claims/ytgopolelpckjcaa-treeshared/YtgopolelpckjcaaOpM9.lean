/- A call of the script as cells. -/
import Derived.Test.YtgopolelpckjcaaRSm9
import Derived.Test.YtgopolelpckjcaaRRd9
namespace Go.Proofs.Ytgopolelpckjcaa
open Go.RowKit Go.Sort
set_option linter.unusedVariables false

/-- Kind and two trees. -/
def opC (k : Int) (n1 : Nd) (s1 : Value) (n2 : Nd) (s2 : Value) : Array Value := #[.int .i64 k] ++ exC n1 s1 ++ exC n2 s2
theorem opC_size (k : Int) (n1 : Nd) (s1 : Value) (n2 : Nd) (s2 : Value) : (opC k n1 s1 n2 s2).size = 29 := by unfold opC; rw [Array.size_append, Array.size_append, exC_size, exC_size]; rfl
theorem opC_info (k : Int) (n1 : Nd) (s1 : Value) (n2 : Nd) (s2 : Value) : (Try.prog.info? 31).map (·.size) = some (opC k n1 s1 n2 s2).size := by rw [opC_size]; kernel_rfl
/-- The call's parts lie there. -/
structure OpAt (w : World) (B : Nat) (k : Int) (n1 : Nd) (s1 : Value) (n2 : Nd) (s2 : Value) : Prop where
  k : w.cell? ⟨B, 0, none⟩ = some (.int .i64 k)
  t : w.rangeAt B 1 (exC n1 s1).toList
  u : w.rangeAt B 15 (exC n2 s2).toList
theorem op_at {w : World} {B : Nat} {k : Int} {n1 n2 : Nd} {s1 s2 : Value} (h : Blk w B (opC k n1 s1 n2 s2) 31) : OpAt w B k n1 s1 n2 s2 := by
  have hj : ∀ (n : Nd) (s : Value) (j : Nat) (v : Value), (exC n s).toList[j]? = some v → j < 14 := fun n s j v hv => by have := (List.getElem?_eq_some_iff.1 hv).1; rwa [exC_len] at this
  refine ⟨?_, fun j v hv => ?_, fun j v hv => ?_⟩
  · rw [h.at']
    unfold opC
    rw [Array.getElem?_append_left (by rw [Array.size_append]; simp; omega), Array.getElem?_append_left (by simp)]
    rfl
  · have h14 := hj _ _ _ _ hv
    rw [cell_of_row w B _ _ _ _ h]
    unfold opC
    rw [Array.getElem?_append_left (by rw [Array.size_append, exC_size]; simp; omega), Array.getElem?_append_right (by simp), show 1 + j - _ = j by simp]
    rwa [Array.getElem?_toList] at hv
  · have h14 := hj _ _ _ _ hv
    rw [cell_of_row w B _ _ _ _ h]
    unfold opC
    rw [Array.getElem?_append_right (by rw [Array.size_append, exC_size]; simp), Array.size_append, exC_size, show 15 + j - _ = j by simp]
    rwa [Array.getElem?_toList] at hv
theorem OpAt.step {w w' : World} {B : Nat} {k : Int} {n1 n2 : Nd} {s1 s2 : Value} (h : OpAt w B k n1 s1 n2 s2) (hb : Below w.heap.size w w') : OpAt w' B k n1 s1 n2 s2 := by
  have hl : B < w.heap.size := World.block_lt_of_cell? w ⟨B, _, none⟩ h.k
  exact ⟨(World.cell?_of_block (hb.block _ hl)).trans h.k, range_of_block h.t (hb.block _ hl), range_of_block h.u (hb.block _ hl)⟩
theorem builtOp (k : Int) (n1 n2 : Nd) (s1 s2 : Value) : Try.prog.built 31 [(0, .int .i64 k), (1, exV n1 s1), (2, exV n2 s2)] = some (opC k n1 s1 n2 s2) := by kernel_rfl
theorem zero_leaf (w : World) : Tree w (exV nd0 (.slice none 0 0)) (.mk nd0 []) := leaf_tree w nd0 (by decide)
theorem nil_areas (w : World) : AreasAt w none 0 [] := ⟨rfl, by omega, .inl rfl⟩
theorem sameE_self9 : ∀ t : Ex, sameE t t = true := by
  have hL : ∀ ks : List Ex, (∀ k ∈ ks, sameE k k = true) → sameL ks ks = true := by
    intro ks
    induction ks with
    | nil => intro _; rw [sameL]; rfl
    | cons k r ih => intro h; rw [sameL]; simp only [h k (List.mem_cons_self ..), ih (fun x hx => h x (List.mem_cons_of_mem _ hx)), Bool.and_self]
  refine Ex.ind fun nd ks ih => ?_
  rw [sameE]
  show (ndB nd nd && sameL ks ks) = true
  rw [ndB_self, hL ks ih]; rfl
theorem New.tree9 {w w' : World} {v : Value} {t : Ex} {bs : List Nat} (h : New w w' v t bs) (hs : SmE t) : Tree w' v t := h.ow.in' t (fun k hk => (h.at' k hk).2) hs
end Go.Proofs.Ytgopolelpckjcaa
