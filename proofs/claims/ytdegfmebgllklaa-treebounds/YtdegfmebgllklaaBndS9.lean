/- TreeBounds: what the two loops leave. -/
import Derived.Test.YtdegfmebgllklaaBndM9
import Derived.Test.YtdegfmebgllklaaTurnK9
import Derived.Laws.BytesArg
namespace Go.Proofs.Ytdegfmebgllklaa
open Go.RowKit Go.Sort
set_option linter.unusedVariables false

/-- The chain, its lists behind its box. -/
structure ChSt (w0 : World) (k : Nat) (s : Value) (wr : World) : Prop where
  low : Below w0.heap.size w0 wr
  box : Blk wr w0.heap.size (exC (chN k) s) 29
  tree : In (fun b => w0.heap.size < b ∧ b < wr.heap.size) wr (exV (chN k) s) (ch k)
theorem ChSt.start (w0 : World) : ChSt w0 0 (.slice none 0 0) (w0.alloc (exO ndI (.slice none 0 0))) :=
  ⟨step (Below.refl _ _) _, Blk.new _ _ _, leaf_in _ _ _ (by decide)⟩
theorem ChSt.more {w0 wr : World} {k : Nat} {s : Value} (h : ChSt w0 k s wr) :
    ChSt w0 (k + 1) (.slice (some ⟨wr.heap.size, 0, none⟩) 1 1) ((wr.alloc (exO (chN k) s)).setRow w0.heap.size (exC ndU (.slice (some ⟨wr.heap.size, 0, none⟩) 1 1))) := by
  have hlt := h.box.lt
  have hz : (wr.alloc (exO (chN k) s)).heap.size = wr.heap.size + 1 := by simp
  have hsame : ∀ x, x ≠ w0.heap.size → ((wr.alloc (exO (chN k) s)).setRow w0.heap.size (exC ndU (.slice (some ⟨wr.heap.size, 0, none⟩) 1 1))).heap[x]? = (wr.alloc (exO (chN k) s)).heap[x]? := fun x hx => setRow_other _ _ _ _ hx
  have hn : Blk ((wr.alloc (exO (chN k) s)).setRow w0.heap.size (exC ndU (.slice (some ⟨wr.heap.size, 0, none⟩) 1 1))) wr.heap.size (exC (chN k) s) 29 := (hsame _ (by omega)).trans (Blk.new wr _ _)
  refine ⟨below_setRow (step h.low _) (Nat.le_refl _) _, (h.box.alloc _).setRow, ?_⟩
  rw [ch]
  show In _ _ (exV ndU (.slice (some ⟨wr.heap.size, 0, none⟩) 1 1)) (.mk ndU [ch k])
  unfold In
  refine ⟨_, _, _, rfl, rfl, by omega, by decide, .inr ⟨wr.heap.size, 0, rfl, ⟨hlt, by rw [size_setRow, hz]; omega⟩, ?_⟩⟩
  unfold Kids
  refine ⟨⟨exC (chN k) s, ?_, World.rangeAt_of_block hn 0 14⟩, by unfold Kids; trivial⟩
  exact h.tree.move (fun x hx => ⟨⟨hx.1, by rw [size_setRow, hz]; omega⟩, (hsame x (by omega)).trans (Below.heap_alloc _ _ x hx.2)⟩)
/-- The list while it grows. -/
structure LiSt (w1 : World) (k : Nat) (v : Value) (wr : World) : Prop where
  low : Below w1.heap.size w1 wr
  box : Blk wr w1.heap.size (exC ndS v) 29
  row : RowX wr (w1.heap.size + 1) v (List.replicate k (exC ndL (.slice none 0 0)))
theorem LiSt.start (w1 : World) : LiSt w1 0 (.slice none 0 0) (w1.alloc (exO ndS (.slice none 0 0))) :=
  ⟨step (Below.refl _ _) _, Blk.new _ _ _, ⟨rfl, .inl ⟨rfl, rfl⟩⟩⟩
theorem LiSt.row' {w1 wr : World} {k : Nat} {v : Value} (h : LiSt w1 k v wr) (o : Obj) : RowX (wr.alloc o) (w1.heap.size + 1) v (List.replicate k (exC ndL (.slice none 0 0))) :=
  owns_keep h.row (fun x hx => Below.heap_alloc _ _ x (owns_lt h.row x hx).2)
theorem LiSt.more {w1 wr w3 : World} {k : Nat} {v v' : Value} (h : LiSt w1 k v wr) (hr : RowX w3 (w1.heap.size + 1) v' (List.replicate k (exC ndL (.slice none 0 0)) ++ [exC ndL (.slice none 0 0)])) (hg : (wr.alloc (exO ndL (.slice none 0 0))).grownBy w3 v.ownBlock) :
    Blk w3 w1.heap.size (exC ndS v) 29 ∧ LiSt w1 (k + 1) v' (w3.setCell ⟨w1.heap.size, 13, none⟩ v') := by
  have hlt := h.box.lt
  have hown := owns_lt h.row
  have hb3 : Blk w3 w1.heap.size (exC ndS v) 29 := (hg.block _ (by simp; omega) (fun e => by have := (hown _ e.symm).1; omega)).trans (h.box.alloc _)
  refine ⟨hb3, below_set ((step h.low _).grown hg (by have := h.low.size; simp; omega) (fun x e => by have := (hown x e).1; omega)) (Nat.le_refl _) _ _, set_kids ndS v v' ▸ hb3.set 13 v', ?_⟩
  rw [List.replicate_succ']
  exact owns_keep hr (fun x hx => Below.heap_setCell _ _ _ x (by have := (owns_lt hr x hx).1; show x ≠ w1.heap.size; omega))
theorem OwK.rep (w : World) : ∀ k : Nat, OwK w (List.replicate k (exC ndL (.slice none 0 0))) (List.replicate k leafL) []
  | 0 => rfl
  | k + 1 => by
    rw [List.replicate_succ, List.replicate_succ]
    exact ⟨[], [], rfl, by unfold Ow; exact ⟨_, _, _, rfl, rfl, .inl ⟨rfl, rfl, rfl, rfl⟩⟩, OwK.rep w k⟩
theorem LiSt.tree {w1 wr : World} {k : Nat} {v : Value} (h : LiSt w1 k v wr) (hk : k ≤ 1000000) : ∃ a l c, v = .slice a l c ∧ Tree wr (exV ndS v) (li k) := by
  obtain ⟨a, l, c, rfl, ho⟩ := tree_row (nd := ndS) h.row (OwK.rep wr k)
  refine ⟨a, l, c, rfl, ho.in' _ (fun x hx => ?_) ?_⟩
  · have e : (Value.slice a l c).ownBlock = some x := by simpa using hx
    exact (owns_lt h.row x e).2
  · unfold SmE; exact ⟨by decide, by rw [List.length_replicate]; omega, rep_sm k⟩
/-- What is held against the third list, a row each. -/
structure Has3 (wr : World) (Bl Ba k : Nat) (n : Nd) (s : Value) (t : Ex) (lg : Bool) : Prop where
  cells : wr.rangeAt Ba (k * 14) (exC n s).toList
  long : wr.cell? ⟨Bl, k, none⟩ = some (.bool lg)
  tree : Tree wr (exV n s) t
  may : mayR t = if lg then 2 else 0
  fit : fitB t = !lg
theorem Has3.step {wr wr' : World} {Bl Ba k : Nat} {n : Nd} {s : Value} {t : Ex} {lg : Bool} (h : Has3 wr Bl Ba k n s t lg) (hb : Below wr.heap.size wr wr') : Has3 wr' Bl Ba k n s t lg := by
  have h1 : Ba < wr.heap.size := World.block_lt_of_cell? wr ⟨Ba, _, none⟩ (h.cells 0 _ rfl)
  have h2 : Bl < wr.heap.size := World.block_lt_of_cell? wr ⟨Bl, _, none⟩ h.long
  exact ⟨range_of_block h.cells (hb.block _ h1), (World.cell?_of_block (hb.block _ h2)).trans h.long, h.tree.step hb, h.may, h.fit⟩
theorem built3 (n1 n2 n3 : Nd) (s1 s2 s3 : Value) : Try.prog.built 56 [(0, exV n1 s1), (1, exV n2 s2), (2, exV n3 s3)] = some (exC n1 s1 ++ exC n2 s2 ++ exC n3 s3) := by kernel_rfl
/-- Three trees in one array. -/
def c42 (n1 n2 n3 : Nd) (s1 s2 s3 : Value) : Array Value := exC n1 s1 ++ exC n2 s2 ++ exC n3 s3
theorem c42_size (n1 n2 n3 : Nd) (s1 s2 s3 : Value) : (c42 n1 n2 n3 s1 s2 s3).size = 42 := by unfold c42; rw [Array.size_append, Array.size_append, exC_size, exC_size, exC_size]
theorem c42_one (n1 n2 n3 : Nd) (a1 a2 a3 : Option Addr) (l1 l2 l3 p1 p2 p3 : Nat) : (c42 n1 n2 n3 (.slice a1 l1 p1) (.slice a2 l2 p2) (.slice a3 l3 p3)).all (·.oneCell') = true := by
  unfold c42; rw [Array.all_append, Array.all_append, exC_one, exC_one, exC_one]; rfl
theorem c42_info : (Try.prog.info? 56).map (·.size) = some 42 := by kernel_rfl
section
variable {ops : Array Oper} {rest : List Oper} {o : Oper} {a : Act} {w : World} {Q : Exit → Act → World → Prop}
theorem wpList_build3 (hg : o.guard = none) (x y z : Operand) (ho : o.op = .build 56 #[(0, x), (1, y), (2, z)]) (n1 n2 n3 : Nd) (s1 s2 s3 : Value) (hx : a.eval x = exV n1 s1) (hy : a.eval y = exV n2 s2) (hz : a.eval z = exV n3 s3)
    (h : wpList Try.prog ops Q rest (a.put o.dst (.agg (c42 n1 n2 n3 s1 s2 s3))) w) : wpList Try.prog ops Q (o :: rest) a w := by
  have hb : Try.prog.built 56 ((#[(0, x), (1, y), (2, z)] : Array (Nat × Operand)).map fun (i, x) => (i, a.eval x)).toList = some (c42 n1 n2 n3 s1 s2 s3) := by
    rw [Array.toList_map]
    show Try.prog.built _ [(0, a.eval x), (1, a.eval y), (2, a.eval z)] = _
    rw [hx, hy, hz]; exact built3 _ _ _ _ _ _
  refine wpList_build hg _ _ ho (by rw [hb]; rfl) ?_
  rw [hb]; exact h
theorem wpList_store3 (hgd : o.guard = none) (x y : Operand) (ho : o.op = .store 56 x y) (c : Array Value) (n1 n2 n3 : Nd) (a1 a2 a3 : Option Addr) (l1 l2 l3 p1 p2 p3 : Nat) (g : Nat) (hx : a.eval x = .pointer (some ⟨g, 0, none⟩)) (hgw : g = w.heap.size)
    (hy : a.eval y = .agg (c42 n1 n2 n3 (.slice a1 l1 p1) (.slice a2 l2 p2) (.slice a3 l3 p3))) (hc : c.size = 42)
    (h : wpList Try.prog ops Q rest (a.put o.dst undef) (w.alloc (.cells (c42 n1 n2 n3 (.slice a1 l1 p1) (.slice a2 l2 p2) (.slice a3 l3 p3)) 56))) : wpList Try.prog ops Q (o :: rest) a (w.alloc (.cells c 56)) :=
  wpList_store_new hgd _ x y ho c _ g hx hgw hy (by rw [c42_size]; exact c42_info) (by rw [hc, c42_size]) (c42_one _ _ _ _ _ _ _ _ _ _ _ _) h
end
theorem c42_range {w : World} {B : Nat} {n1 n2 n3 : Nd} {s1 s2 s3 : Value} (h : Blk w B (c42 n1 n2 n3 s1 s2 s3) 56) : w.rangeAt B (0 * 14) (exC n1 s1).toList ∧ w.rangeAt B (1 * 14) (exC n2 s2).toList ∧ w.rangeAt B (2 * 14) (exC n3 s3).toList := by
  have hj : ∀ (n : Nd) (s : Value) (j : Nat) (v : Value), (exC n s).toList[j]? = some v → j < 14 := fun n s j v hv => by have := (List.getElem?_eq_some_iff.1 hv).1; rwa [exC_len] at this
  refine ⟨fun j v hv => ?_, fun j v hv => ?_, fun j v hv => ?_⟩
  · have h14 := hj _ _ _ _ hv
    rw [cell_of_row w B _ _ _ _ h]
    unfold c42
    rw [Array.getElem?_append_left (by rw [Array.size_append, exC_size, exC_size]; omega), Array.getElem?_append_left (by rw [exC_size]; omega), show 0 * 14 + j = j by omega]
    rwa [Array.getElem?_toList] at hv
  · have h14 := hj _ _ _ _ hv
    rw [cell_of_row w B _ _ _ _ h]
    unfold c42
    rw [Array.getElem?_append_left (by rw [Array.size_append, exC_size, exC_size]; omega), Array.getElem?_append_right (by rw [exC_size]; omega), exC_size, show 1 * 14 + j - 14 = j by omega]
    rwa [Array.getElem?_toList] at hv
  · have h14 := hj _ _ _ _ hv
    rw [cell_of_row w B _ _ _ _ h]
    unfold c42
    rw [Array.getElem?_append_right (by rw [Array.size_append, exC_size, exC_size]; omega), Array.size_append, exC_size, exC_size, show 2 * 14 + j - (14 + 14) = j by omega]
    rwa [Array.getElem?_toList] at hv
theorem made_u8 (n i : Nat) (hi : i < n) : (madeCells #[.int .u8 0] (n * 1)).toList[i]? = some (.int .u8 0) := by
  unfold madeCells
  rw [Array.getElem?_toList, Array.getElem?_map, Array.getElem?_eq_getElem (by simpa using hi)]
  simp [Nat.mod_one]
/-- A new row of zero bytes, as a text. -/
theorem mk_bytes {w' : World} {base g n : Nat} (ho : w'.ownsRow base 5 1 (.slice (some ⟨g, 0, none⟩) n n) n (madeCells #[.int .u8 0] (n * 1)).toList) : ∃ s : ByteArray, s.size = n ∧ (convert 54 9 (.slice (some ⟨g, 0, none⟩) n n)).run Try.prog w' = .ok (.string s) w' := by
  refine ⟨_, ?_, run_convert_bytes_arg (P := Try.prog) w' 54 5 Try.underlying54 Try.underlying5 g 0 n n (List.replicate n 0) (by simp) (fun i hi => ?_) 9 Try.underlying9⟩
  · rw [strOfNums_size]; simp
  · rcases ho.2 with ⟨e, _⟩ | ⟨g', cap, cur, e, _, hg, hc, _, hz, ht⟩
    · cases e
    · cases e
      rw [Nat.zero_add, cell_of_row w' g i cur _ _ hg, ← Array.getElem?_toList]
      have h := made_u8 n i hi
      rw [← ht, List.getElem?_take, if_pos (by omega)] at h
      rw [h]
      simp [hi]
theorem lg_may {m z : Int} {x y : Nat} (h : m = if x < y then 2 else 0) (hz : z = (y : Int)) : m = if decide ((x : Int) < z) then 2 else 0 := by
  rw [h, hz]; by_cases q : x < y <;> simp [q]
theorem lg_fit {b : Bool} {z : Int} {x y : Nat} (h : b = decide (y ≤ x)) (hz : z = (y : Int)) : b = !decide ((x : Int) < z) := by
  rw [h, hz]; by_cases q : y ≤ x
  · have : ¬ x < y := by omega
    simp [q]
  · have : x < y := by omega
    simp [this]
end Go.Proofs.Ytdegfmebgllklaa
