/- parse: the reader in memory, and its small methods. -/
import Derived.Test.YtdlomdbmmhjppaaGreatDoorDeJ
import Derived.Test.YtdlomdbmmhjppaaGreatDoorCtJ
import Derived.BigRegion
namespace Go.Proofs.YtdlomdbmmhjppaaGreatDoor
open Go.RowKit Go.Sort
set_option linter.unusedVariables false

/-- The reader: its words, which one is next, how many brackets are open. -/
structure Rdr (w : World) (B g c mB : Nat) (l : List Wd) (i o : Nat) : Prop where
  blk : Blk w B #[.slice (some ⟨g, 0, none⟩) l.length c, .int .i64 i, .int .i64 o, .map (some mB)] 92
  words : WordsIn w (some ⟨g, 0, none⟩) l
  len : l.length ≤ 100000 ∧ l.length ≤ c
  ne : g ≠ B
theorem Rdr.keep {w w' : World} {B g c mB i o : Nat} {l : List Wd} (h : Rdr w B g c mB l i o) (hb : Below w.heap.size w w') : Rdr w' B g c mB l i o := ⟨h.blk.keep hb, h.words.keep hb, h.len, h.ne⟩
theorem Rdr.wd {w : World} {B g c mB i o : Nat} {l : List Wd} (h : Rdr w B g c mB l i o) (hi : i < l.length) : WdAt w g i (wdAt l i) := by
  obtain ⟨_, h0 | ⟨g', e, hj⟩⟩ := h.words
  · rw [h0] at hi; exact absurd hi (Nat.not_lt_zero _)
  · cases e
    have := hj i hi
    unfold wdAt
    rwa [List.getD_eq_getElem?_getD, List.getElem?_eq_getElem hi]
set_option maxHeartbeats 1000000 in
set_option maxRecDepth 100000 in
theorem sign_any {w : World} {B g c mB i o : Nat} {l : List Wd} (h : Rdr w B g c mB l i o) (hi : i < l.length) : Calls Tryz.prog 104 #[.pointer (some ⟨B, 0, none⟩)] w fun e w' => e = .returned (.string (ba (sgAt l i))) ∧ Below w.heap.size w w' := by
  obtain ⟨k0, k1, k2⟩ := h.wd hi
  have b0 : w.cell? ⟨B, 0, none⟩ = some (.slice (some ⟨g, 0, none⟩) l.length c) := h.blk.at' 0
  have b1 : w.cell? ⟨B, 1, none⟩ = some (.int .i64 (i : Int)) := h.blk.at' 1
  have st := step (Below.refl w.heap.size w) (.cells #[.int .i64 0, .string no, .int .i64 0] 44)
  have c0 := keep1 st b0
  have c1 := keep1 st b1
  have c2 := keep1 st k0
  have c3 := keep1 st k1
  have c4 := keep1 st k2
  have p1 : (i : Int) < (l.length : Int) := by omega
  have p2 : (l.length : Int) ≤ (c : Int) := by have := h.len; omega
  unfold sgAt
  generalize wdAt l i = x at *
  obtain ⟨xk, xt, xa⟩ := x
  simp only at k0 k1 k2 c2 c3 c4 ⊢
  replace st := hide st
  by_cases hk : xk = 7
  · subst hk
    rw [if_pos rfl]
    clear h
    go_enter Tryz.func104, Tryz.ntmps104
    go_wp2_with fail
    go_region
    all_goals (go_wp2_with fail)
    all_goals go_ret
    all_goals exact ⟨rfl, by go_grown⟩
  · rw [if_neg hk]
    have hk' : ((xk : Int) == 7) = false := by rw [beq_eq_false_iff_ne]; omega
    clear h
    go_enter Tryz.func104, Tryz.ntmps104
    go_wp2_with fail
    go_region
    all_goals (go_wp2_with fail)
    all_goals go_ret
    all_goals exact ⟨rfl, by go_grown⟩
theorem cell_same {w w' : World} {g : Nat} (h : w'.heap[g]? = w.heap[g]?) {o : Nat} {v : Value} (hc : w.cell? ⟨g, o, none⟩ = some v) : w'.cell? ⟨g, o, none⟩ = some v := by
  rw [← hc]; unfold World.cell?; simp only [h]
theorem WordsIn.same {w w' : World} {g : Nat} {l : List Wd} (h : WordsIn w (some ⟨g, 0, none⟩) l) (hs : w'.heap[g]? = w.heap[g]?) : WordsIn w' (some ⟨g, 0, none⟩) l := ⟨h.1, by
  rcases h.2 with h | ⟨g', e, h⟩
  · exact .inl h
  · cases e
    exact .inr ⟨g, rfl, fun j hj => ⟨cell_same hs (h j hj).1, cell_same hs (h j hj).2.1, cell_same hs (h j hj).2.2⟩⟩⟩
theorem Rdr.glt {w : World} {B g c mB i o : Nat} {l : List Wd} (h : Rdr w B g c mB l i o) (hi : i < l.length) : g < w.heap.size := by
  obtain ⟨k0, _⟩ := h.wd hi
  exact World.block_lt_of_cell? w _ k0
/-- The reader's number of the next word is set. -/
theorem Rdr.put {w w' : World} {B g c mB i o j : Nat} {l : List Wd} (h : Rdr w B g c mB l i o) (hi : i < l.length) (hb : Below (w.setCell ⟨B, 1, none⟩ (.int .i64 (j : Int))).heap.size (w.setCell ⟨B, 1, none⟩ (.int .i64 (j : Int))) w') : Rdr w' B g c mB l j o ∧ w.grownBy w' (some B) := by
  have hg := grown_set w B 1 (.int .i64 (j : Int))
  refine ⟨⟨?_, ?_, h.len, h.ne⟩, grown_trans hg (grown_of hb _)⟩
  · exact Blk.keep (h.blk.set 1 (.int .i64 (j : Int))) hb
  · exact (h.words.same (hg.block g (h.glt hi) (fun e => h.ne (by cases e; rfl)))).keep hb
/-- The reader has gone on: nothing else of what was there is written. -/
structure On (w w' : World) (B g c mB : Nat) (l : List Wd) (i o : Nat) : Prop where
  rd : Rdr w' B g c mB l i o
  gr : w.grownBy w' (some B)
set_option maxHeartbeats 1000000 in
set_option maxRecDepth 100000 in
theorem take_any {w : World} {B g c mB i o : Nat} {l : List Wd} (h : Rdr w B g c mB l i o) (hi : i < l.length) : Calls Tryz.prog 106 #[.pointer (some ⟨B, 0, none⟩)] w fun e w' => e = .returned (wdV (wdAt l i).kind (ba (wdAt l i).text) (wdAt l i).at') ∧ On w w' B g c mB l (i + 1) o := by
  have hB := h.blk.lt
  obtain ⟨k0, k1, k2⟩ := h.wd hi
  have b0 : w.cell? ⟨B, 0, none⟩ = some (.slice (some ⟨g, 0, none⟩) l.length c) := h.blk.at' 0
  have b1 : w.cell? ⟨B, 1, none⟩ = some (.int .i64 (i : Int)) := h.blk.at' 1
  have st := step (Below.refl w.heap.size w) (.cells #[.int .i64 0, .string no, .int .i64 0] 44)
  have st2 := step st (.cells #[.int .i64 0, .string no, .int .i64 0] 44)
  have c0 := keep1 st b0
  have c1 := keep1 st b1
  have c2 := keep1 st k0
  have c3 := keep1 st k1
  have c4 := keep1 st k2
  have d0 := keep1 st2 b0
  have d1 := keep1 st2 b1
  have d2 := keep1 st2 k0
  have d3 := keep1 st2 k1
  have d4 := keep1 st2 k2
  have p1 : (i : Int) < (l.length : Int) := by omega
  have p2 : (l.length : Int) ≤ (c : Int) := by have := h.len; omega
  have wk := IntWalk.wrap64_in ((i : Int) + 1) ⟨by omega, by have := h.len; omega⟩
  generalize wdAt l i = x at *
  obtain ⟨xk, xt, xa⟩ := x
  simp only at k0 k1 k2 c2 c3 c4 d2 d3 d4 ⊢
  have st3 := hide (fun ob => step st ob)
  have e1 := fun (k : Nat) (t : ByteArray) (a : Nat) => keep1 (step st (.cells #[.int .i64 (k : Int), .string t, .int .i64 (a : Int)] 44)) b1
  have f1 := fun (k : Nat) (t : ByteArray) (a : Nat) => (h.blk.keep (step st (.cells #[.int .i64 (k : Int), .string t, .int .i64 (a : Int)] 44))).fr 1
  replace st := hide st
  replace st2 := hide st2
  replace h := hide h
  go_enter Tryz.func106, Tryz.ntmps106
  go_wp2_with fail
  go_region
  all_goals (go_wp2_with fail)
  all_goals refine bodyPost_ret (v := wdV xk (ba xt) xa) (by simp [results, Tryz.results106, go_sem]; try rfl) rfl ?_
  all_goals
    obtain ⟨r1, r2⟩ := h.out.put (j := i + 1) hi (step (step (Below.refl _ _) (.cells #[.int .i64 (xk : Int), .string (ba xt), .int .i64 (xa : Int)] 44)) (.cells #[.int .i64 (xk : Int), .string (ba xt), .int .i64 (xa : Int)] 44)).drew
    exact ⟨rfl, r1, r2⟩
end Go.Proofs.YtdlomdbmmhjppaaGreatDoor
