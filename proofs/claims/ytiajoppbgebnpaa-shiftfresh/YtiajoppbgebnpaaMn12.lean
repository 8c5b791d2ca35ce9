/- shift.movedNode: a node with its own references moved. -/
import Derived.Test.YtiajoppbgebnpaaMv12
import Derived.Test.YtiajoppbgebnpaaQTail
import Derived.Test.YtiajoppbgebnpaaCopyT9
import Derived.Test.YtiajoppbgebnpaaApp9
namespace Go.Proofs.Ytiajoppbgebnpaa
open Go.RowKit Go.Sort
set_option linter.unusedVariables false

abbrev rfA (r : Rf) : Array Value := #[.int .i64 r.row, .int .i64 r.col, .bool r.pr, .bool r.pc]
abbrev rfO (r : Rf) : Obj := .cells (rfA r) 35
theorem rf_info (r : Rf) : (Try.prog.info? 35).map (·.size) = some (rfA r).size := by show _ = some 4; kernel_rfl
def putR (w : World) (b j : Nat) (r : Rf) : World := w.setCells b j (rfA r).toList
theorem wpList_putR {ops : Array Oper} {rest : List Oper} {op : Oper} {a : Act} {w : World} {Q : Exit → Act → World → Prop} {b j : Nat} {r : Rf} (hgd : op.guard = none) (x y : Operand) (ho : op.op = .store 35 x y)
    (hx : a.eval x = .pointer (some ⟨b, j, none⟩)) (hy : a.eval y = rfV r) (ht : w.there b j 4) (h : wpList Try.prog ops Q rest (a.put op.dst undef) (putR w b j r)) : wpList Try.prog ops Q (op :: rest) a w :=
  wpList_store_mid hgd 35 x y ho b j (rfA r) hx hy ht (rf_info r) (by simp [Value.oneCell']) h
theorem Blk.putR4 {w : World} {b : Nat} {n : Nd} {s : Value} (h : Blk w b (exC n s) 37) (r : Rf) : Blk (putR w b 4 r) b (exC { n with ref := r } s) 37 := (((h.set 4 (.int .i64 r.row)).set 5 (.int .i64 r.col)).set 6 (.bool r.pr)).set 7 (.bool r.pc)
theorem Blk.putR8 {w : World} {b : Nat} {n : Nd} {s : Value} (h : Blk w b (exC n s) 37) (r : Rf) : Blk (putR w b 8 r) b (exC { n with to := r } s) 37 := (((h.set 8 (.int .i64 r.row)).set 9 (.int .i64 r.col)).set 10 (.bool r.pr)).set 11 (.bool r.pc)
theorem Blk.putO {w : World} {b g j : Nat} {r : Rf} {vs : Array Value} {t : TypeId} (h : Blk w g vs t) (hne : g ≠ b) : Blk (putR w b j r) g vs t := (heap_setCells b _ j w g hne).trans h
theorem Blk.thr {w : World} {b : Nat} {n : Nd} {s : Value} (h : Blk w b (exC n s) 37) {j : Nat} (hj : j + 4 ≤ 14) : w.there b j 4 := there_of_row h (by rw [exC_size]; exact hj)
theorem below_putR {N : Nat} {a w : World} (h : Below N a w) {b : Nat} (hb : N ≤ b) (j : Nat) (r : Rf) : Below N a (putR w b j r) := below_setCells h hb _ _
theorem cell_rg {w : World} {p : Addr} {v : Value} (h : w.cell? p = some v) (d : Nat) (os : Array Obj) : (grow (redrawn w d) os).cell? p = some v := by
  have hb : p.block < w.heap.size := by
    unfold World.cell? at h
    cases hq : w.heap[p.block]? with
    | none => rw [hq] at h; cases h
    | some o => exact (Array.getElem?_eq_some_iff.1 hq).1
  rw [← h]
  exact World.cell?_of_block ((below_regrown w d os).block _ hb)
/-- The list behind: gone with a lost node. -/
def slM (f : Mv) (n : Nd) (s : Value) : Value := if gridB (putN f n) then s else .slice none 0 0
theorem slM_yes {f : Mv} {n : Nd} {s : Value} (h : gridB (putN f n) = true) : slM f n s = s ∧ movN f n = putN f n := by unfold slM movN; rw [h]; exact ⟨rfl, rfl⟩
theorem slM_no {f : Mv} {n : Nd} {s : Value} (h : gridB (putN f n) = false) : slM f n s = .slice none 0 0 ∧ movN f n = lostN := by unfold slM movN; rw [h]; exact ⟨rfl, rfl⟩
set_option maxHeartbeats 2000000 in
set_option maxRecDepth 100000 in
theorem mn_other {w0 : World} {f : Mv} {F : Nat} {caps : Array Value} (hmv : MvIs w0 f F caps) (nd : Nd) (a : Option Addr) (len cap : Nat) (w : World) (hw : Below w0.heap.size w0 w) (ht : toldB nd len = true) (h5 : nd.kind ≠ 5) (h6 : nd.kind ≠ 6) :
    Calls Try.prog 53 #[exV nd (.slice a len cap), .func (.func F) #[] caps] w fun e w' => e = .returned (exV (movN f nd) (slM f nd (.slice a len cap))) ∧ Below w.heap.size w w' := by
  have e1 : putN f nd = nd := by unfold putN; rw [if_neg h5, if_neg h6]
  obtain ⟨z1, z2⟩ := told_zero ht h5 h6
  have e2 : gridB (putN f nd) = true := by rw [e1]; unfold gridB; rw [z1, z2]; rfl
  rw [(slM_yes (s := .slice a len cap) e2).1, (slM_yes (s := .slice a len cap) e2).2, e1]
  have G1 := hide (grid_any nd.ref)
  have G2 := hide (grid_any nd.to)
  have m1 : mayB nd.ref.row nd.ref.col = true := by rw [z1]; rfl
  have m2 : mayB nd.to.row nd.to.col = true := by rw [z2]; rfl
  rw [m1] at G1
  rw [m2] at G2
  have k5 : (nd.kind == 5) = false := by simp [h5]
  have k6 : (nd.kind == 6) = false := by simp [h6]
  clear e1 z1 z2 e2 m1 m2 hmv ht hw h5 h6
  obtain ⟨a0, a1, a2, a3, a4, a5, a6, a7, a8, a9, a10, a11, a12, a13⟩ := at14 nd (.slice a len cap)
  go_enter Try.func53, Try.ntmps53
  go_wp2_with fail
  go_region
  all_goals clear a0 a1 a2 a3 a4 a5 a6 a7 a8 a9 a10 a11 a12 a13
  · skip
    have B5 : Hid (Below w.heap.size w ((((w.alloc (exO nd (.slice a len cap))).alloc (.cells #[.int .i64 0, .int .i64 0, .int .i64 0, .string { data := #[] }, .int .i64 0, .int .i64 0, .bool false, .bool false, .int .i64 0, .int .i64 0, .bool false, .bool false, .int .i64 0, .slice none 0 0] 37)).alloc (rfO nd.ref)).alloc (rfO nd.to)).drew) := hide (step (step (step (step (Below.refl _ w) _) _) _) _).drew
    have N5 : Hid (Blk ((((w.alloc (exO nd (.slice a len cap))).alloc (.cells #[.int .i64 0, .int .i64 0, .int .i64 0, .string { data := #[] }, .int .i64 0, .int .i64 0, .bool false, .bool false, .int .i64 0, .int .i64 0, .bool false, .bool false, .int .i64 0, .slice none 0 0] 37)).alloc (rfO nd.ref)).alloc (rfO nd.to)).drew w.heap.size (exC nd (.slice a len cap)) 37) := hide ((((Blk.new w (exC nd (.slice a len cap)) 37).alloc (exO nd0 (.slice none 0 0))).alloc (rfO nd.ref)).alloc (rfO nd.to))
    have R5 : Hid (Blk ((((w.alloc (exO nd (.slice a len cap))).alloc (.cells #[.int .i64 0, .int .i64 0, .int .i64 0, .string { data := #[] }, .int .i64 0, .int .i64 0, .bool false, .bool false, .int .i64 0, .int .i64 0, .bool false, .bool false, .int .i64 0, .slice none 0 0] 37)).alloc (rfO nd.ref)).alloc (rfO nd.to)).drew (w.heap.size + 1) (exC nd0 (.slice none 0 0)) 37) := hide (((Blk.new1 w (exO nd (.slice a len cap)) (exC nd0 (.slice none 0 0)) 37).alloc (rfO nd.ref)).alloc (rfO nd.to))
    have X5 : Hid (Blk ((((w.alloc (exO nd (.slice a len cap))).alloc (.cells #[.int .i64 0, .int .i64 0, .int .i64 0, .string { data := #[] }, .int .i64 0, .int .i64 0, .bool false, .bool false, .int .i64 0, .int .i64 0, .bool false, .bool false, .int .i64 0, .slice none 0 0] 37)).alloc (rfO nd.ref)).alloc (rfO nd.to)).drew (w.heap.size + 1 + 1) (rfA nd.ref) 35) := hide ((Blk.new2 w (exO nd (.slice a len cap)) (exO nd0 (.slice none 0 0)) (rfA nd.ref) 35).alloc (rfO nd.to))
    have Y5 : Hid (Blk ((((w.alloc (exO nd (.slice a len cap))).alloc (.cells #[.int .i64 0, .int .i64 0, .int .i64 0, .string { data := #[] }, .int .i64 0, .int .i64 0, .bool false, .bool false, .int .i64 0, .int .i64 0, .bool false, .bool false, .int .i64 0, .slice none 0 0] 37)).alloc (rfO nd.ref)).alloc (rfO nd.to)).drew (w.heap.size + 1 + 1 + 1) (rfA nd.to) 35) := hide (Blk.new3 w (exO nd (.slice a len cap)) (exO nd0 (.slice none 0 0)) (rfO nd.ref) (rfA nd.to) 35)
    obtain ⟨w5, hw5⟩ : ∃ w5, w5 = ((((w.alloc (exO nd (.slice a len cap))).alloc (.cells #[.int .i64 0, .int .i64 0, .int .i64 0, .string { data := #[] }, .int .i64 0, .int .i64 0, .bool false, .bool false, .int .i64 0, .int .i64 0, .bool false, .bool false, .int .i64 0, .slice none 0 0] 37)).alloc (rfO nd.ref)).alloc (rfO nd.to)).drew := ⟨_, rfl⟩
    rw [← hw5] at B5 N5 R5 X5 Y5 ⊢
    clear hw5
    have F5 := X5
    have T5 := Y5
    clear X5 Y5
    have f0 := F5.out.at' 0
    have f1 := F5.out.at' 1
    have f2 := F5.out.at' 2
    have f3 := F5.out.at' 3
    have g0 := T5.out.at' 0
    have g1 := T5.out.at' 1
    have g2 := T5.out.at' 2
    have g3 := T5.out.at' 3
    simp [rfA] at f0 f1 f2 f3 g0 g1 g2 g3
    obtain ⟨u0, -, -, -, s4, s5, s6, s7, -, -, -, -, -, -⟩ := N5.out.c14
    clear f0 f1 f2 f3 g0 g1 g2 g3
    go_wp2_with (first
      | (refine wpList_load_blk rfl 37 _ rfl _ rfl _ (by with_reducible exact N2.out) _ Try.underlying37 rfl (exC_info _ _) ?_)
      | (have hst := R2.out; refine wpList_store_row rfl 37 _ _ rfl _ (exC nd (.slice a len cap)) rfl rfl 37 _ hst (exC_info _ _) (by rfl) (exC_one _ _ _ _) ?_)
      | (go_at_call 64; with_reducible refine (G2.out _).mono ?_; rintro e w8 ⟨rfl, hb⟩; have N2 := hide (N1.out.keep hb); have R2 := hide (R1.out.keep hb); have b2 := hide (next b1.out hb); clear hb)
      | (go_at_call 64; with_reducible refine (G1.out _).mono ?_; rintro e w7 ⟨rfl, hb⟩; have N1 := hide (N5.out.keep hb); have R1 := hide (R5.out.keep hb); have b1 := hide (next B5.out hb); obtain ⟨-, -, -, -, -, -, -, -, t8, t9, t10, t11, -, -⟩ := N1.out.c14; (try dsimp only at t8 t9 t10 t11); clear hb))
    have F3 := R2.out.setRow (cs := exC nd (.slice a len cap))
    refine bodyPost_ret (v := exV nd (.slice a len cap)) (results_cell_row Try.results53 _ _ (w.heap.size + 1) 37 (exC nd (.slice a len cap)) (0, 0) _ rfl F3 Try.underlying37 rfl (exC_info _ _)) rfl ?_
    exact ⟨rfl, below_setRow b2.out (by simp) _⟩
  · skip
    have B5 : Hid (Below w.heap.size w ((((w.alloc (exO nd (.slice a len cap))).alloc (.cells #[.int .i64 0, .int .i64 0, .int .i64 0, .string { data := #[] }, .int .i64 0, .int .i64 0, .bool false, .bool false, .int .i64 0, .int .i64 0, .bool false, .bool false, .int .i64 0, .slice none 0 0] 37)).alloc (rfO nd.to)).alloc (rfO nd.ref)).drew) := hide (step (step (step (step (Below.refl _ w) _) _) _) _).drew
    have N5 : Hid (Blk ((((w.alloc (exO nd (.slice a len cap))).alloc (.cells #[.int .i64 0, .int .i64 0, .int .i64 0, .string { data := #[] }, .int .i64 0, .int .i64 0, .bool false, .bool false, .int .i64 0, .int .i64 0, .bool false, .bool false, .int .i64 0, .slice none 0 0] 37)).alloc (rfO nd.to)).alloc (rfO nd.ref)).drew w.heap.size (exC nd (.slice a len cap)) 37) := hide ((((Blk.new w (exC nd (.slice a len cap)) 37).alloc (exO nd0 (.slice none 0 0))).alloc (rfO nd.to)).alloc (rfO nd.ref))
    have R5 : Hid (Blk ((((w.alloc (exO nd (.slice a len cap))).alloc (.cells #[.int .i64 0, .int .i64 0, .int .i64 0, .string { data := #[] }, .int .i64 0, .int .i64 0, .bool false, .bool false, .int .i64 0, .int .i64 0, .bool false, .bool false, .int .i64 0, .slice none 0 0] 37)).alloc (rfO nd.to)).alloc (rfO nd.ref)).drew (w.heap.size + 1) (exC nd0 (.slice none 0 0)) 37) := hide (((Blk.new1 w (exO nd (.slice a len cap)) (exC nd0 (.slice none 0 0)) 37).alloc (rfO nd.to)).alloc (rfO nd.ref))
    have X5 : Hid (Blk ((((w.alloc (exO nd (.slice a len cap))).alloc (.cells #[.int .i64 0, .int .i64 0, .int .i64 0, .string { data := #[] }, .int .i64 0, .int .i64 0, .bool false, .bool false, .int .i64 0, .int .i64 0, .bool false, .bool false, .int .i64 0, .slice none 0 0] 37)).alloc (rfO nd.to)).alloc (rfO nd.ref)).drew (w.heap.size + 1 + 1) (rfA nd.to) 35) := hide ((Blk.new2 w (exO nd (.slice a len cap)) (exO nd0 (.slice none 0 0)) (rfA nd.to) 35).alloc (rfO nd.ref))
    have Y5 : Hid (Blk ((((w.alloc (exO nd (.slice a len cap))).alloc (.cells #[.int .i64 0, .int .i64 0, .int .i64 0, .string { data := #[] }, .int .i64 0, .int .i64 0, .bool false, .bool false, .int .i64 0, .int .i64 0, .bool false, .bool false, .int .i64 0, .slice none 0 0] 37)).alloc (rfO nd.to)).alloc (rfO nd.ref)).drew (w.heap.size + 1 + 1 + 1) (rfA nd.ref) 35) := hide (Blk.new3 w (exO nd (.slice a len cap)) (exO nd0 (.slice none 0 0)) (rfO nd.to) (rfA nd.ref) 35)
    obtain ⟨w5, hw5⟩ : ∃ w5, w5 = ((((w.alloc (exO nd (.slice a len cap))).alloc (.cells #[.int .i64 0, .int .i64 0, .int .i64 0, .string { data := #[] }, .int .i64 0, .int .i64 0, .bool false, .bool false, .int .i64 0, .int .i64 0, .bool false, .bool false, .int .i64 0, .slice none 0 0] 37)).alloc (rfO nd.to)).alloc (rfO nd.ref)).drew := ⟨_, rfl⟩
    rw [← hw5] at B5 N5 R5 X5 Y5 ⊢
    clear hw5
    have T5 := X5
    have F5 := Y5
    clear X5 Y5
    have f0 := F5.out.at' 0
    have f1 := F5.out.at' 1
    have f2 := F5.out.at' 2
    have f3 := F5.out.at' 3
    have g0 := T5.out.at' 0
    have g1 := T5.out.at' 1
    have g2 := T5.out.at' 2
    have g3 := T5.out.at' 3
    simp [rfA] at f0 f1 f2 f3 g0 g1 g2 g3
    obtain ⟨u0, -, -, -, s4, s5, s6, s7, -, -, -, -, -, -⟩ := N5.out.c14
    clear f0 f1 f2 f3 g0 g1 g2 g3
    go_wp2_with (first
      | (refine wpList_load_blk rfl 37 _ rfl _ rfl _ (by with_reducible exact N2.out) _ Try.underlying37 rfl (exC_info _ _) ?_)
      | (have hst := R2.out; refine wpList_store_row rfl 37 _ _ rfl _ (exC nd (.slice a len cap)) rfl rfl 37 _ hst (exC_info _ _) (by rfl) (exC_one _ _ _ _) ?_)
      | (go_at_call 64; with_reducible refine (G2.out _).mono ?_; rintro e w8 ⟨rfl, hb⟩; have N2 := hide (N1.out.keep hb); have R2 := hide (R1.out.keep hb); have b2 := hide (next b1.out hb); clear hb)
      | (go_at_call 64; with_reducible refine (G1.out _).mono ?_; rintro e w7 ⟨rfl, hb⟩; have N1 := hide (N5.out.keep hb); have R1 := hide (R5.out.keep hb); have b1 := hide (next B5.out hb); obtain ⟨-, -, -, -, -, -, -, -, t8, t9, t10, t11, -, -⟩ := N1.out.c14; (try dsimp only at t8 t9 t10 t11); clear hb))
    have F3 := R2.out.setRow (cs := exC nd (.slice a len cap))
    refine bodyPost_ret (v := exV nd (.slice a len cap)) (results_cell_row Try.results53 _ _ (w.heap.size + 1) 37 (exC nd (.slice a len cap)) (0, 0) _ rfl F3 Try.underlying37 rfl (exC_info _ _)) rfl ?_
    exact ⟨rfl, below_setRow b2.out (by simp) _⟩
set_option maxHeartbeats 2000000 in
set_option maxRecDepth 100000 in
theorem mn_5t {w0 : World} {f : Mv} {F : Nat} {caps : Array Value} (hmv : MvIs w0 f F caps) (nd : Nd) (a : Option Addr) (len cap : Nat) (w : World) (hw : Below w0.heap.size w0 w) (ht : toldB nd len = true) (h5 : nd.kind = 5) (hg : mayB (f nd.ref nd.ref).row (f nd.ref nd.ref).col = true) :
    Calls Try.prog 53 #[exV nd (.slice a len cap), .func (.func F) #[] caps] w fun e w' => e = .returned (exV (movN f nd) (slM f nd (.slice a len cap))) ∧ Below w.heap.size w w' := by
  have e1 : putN f nd = { nd with ref := f nd.ref nd.ref } := by unfold putN; rw [if_pos h5]
  obtain ⟨z1, hm, rfl⟩ := shape5 ht h5
  have z2 : nd.to = rf0 := by rw [z1]
  have m2 : mayB nd.to.row nd.to.col = true := by rw [z2]; rfl
  have e2 : gridB (putN f nd) = true := by rw [e1]; unfold gridB; dsimp only; rw [hg, m2]; rfl
  rw [(slM_yes (s := .slice a 0 cap) e2).1, (slM_yes (s := .slice a 0 cap) e2).2, e1]
  have HC := hide (fun w' h => hmv.call nd.ref nd.ref w' h hm hm)
  have hent := hmv.ent
  have G1 := hide (grid_any (f nd.ref nd.ref))
  have G2 := hide (grid_any nd.to)
  rw [hg] at G1
  rw [m2] at G2
  have k5 : (nd.kind == 5) = true := by simp [h5]
  generalize f nd.ref nd.ref = r1 at *
  replace hw := hide hw
  clear e1 z1 z2 e2 m2 hmv ht h5 hm hg
  obtain ⟨a0, a1, a2, a3, a4, a5, a6, a7, a8, a9, a10, a11, a12, a13⟩ := at14 nd (.slice a 0 cap)
  go_enter Try.func53, Try.ntmps53
  go_wp2_with fail
  go_region
  all_goals clear a0 a1 a2 a3 a4 a5 a6 a7 a8 a9 a10 a11 a12 a13
  · skip
    have B5 : Hid (Below w.heap.size w ((((w.alloc (exO nd (.slice a 0 cap))).alloc (.cells #[.int .i64 0, .int .i64 0, .int .i64 0, .string { data := #[] }, .int .i64 0, .int .i64 0, .bool false, .bool false, .int .i64 0, .int .i64 0, .bool false, .bool false, .int .i64 0, .slice none 0 0] 37)).alloc (rfO nd.ref)).alloc (rfO nd.to)).drew) := hide (step (step (step (step (Below.refl _ w) _) _) _) _).drew
    have N5 : Hid (Blk ((((w.alloc (exO nd (.slice a 0 cap))).alloc (.cells #[.int .i64 0, .int .i64 0, .int .i64 0, .string { data := #[] }, .int .i64 0, .int .i64 0, .bool false, .bool false, .int .i64 0, .int .i64 0, .bool false, .bool false, .int .i64 0, .slice none 0 0] 37)).alloc (rfO nd.ref)).alloc (rfO nd.to)).drew w.heap.size (exC nd (.slice a 0 cap)) 37) := hide ((((Blk.new w (exC nd (.slice a 0 cap)) 37).alloc (exO nd0 (.slice none 0 0))).alloc (rfO nd.ref)).alloc (rfO nd.to))
    have R5 : Hid (Blk ((((w.alloc (exO nd (.slice a 0 cap))).alloc (.cells #[.int .i64 0, .int .i64 0, .int .i64 0, .string { data := #[] }, .int .i64 0, .int .i64 0, .bool false, .bool false, .int .i64 0, .int .i64 0, .bool false, .bool false, .int .i64 0, .slice none 0 0] 37)).alloc (rfO nd.ref)).alloc (rfO nd.to)).drew (w.heap.size + 1) (exC nd0 (.slice none 0 0)) 37) := hide (((Blk.new1 w (exO nd (.slice a 0 cap)) (exC nd0 (.slice none 0 0)) 37).alloc (rfO nd.ref)).alloc (rfO nd.to))
    have X5 : Hid (Blk ((((w.alloc (exO nd (.slice a 0 cap))).alloc (.cells #[.int .i64 0, .int .i64 0, .int .i64 0, .string { data := #[] }, .int .i64 0, .int .i64 0, .bool false, .bool false, .int .i64 0, .int .i64 0, .bool false, .bool false, .int .i64 0, .slice none 0 0] 37)).alloc (rfO nd.ref)).alloc (rfO nd.to)).drew (w.heap.size + 1 + 1) (rfA nd.ref) 35) := hide ((Blk.new2 w (exO nd (.slice a 0 cap)) (exO nd0 (.slice none 0 0)) (rfA nd.ref) 35).alloc (rfO nd.to))
    have Y5 : Hid (Blk ((((w.alloc (exO nd (.slice a 0 cap))).alloc (.cells #[.int .i64 0, .int .i64 0, .int .i64 0, .string { data := #[] }, .int .i64 0, .int .i64 0, .bool false, .bool false, .int .i64 0, .int .i64 0, .bool false, .bool false, .int .i64 0, .slice none 0 0] 37)).alloc (rfO nd.ref)).alloc (rfO nd.to)).drew (w.heap.size + 1 + 1 + 1) (rfA nd.to) 35) := hide (Blk.new3 w (exO nd (.slice a 0 cap)) (exO nd0 (.slice none 0 0)) (rfO nd.ref) (rfA nd.to) 35)
    obtain ⟨w5, hw5⟩ : ∃ w5, w5 = ((((w.alloc (exO nd (.slice a 0 cap))).alloc (.cells #[.int .i64 0, .int .i64 0, .int .i64 0, .string { data := #[] }, .int .i64 0, .int .i64 0, .bool false, .bool false, .int .i64 0, .int .i64 0, .bool false, .bool false, .int .i64 0, .slice none 0 0] 37)).alloc (rfO nd.ref)).alloc (rfO nd.to)).drew := ⟨_, rfl⟩
    rw [← hw5] at B5 N5 R5 X5 Y5 ⊢
    clear hw5
    have F5 := X5
    have T5 := Y5
    clear X5 Y5
    have f0 := F5.out.at' 0
    have f1 := F5.out.at' 1
    have f2 := F5.out.at' 2
    have f3 := F5.out.at' 3
    have g0 := T5.out.at' 0
    have g1 := T5.out.at' 1
    have g2 := T5.out.at' 2
    have g3 := T5.out.at' 3
    simp [rfA] at f0 f1 f2 f3 g0 g1 g2 g3
    obtain ⟨u0, -, -, -, s4, s5, s6, s7, -, -, -, -, -, -⟩ := N5.out.c14
    clear s4 s5 s6 s7
    go_wp2_with fail
    refine (HC.out _ (next hw.out B5.out)).mono ?_
    rintro e w6 ⟨rfl, hb⟩
    have B6 := hide (below_putR (next B5.out hb) (Nat.le_refl _) 4 r1)
    have th := (N5.out.keep hb).thr (j := 4) (by omega)
    have N6 := hide ((N5.out.keep hb).putR4 r1)
    have R6 := hide ((R5.out.keep hb).putO (b := w.heap.size) (j := 4) (r := r1) (by omega))
    clear hb f0 f1 f2 f3 g0 g1 g2 g3 u0
    go_wp2_with (first
      | (refine wpList_load_blk rfl 37 _ rfl _ rfl _ (by with_reducible exact N2.out) _ Try.underlying37 rfl (exC_info _ _) ?_)
      | (have hst := R2.out; refine wpList_store_row rfl 37 _ _ rfl _ (exC { nd with ref := r1 } (.slice a 0 cap)) rfl rfl 37 _ hst (exC_info _ _) (by rfl) (exC_one _ _ _ _) ?_)
      | (go_at_call 64; with_reducible refine (G2.out _).mono ?_; rintro e w8 ⟨rfl, hb⟩; have N2 := hide (N1.out.keep hb); have R2 := hide (R1.out.keep hb); have b2 := hide (next b1.out hb); clear hb)
      | (go_at_call 64; with_reducible refine (G1.out _).mono ?_; rintro e w7 ⟨rfl, hb⟩; have N1 := hide (N6.out.keep hb); have R1 := hide (R6.out.keep hb); have b1 := hide (next B6.out hb); obtain ⟨-, -, -, -, -, -, -, -, t8, t9, t10, t11, -, -⟩ := N1.out.c14; (try dsimp only at t8 t9 t10 t11); clear hb)
      | (refine wpList_putR (b := w.heap.size) (j := 4) (r := r1) rfl _ _ rfl rfl rfl (by with_reducible exact th) ?_; obtain ⟨w6p, hw6p⟩ : ∃ w6p, w6p = putR w6 w.heap.size 4 r1 := ⟨_, rfl⟩; rw [← hw6p] at B6 N6 R6 ⊢; clear hw6p th; obtain ⟨-, -, -, -, s4, s5, s6, s7, -, -, -, -, -, -⟩ := N6.out.c14; dsimp only at s4 s5 s6 s7))
    have F3 := R2.out.setRow (cs := exC { nd with ref := r1 } (.slice a 0 cap))
    refine bodyPost_ret (v := exV { nd with ref := r1 } (.slice a 0 cap)) (results_cell_row Try.results53 _ _ (w.heap.size + 1) 37 (exC { nd with ref := r1 } (.slice a 0 cap)) (0, 0) _ rfl F3 Try.underlying37 rfl (exC_info _ _)) rfl ?_
    exact ⟨rfl, below_setRow b2.out (by simp) _⟩
  · skip
    have B5 : Hid (Below w.heap.size w ((((w.alloc (exO nd (.slice a 0 cap))).alloc (.cells #[.int .i64 0, .int .i64 0, .int .i64 0, .string { data := #[] }, .int .i64 0, .int .i64 0, .bool false, .bool false, .int .i64 0, .int .i64 0, .bool false, .bool false, .int .i64 0, .slice none 0 0] 37)).alloc (rfO nd.to)).alloc (rfO nd.ref)).drew) := hide (step (step (step (step (Below.refl _ w) _) _) _) _).drew
    have N5 : Hid (Blk ((((w.alloc (exO nd (.slice a 0 cap))).alloc (.cells #[.int .i64 0, .int .i64 0, .int .i64 0, .string { data := #[] }, .int .i64 0, .int .i64 0, .bool false, .bool false, .int .i64 0, .int .i64 0, .bool false, .bool false, .int .i64 0, .slice none 0 0] 37)).alloc (rfO nd.to)).alloc (rfO nd.ref)).drew w.heap.size (exC nd (.slice a 0 cap)) 37) := hide ((((Blk.new w (exC nd (.slice a 0 cap)) 37).alloc (exO nd0 (.slice none 0 0))).alloc (rfO nd.to)).alloc (rfO nd.ref))
    have R5 : Hid (Blk ((((w.alloc (exO nd (.slice a 0 cap))).alloc (.cells #[.int .i64 0, .int .i64 0, .int .i64 0, .string { data := #[] }, .int .i64 0, .int .i64 0, .bool false, .bool false, .int .i64 0, .int .i64 0, .bool false, .bool false, .int .i64 0, .slice none 0 0] 37)).alloc (rfO nd.to)).alloc (rfO nd.ref)).drew (w.heap.size + 1) (exC nd0 (.slice none 0 0)) 37) := hide (((Blk.new1 w (exO nd (.slice a 0 cap)) (exC nd0 (.slice none 0 0)) 37).alloc (rfO nd.to)).alloc (rfO nd.ref))
    have X5 : Hid (Blk ((((w.alloc (exO nd (.slice a 0 cap))).alloc (.cells #[.int .i64 0, .int .i64 0, .int .i64 0, .string { data := #[] }, .int .i64 0, .int .i64 0, .bool false, .bool false, .int .i64 0, .int .i64 0, .bool false, .bool false, .int .i64 0, .slice none 0 0] 37)).alloc (rfO nd.to)).alloc (rfO nd.ref)).drew (w.heap.size + 1 + 1) (rfA nd.to) 35) := hide ((Blk.new2 w (exO nd (.slice a 0 cap)) (exO nd0 (.slice none 0 0)) (rfA nd.to) 35).alloc (rfO nd.ref))
    have Y5 : Hid (Blk ((((w.alloc (exO nd (.slice a 0 cap))).alloc (.cells #[.int .i64 0, .int .i64 0, .int .i64 0, .string { data := #[] }, .int .i64 0, .int .i64 0, .bool false, .bool false, .int .i64 0, .int .i64 0, .bool false, .bool false, .int .i64 0, .slice none 0 0] 37)).alloc (rfO nd.to)).alloc (rfO nd.ref)).drew (w.heap.size + 1 + 1 + 1) (rfA nd.ref) 35) := hide (Blk.new3 w (exO nd (.slice a 0 cap)) (exO nd0 (.slice none 0 0)) (rfO nd.to) (rfA nd.ref) 35)
    obtain ⟨w5, hw5⟩ : ∃ w5, w5 = ((((w.alloc (exO nd (.slice a 0 cap))).alloc (.cells #[.int .i64 0, .int .i64 0, .int .i64 0, .string { data := #[] }, .int .i64 0, .int .i64 0, .bool false, .bool false, .int .i64 0, .int .i64 0, .bool false, .bool false, .int .i64 0, .slice none 0 0] 37)).alloc (rfO nd.to)).alloc (rfO nd.ref)).drew := ⟨_, rfl⟩
    rw [← hw5] at B5 N5 R5 X5 Y5 ⊢
    clear hw5
    have T5 := X5
    have F5 := Y5
    clear X5 Y5
    have f0 := F5.out.at' 0
    have f1 := F5.out.at' 1
    have f2 := F5.out.at' 2
    have f3 := F5.out.at' 3
    have g0 := T5.out.at' 0
    have g1 := T5.out.at' 1
    have g2 := T5.out.at' 2
    have g3 := T5.out.at' 3
    simp [rfA] at f0 f1 f2 f3 g0 g1 g2 g3
    obtain ⟨u0, -, -, -, s4, s5, s6, s7, -, -, -, -, -, -⟩ := N5.out.c14
    clear s4 s5 s6 s7
    go_wp2_with fail
    refine (HC.out _ (next hw.out B5.out)).mono ?_
    rintro e w6 ⟨rfl, hb⟩
    have B6 := hide (below_putR (next B5.out hb) (Nat.le_refl _) 4 r1)
    have th := (N5.out.keep hb).thr (j := 4) (by omega)
    have N6 := hide ((N5.out.keep hb).putR4 r1)
    have R6 := hide ((R5.out.keep hb).putO (b := w.heap.size) (j := 4) (r := r1) (by omega))
    clear hb f0 f1 f2 f3 g0 g1 g2 g3 u0
    go_wp2_with (first
      | (refine wpList_load_blk rfl 37 _ rfl _ rfl _ (by with_reducible exact N2.out) _ Try.underlying37 rfl (exC_info _ _) ?_)
      | (have hst := R2.out; refine wpList_store_row rfl 37 _ _ rfl _ (exC { nd with ref := r1 } (.slice a 0 cap)) rfl rfl 37 _ hst (exC_info _ _) (by rfl) (exC_one _ _ _ _) ?_)
      | (go_at_call 64; with_reducible refine (G2.out _).mono ?_; rintro e w8 ⟨rfl, hb⟩; have N2 := hide (N1.out.keep hb); have R2 := hide (R1.out.keep hb); have b2 := hide (next b1.out hb); clear hb)
      | (go_at_call 64; with_reducible refine (G1.out _).mono ?_; rintro e w7 ⟨rfl, hb⟩; have N1 := hide (N6.out.keep hb); have R1 := hide (R6.out.keep hb); have b1 := hide (next B6.out hb); obtain ⟨-, -, -, -, -, -, -, -, t8, t9, t10, t11, -, -⟩ := N1.out.c14; (try dsimp only at t8 t9 t10 t11); clear hb)
      | (refine wpList_putR (b := w.heap.size) (j := 4) (r := r1) rfl _ _ rfl rfl rfl (by with_reducible exact th) ?_; obtain ⟨w6p, hw6p⟩ : ∃ w6p, w6p = putR w6 w.heap.size 4 r1 := ⟨_, rfl⟩; rw [← hw6p] at B6 N6 R6 ⊢; clear hw6p th; obtain ⟨-, -, -, -, s4, s5, s6, s7, -, -, -, -, -, -⟩ := N6.out.c14; dsimp only at s4 s5 s6 s7))
    have F3 := R2.out.setRow (cs := exC { nd with ref := r1 } (.slice a 0 cap))
    refine bodyPost_ret (v := exV { nd with ref := r1 } (.slice a 0 cap)) (results_cell_row Try.results53 _ _ (w.heap.size + 1) 37 (exC { nd with ref := r1 } (.slice a 0 cap)) (0, 0) _ rfl F3 Try.underlying37 rfl (exC_info _ _)) rfl ?_
    exact ⟨rfl, below_setRow b2.out (by simp) _⟩
set_option maxHeartbeats 2000000 in
set_option maxRecDepth 100000 in
theorem mn_5f {w0 : World} {f : Mv} {F : Nat} {caps : Array Value} (hmv : MvIs w0 f F caps) (nd : Nd) (a : Option Addr) (len cap : Nat) (w : World) (hw : Below w0.heap.size w0 w) (ht : toldB nd len = true) (h5 : nd.kind = 5) (hg : mayB (f nd.ref nd.ref).row (f nd.ref nd.ref).col = false) :
    Calls Try.prog 53 #[exV nd (.slice a len cap), .func (.func F) #[] caps] w fun e w' => e = .returned (exV (movN f nd) (slM f nd (.slice a len cap))) ∧ Below w.heap.size w w' := by
  have e1 : putN f nd = { nd with ref := f nd.ref nd.ref } := by unfold putN; rw [if_pos h5]
  obtain ⟨z1, hm, rfl⟩ := shape5 ht h5
  have z2 : nd.to = rf0 := by rw [z1]
  have m2 : mayB nd.to.row nd.to.col = true := by rw [z2]; rfl
  have e2 : gridB (putN f nd) = false := by rw [e1]; unfold gridB; dsimp only; rw [hg, m2]; rfl
  rw [(slM_no (s := .slice a 0 cap) e2).1, (slM_no (s := .slice a 0 cap) e2).2]
  have HC := hide (fun w' h => hmv.call nd.ref nd.ref w' h hm hm)
  have hent := hmv.ent
  have G1 := hide (grid_any (f nd.ref nd.ref))
  have G2 := hide (grid_any nd.to)
  rw [hg] at G1
  rw [m2] at G2
  have k5 : (nd.kind == 5) = true := by simp [h5]
  generalize f nd.ref nd.ref = r1 at *
  replace hw := hide hw
  clear e1 z1 z2 e2 m2 hmv ht h5 hm hg
  obtain ⟨a0, a1, a2, a3, a4, a5, a6, a7, a8, a9, a10, a11, a12, a13⟩ := at14 nd (.slice a 0 cap)
  go_enter Try.func53, Try.ntmps53
  go_wp2_with fail
  go_region
  all_goals clear a0 a1 a2 a3 a4 a5 a6 a7 a8 a9 a10 a11 a12 a13
  · skip
    have B5 : Hid (Below w.heap.size w ((((w.alloc (exO nd (.slice a 0 cap))).alloc (.cells #[.int .i64 0, .int .i64 0, .int .i64 0, .string { data := #[] }, .int .i64 0, .int .i64 0, .bool false, .bool false, .int .i64 0, .int .i64 0, .bool false, .bool false, .int .i64 0, .slice none 0 0] 37)).alloc (rfO nd.ref)).alloc (rfO nd.to)).drew) := hide (step (step (step (step (Below.refl _ w) _) _) _) _).drew
    have N5 : Hid (Blk ((((w.alloc (exO nd (.slice a 0 cap))).alloc (.cells #[.int .i64 0, .int .i64 0, .int .i64 0, .string { data := #[] }, .int .i64 0, .int .i64 0, .bool false, .bool false, .int .i64 0, .int .i64 0, .bool false, .bool false, .int .i64 0, .slice none 0 0] 37)).alloc (rfO nd.ref)).alloc (rfO nd.to)).drew w.heap.size (exC nd (.slice a 0 cap)) 37) := hide ((((Blk.new w (exC nd (.slice a 0 cap)) 37).alloc (exO nd0 (.slice none 0 0))).alloc (rfO nd.ref)).alloc (rfO nd.to))
    have R5 : Hid (Blk ((((w.alloc (exO nd (.slice a 0 cap))).alloc (.cells #[.int .i64 0, .int .i64 0, .int .i64 0, .string { data := #[] }, .int .i64 0, .int .i64 0, .bool false, .bool false, .int .i64 0, .int .i64 0, .bool false, .bool false, .int .i64 0, .slice none 0 0] 37)).alloc (rfO nd.ref)).alloc (rfO nd.to)).drew (w.heap.size + 1) (exC nd0 (.slice none 0 0)) 37) := hide (((Blk.new1 w (exO nd (.slice a 0 cap)) (exC nd0 (.slice none 0 0)) 37).alloc (rfO nd.ref)).alloc (rfO nd.to))
    have X5 : Hid (Blk ((((w.alloc (exO nd (.slice a 0 cap))).alloc (.cells #[.int .i64 0, .int .i64 0, .int .i64 0, .string { data := #[] }, .int .i64 0, .int .i64 0, .bool false, .bool false, .int .i64 0, .int .i64 0, .bool false, .bool false, .int .i64 0, .slice none 0 0] 37)).alloc (rfO nd.ref)).alloc (rfO nd.to)).drew (w.heap.size + 1 + 1) (rfA nd.ref) 35) := hide ((Blk.new2 w (exO nd (.slice a 0 cap)) (exO nd0 (.slice none 0 0)) (rfA nd.ref) 35).alloc (rfO nd.to))
    have Y5 : Hid (Blk ((((w.alloc (exO nd (.slice a 0 cap))).alloc (.cells #[.int .i64 0, .int .i64 0, .int .i64 0, .string { data := #[] }, .int .i64 0, .int .i64 0, .bool false, .bool false, .int .i64 0, .int .i64 0, .bool false, .bool false, .int .i64 0, .slice none 0 0] 37)).alloc (rfO nd.ref)).alloc (rfO nd.to)).drew (w.heap.size + 1 + 1 + 1) (rfA nd.to) 35) := hide (Blk.new3 w (exO nd (.slice a 0 cap)) (exO nd0 (.slice none 0 0)) (rfO nd.ref) (rfA nd.to) 35)
    obtain ⟨w5, hw5⟩ : ∃ w5, w5 = ((((w.alloc (exO nd (.slice a 0 cap))).alloc (.cells #[.int .i64 0, .int .i64 0, .int .i64 0, .string { data := #[] }, .int .i64 0, .int .i64 0, .bool false, .bool false, .int .i64 0, .int .i64 0, .bool false, .bool false, .int .i64 0, .slice none 0 0] 37)).alloc (rfO nd.ref)).alloc (rfO nd.to)).drew := ⟨_, rfl⟩
    rw [← hw5] at B5 N5 R5 X5 Y5 ⊢
    clear hw5
    have F5 := X5
    have T5 := Y5
    clear X5 Y5
    have f0 := F5.out.at' 0
    have f1 := F5.out.at' 1
    have f2 := F5.out.at' 2
    have f3 := F5.out.at' 3
    have g0 := T5.out.at' 0
    have g1 := T5.out.at' 1
    have g2 := T5.out.at' 2
    have g3 := T5.out.at' 3
    simp [rfA] at f0 f1 f2 f3 g0 g1 g2 g3
    obtain ⟨u0, -, -, -, s4, s5, s6, s7, -, -, -, -, -, -⟩ := N5.out.c14
    clear s4 s5 s6 s7
    go_wp2_with fail
    refine (HC.out _ (next hw.out B5.out)).mono ?_
    rintro e w6 ⟨rfl, hb⟩
    have B6 := hide (below_putR (next B5.out hb) (Nat.le_refl _) 4 r1)
    have th := (N5.out.keep hb).thr (j := 4) (by omega)
    have N6 := hide ((N5.out.keep hb).putR4 r1)
    have R6 := hide ((R5.out.keep hb).putO (b := w.heap.size) (j := 4) (r := r1) (by omega))
    clear hb f0 f1 f2 f3 g0 g1 g2 g3 u0
    go_wp2_with (first
      | (have hst := R1.out; refine wpList_store_row rfl 37 _ _ rfl _ (exC lostN (.slice none 0 0)) rfl rfl 37 _ hst (exC_info _ _) (by rfl) (exC_one _ _ _ _) ?_)
      | (go_at_call 64; with_reducible refine (G1.out _).mono ?_; rintro e w7 ⟨rfl, hb⟩; have N1 := hide (N6.out.keep hb); have R1 := hide (R6.out.keep hb); have b1 := hide (next B6.out hb); obtain ⟨-, -, -, -, -, -, -, -, t8, t9, t10, t11, -, -⟩ := N1.out.c14; (try dsimp only at t8 t9 t10 t11); clear hb)
      | (refine wpList_putR (b := w.heap.size) (j := 4) (r := r1) rfl _ _ rfl rfl rfl (by with_reducible exact th) ?_; obtain ⟨w6p, hw6p⟩ : ∃ w6p, w6p = putR w6 w.heap.size 4 r1 := ⟨_, rfl⟩; rw [← hw6p] at B6 N6 R6 ⊢; clear hw6p th; obtain ⟨-, -, -, -, s4, s5, s6, s7, -, -, -, -, -, -⟩ := N6.out.c14; dsimp only at s4 s5 s6 s7))
    have F3 := R1.out.setRow (cs := exC lostN (.slice none 0 0))
    refine bodyPost_ret (v := exV lostN (.slice none 0 0)) (results_cell_row Try.results53 _ _ (w.heap.size + 1) 37 (exC lostN (.slice none 0 0)) (0, 0) _ rfl F3 Try.underlying37 rfl (exC_info _ _)) rfl ?_
    exact ⟨rfl, below_setRow b1.out (by simp) _⟩
  · skip
    have B5 : Hid (Below w.heap.size w ((((w.alloc (exO nd (.slice a 0 cap))).alloc (.cells #[.int .i64 0, .int .i64 0, .int .i64 0, .string { data := #[] }, .int .i64 0, .int .i64 0, .bool false, .bool false, .int .i64 0, .int .i64 0, .bool false, .bool false, .int .i64 0, .slice none 0 0] 37)).alloc (rfO nd.to)).alloc (rfO nd.ref)).drew) := hide (step (step (step (step (Below.refl _ w) _) _) _) _).drew
    have N5 : Hid (Blk ((((w.alloc (exO nd (.slice a 0 cap))).alloc (.cells #[.int .i64 0, .int .i64 0, .int .i64 0, .string { data := #[] }, .int .i64 0, .int .i64 0, .bool false, .bool false, .int .i64 0, .int .i64 0, .bool false, .bool false, .int .i64 0, .slice none 0 0] 37)).alloc (rfO nd.to)).alloc (rfO nd.ref)).drew w.heap.size (exC nd (.slice a 0 cap)) 37) := hide ((((Blk.new w (exC nd (.slice a 0 cap)) 37).alloc (exO nd0 (.slice none 0 0))).alloc (rfO nd.to)).alloc (rfO nd.ref))
    have R5 : Hid (Blk ((((w.alloc (exO nd (.slice a 0 cap))).alloc (.cells #[.int .i64 0, .int .i64 0, .int .i64 0, .string { data := #[] }, .int .i64 0, .int .i64 0, .bool false, .bool false, .int .i64 0, .int .i64 0, .bool false, .bool false, .int .i64 0, .slice none 0 0] 37)).alloc (rfO nd.to)).alloc (rfO nd.ref)).drew (w.heap.size + 1) (exC nd0 (.slice none 0 0)) 37) := hide (((Blk.new1 w (exO nd (.slice a 0 cap)) (exC nd0 (.slice none 0 0)) 37).alloc (rfO nd.to)).alloc (rfO nd.ref))
    have X5 : Hid (Blk ((((w.alloc (exO nd (.slice a 0 cap))).alloc (.cells #[.int .i64 0, .int .i64 0, .int .i64 0, .string { data := #[] }, .int .i64 0, .int .i64 0, .bool false, .bool false, .int .i64 0, .int .i64 0, .bool false, .bool false, .int .i64 0, .slice none 0 0] 37)).alloc (rfO nd.to)).alloc (rfO nd.ref)).drew (w.heap.size + 1 + 1) (rfA nd.to) 35) := hide ((Blk.new2 w (exO nd (.slice a 0 cap)) (exO nd0 (.slice none 0 0)) (rfA nd.to) 35).alloc (rfO nd.ref))
    have Y5 : Hid (Blk ((((w.alloc (exO nd (.slice a 0 cap))).alloc (.cells #[.int .i64 0, .int .i64 0, .int .i64 0, .string { data := #[] }, .int .i64 0, .int .i64 0, .bool false, .bool false, .int .i64 0, .int .i64 0, .bool false, .bool false, .int .i64 0, .slice none 0 0] 37)).alloc (rfO nd.to)).alloc (rfO nd.ref)).drew (w.heap.size + 1 + 1 + 1) (rfA nd.ref) 35) := hide (Blk.new3 w (exO nd (.slice a 0 cap)) (exO nd0 (.slice none 0 0)) (rfO nd.to) (rfA nd.ref) 35)
    obtain ⟨w5, hw5⟩ : ∃ w5, w5 = ((((w.alloc (exO nd (.slice a 0 cap))).alloc (.cells #[.int .i64 0, .int .i64 0, .int .i64 0, .string { data := #[] }, .int .i64 0, .int .i64 0, .bool false, .bool false, .int .i64 0, .int .i64 0, .bool false, .bool false, .int .i64 0, .slice none 0 0] 37)).alloc (rfO nd.to)).alloc (rfO nd.ref)).drew := ⟨_, rfl⟩
    rw [← hw5] at B5 N5 R5 X5 Y5 ⊢
    clear hw5
    have T5 := X5
    have F5 := Y5
    clear X5 Y5
    have f0 := F5.out.at' 0
    have f1 := F5.out.at' 1
    have f2 := F5.out.at' 2
    have f3 := F5.out.at' 3
    have g0 := T5.out.at' 0
    have g1 := T5.out.at' 1
    have g2 := T5.out.at' 2
    have g3 := T5.out.at' 3
    simp [rfA] at f0 f1 f2 f3 g0 g1 g2 g3
    obtain ⟨u0, -, -, -, s4, s5, s6, s7, -, -, -, -, -, -⟩ := N5.out.c14
    clear s4 s5 s6 s7
    go_wp2_with fail
    refine (HC.out _ (next hw.out B5.out)).mono ?_
    rintro e w6 ⟨rfl, hb⟩
    have B6 := hide (below_putR (next B5.out hb) (Nat.le_refl _) 4 r1)
    have th := (N5.out.keep hb).thr (j := 4) (by omega)
    have N6 := hide ((N5.out.keep hb).putR4 r1)
    have R6 := hide ((R5.out.keep hb).putO (b := w.heap.size) (j := 4) (r := r1) (by omega))
    clear hb f0 f1 f2 f3 g0 g1 g2 g3 u0
    go_wp2_with (first
      | (have hst := R1.out; refine wpList_store_row rfl 37 _ _ rfl _ (exC lostN (.slice none 0 0)) rfl rfl 37 _ hst (exC_info _ _) (by rfl) (exC_one _ _ _ _) ?_)
      | (go_at_call 64; with_reducible refine (G1.out _).mono ?_; rintro e w7 ⟨rfl, hb⟩; have N1 := hide (N6.out.keep hb); have R1 := hide (R6.out.keep hb); have b1 := hide (next B6.out hb); obtain ⟨-, -, -, -, -, -, -, -, t8, t9, t10, t11, -, -⟩ := N1.out.c14; (try dsimp only at t8 t9 t10 t11); clear hb)
      | (refine wpList_putR (b := w.heap.size) (j := 4) (r := r1) rfl _ _ rfl rfl rfl (by with_reducible exact th) ?_; obtain ⟨w6p, hw6p⟩ : ∃ w6p, w6p = putR w6 w.heap.size 4 r1 := ⟨_, rfl⟩; rw [← hw6p] at B6 N6 R6 ⊢; clear hw6p th; obtain ⟨-, -, -, -, s4, s5, s6, s7, -, -, -, -, -, -⟩ := N6.out.c14; dsimp only at s4 s5 s6 s7))
    have F3 := R1.out.setRow (cs := exC lostN (.slice none 0 0))
    refine bodyPost_ret (v := exV lostN (.slice none 0 0)) (results_cell_row Try.results53 _ _ (w.heap.size + 1) 37 (exC lostN (.slice none 0 0)) (0, 0) _ rfl F3 Try.underlying37 rfl (exC_info _ _)) rfl ?_
    exact ⟨rfl, below_setRow b1.out (by simp) _⟩
set_option maxHeartbeats 2000000 in
set_option maxRecDepth 100000 in
theorem mn_6tt {w0 : World} {f : Mv} {F : Nat} {caps : Array Value} (hmv : MvIs w0 f F caps) (nd : Nd) (a : Option Addr) (len cap : Nat) (w : World) (hw : Below w0.heap.size w0 w) (ht : toldB nd len = true) (h6 : nd.kind = 6) (hg : mayB (f nd.ref nd.to).row (f nd.ref nd.to).col = true) (hg' : mayB (f nd.to nd.ref).row (f nd.to nd.ref).col = true) :
    Calls Try.prog 53 #[exV nd (.slice a len cap), .func (.func F) #[] caps] w fun e w' => e = .returned (exV (movN f nd) (slM f nd (.slice a len cap))) ∧ Below w.heap.size w w' := by
  have e1 : putN f nd = { nd with ref := f nd.ref nd.to, to := f nd.to nd.ref } := by unfold putN; rw [if_neg (by omega), if_pos h6]
  obtain ⟨z1, hm, hm', rfl⟩ := shape6 ht h6
  have e2 : gridB (putN f nd) = true := by rw [e1]; unfold gridB; dsimp only; rw [hg, hg']; rfl
  rw [(slM_yes (s := .slice a 0 cap) e2).1, (slM_yes (s := .slice a 0 cap) e2).2, e1]
  have HC := hide (fun w' h => hmv.call nd.ref nd.to w' h hm hm')
  have HD := hide (fun w' h => hmv.call nd.to nd.ref w' h hm' hm)
  have hent := hmv.ent
  have G1 := hide (grid_any (f nd.ref nd.to))
  have G2 := hide (grid_any (f nd.to nd.ref))
  rw [hg] at G1
  rw [hg'] at G2
  have k5 : (nd.kind == 5) = false := by rw [h6]; rfl
  have k6 : (nd.kind == 6) = true := by rw [h6]; rfl
  generalize f nd.ref nd.to = r1 at *
  generalize f nd.to nd.ref = r2 at *
  replace hw := hide hw
  clear e1 z1 e2 hmv ht h6 hm hm' hg hg'
  obtain ⟨a0, a1, a2, a3, a4, a5, a6, a7, a8, a9, a10, a11, a12, a13⟩ := at14 nd (.slice a 0 cap)
  go_enter Try.func53, Try.ntmps53
  go_wp2_with fail
  go_region
  all_goals clear a0 a1 a2 a3 a4 a5 a6 a7 a8 a9 a10 a11 a12 a13
  · skip
    have B5 : Hid (Below w.heap.size w ((((w.alloc (exO nd (.slice a 0 cap))).alloc (.cells #[.int .i64 0, .int .i64 0, .int .i64 0, .string { data := #[] }, .int .i64 0, .int .i64 0, .bool false, .bool false, .int .i64 0, .int .i64 0, .bool false, .bool false, .int .i64 0, .slice none 0 0] 37)).alloc (rfO nd.ref)).alloc (rfO nd.to)).drew) := hide (step (step (step (step (Below.refl _ w) _) _) _) _).drew
    have N5 : Hid (Blk ((((w.alloc (exO nd (.slice a 0 cap))).alloc (.cells #[.int .i64 0, .int .i64 0, .int .i64 0, .string { data := #[] }, .int .i64 0, .int .i64 0, .bool false, .bool false, .int .i64 0, .int .i64 0, .bool false, .bool false, .int .i64 0, .slice none 0 0] 37)).alloc (rfO nd.ref)).alloc (rfO nd.to)).drew w.heap.size (exC nd (.slice a 0 cap)) 37) := hide ((((Blk.new w (exC nd (.slice a 0 cap)) 37).alloc (exO nd0 (.slice none 0 0))).alloc (rfO nd.ref)).alloc (rfO nd.to))
    have R5 : Hid (Blk ((((w.alloc (exO nd (.slice a 0 cap))).alloc (.cells #[.int .i64 0, .int .i64 0, .int .i64 0, .string { data := #[] }, .int .i64 0, .int .i64 0, .bool false, .bool false, .int .i64 0, .int .i64 0, .bool false, .bool false, .int .i64 0, .slice none 0 0] 37)).alloc (rfO nd.ref)).alloc (rfO nd.to)).drew (w.heap.size + 1) (exC nd0 (.slice none 0 0)) 37) := hide (((Blk.new1 w (exO nd (.slice a 0 cap)) (exC nd0 (.slice none 0 0)) 37).alloc (rfO nd.ref)).alloc (rfO nd.to))
    have X5 : Hid (Blk ((((w.alloc (exO nd (.slice a 0 cap))).alloc (.cells #[.int .i64 0, .int .i64 0, .int .i64 0, .string { data := #[] }, .int .i64 0, .int .i64 0, .bool false, .bool false, .int .i64 0, .int .i64 0, .bool false, .bool false, .int .i64 0, .slice none 0 0] 37)).alloc (rfO nd.ref)).alloc (rfO nd.to)).drew (w.heap.size + 1 + 1) (rfA nd.ref) 35) := hide ((Blk.new2 w (exO nd (.slice a 0 cap)) (exO nd0 (.slice none 0 0)) (rfA nd.ref) 35).alloc (rfO nd.to))
    have Y5 : Hid (Blk ((((w.alloc (exO nd (.slice a 0 cap))).alloc (.cells #[.int .i64 0, .int .i64 0, .int .i64 0, .string { data := #[] }, .int .i64 0, .int .i64 0, .bool false, .bool false, .int .i64 0, .int .i64 0, .bool false, .bool false, .int .i64 0, .slice none 0 0] 37)).alloc (rfO nd.ref)).alloc (rfO nd.to)).drew (w.heap.size + 1 + 1 + 1) (rfA nd.to) 35) := hide (Blk.new3 w (exO nd (.slice a 0 cap)) (exO nd0 (.slice none 0 0)) (rfO nd.ref) (rfA nd.to) 35)
    obtain ⟨w5, hw5⟩ : ∃ w5, w5 = ((((w.alloc (exO nd (.slice a 0 cap))).alloc (.cells #[.int .i64 0, .int .i64 0, .int .i64 0, .string { data := #[] }, .int .i64 0, .int .i64 0, .bool false, .bool false, .int .i64 0, .int .i64 0, .bool false, .bool false, .int .i64 0, .slice none 0 0] 37)).alloc (rfO nd.ref)).alloc (rfO nd.to)).drew := ⟨_, rfl⟩
    rw [← hw5] at B5 N5 R5 X5 Y5 ⊢
    clear hw5
    have F5 := X5
    have T5 := Y5
    clear X5 Y5
    have f0 := F5.out.at' 0
    have f1 := F5.out.at' 1
    have f2 := F5.out.at' 2
    have f3 := F5.out.at' 3
    have g0 := T5.out.at' 0
    have g1 := T5.out.at' 1
    have g2 := T5.out.at' 2
    have g3 := T5.out.at' 3
    simp [rfA] at f0 f1 f2 f3 g0 g1 g2 g3
    obtain ⟨u0, -, -, -, s4, s5, s6, s7, -, -, -, -, -, -⟩ := N5.out.c14
    clear s4 s5 s6 s7
    have q0 := cell_rg f0
    have q1 := cell_rg f1
    have q2 := cell_rg f2
    have q3 := cell_rg f3
    have p0 := cell_rg g0
    have p1 := cell_rg g1
    have p2 := cell_rg g2
    have p3 := cell_rg g3
    have kc := fun d' os => Calls.regrown_of (HC.out (grow (redrawn w5 d') os) (next (next hw.out B5.out) (below_regrown w5 d' os)))
    have kd := fun d' os => Calls.regrown_of (HD.out (grow (redrawn w5 d') os) (next (next hw.out B5.out) (below_regrown w5 d' os)))
    clear HC HD
    go_wp2_with fail
    refine quiet_tail 9 (by kernel_rfl) (by kernel_rfl) ?_
    simp only [List.take_succ_cons, List.take_zero, List.drop_succ_cons, List.drop_zero]
    repeat (go_big_quiet_step (first | (with_reducible exact kc _ _) | (with_reducible exact kd _ _)))
    refine wpQuiet_nil ?_
    intro w6 hw6
    have hb : Below w5.heap.size w5 w6 := by obtain ⟨⟨dq, osq⟩, hq⟩ := hw6; rw [hq]; exact below_regrown _ dq osq
    clear hw6 q0 q1 q2 q3 p0 p1 p2 p3 kc kd f0 f1 f2 f3 g0 g1 g2 g3 u0
    have B6 := hide (below_putR (below_putR (next B5.out hb) (Nat.le_refl _) 4 r1) (Nat.le_refl _) 8 r2)
    have th := (N5.out.keep hb).thr (j := 4) (by omega)
    have th2 := ((N5.out.keep hb).putR4 r1).thr (j := 8) (by omega)
    have N6 := hide (((N5.out.keep hb).putR4 r1).putR8 r2)
    have R6 := hide (((R5.out.keep hb).putO (b := w.heap.size) (j := 4) (r := r1) (by omega)).putO (b := w.heap.size) (j := 8) (r := r2) (by omega))
    clear hb
    go_wp2_with (first
      | (refine wpList_load_blk rfl 37 _ rfl _ rfl _ (by with_reducible exact N2.out) _ Try.underlying37 rfl (exC_info _ _) ?_)
      | (have hst := R2.out; refine wpList_store_row rfl 37 _ _ rfl _ (exC { nd with ref := r1, to := r2 } (.slice a 0 cap)) rfl rfl 37 _ hst (exC_info _ _) (by rfl) (exC_one _ _ _ _) ?_)
      | (go_at_call 64; with_reducible refine (G2.out _).mono ?_; rintro e w8 ⟨rfl, hb⟩; have N2 := hide (N1.out.keep hb); have R2 := hide (R1.out.keep hb); have b2 := hide (next b1.out hb); clear hb)
      | (go_at_call 64; with_reducible refine (G1.out _).mono ?_; rintro e w7 ⟨rfl, hb⟩; have N1 := hide (N6.out.keep hb); have R1 := hide (R6.out.keep hb); have b1 := hide (next B6.out hb); obtain ⟨-, -, -, -, -, -, -, -, t8, t9, t10, t11, -, -⟩ := N1.out.c14; (try dsimp only at t8 t9 t10 t11); clear hb)
      | (refine wpList_putR (b := w.heap.size) (j := 8) (r := r2) rfl _ _ rfl rfl rfl (by with_reducible exact th2) ?_; obtain ⟨w6q, hw6q⟩ : ∃ w6q, w6q = putR w6p w.heap.size 8 r2 := ⟨_, rfl⟩; rw [← hw6q] at B6 N6 R6 ⊢; clear hw6q th2; obtain ⟨-, -, -, -, s4, s5, s6, s7, -, -, -, -, -, -⟩ := N6.out.c14; dsimp only at s4 s5 s6 s7)
      | (refine wpList_putR (b := w.heap.size) (j := 4) (r := r1) rfl _ _ rfl rfl rfl (by with_reducible exact th) ?_; obtain ⟨w6p, hw6p⟩ : ∃ w6p, w6p = putR w6 w.heap.size 4 r1 := ⟨_, rfl⟩; rw [← hw6p] at B6 N6 R6 th2 ⊢; clear hw6p th))
    have F3 := R2.out.setRow (cs := exC { nd with ref := r1, to := r2 } (.slice a 0 cap))
    refine bodyPost_ret (v := exV { nd with ref := r1, to := r2 } (.slice a 0 cap)) (results_cell_row Try.results53 _ _ (w.heap.size + 1) 37 (exC { nd with ref := r1, to := r2 } (.slice a 0 cap)) (0, 0) _ rfl F3 Try.underlying37 rfl (exC_info _ _)) rfl ?_
    exact ⟨rfl, below_setRow b2.out (by simp) _⟩
  · skip
    have B5 : Hid (Below w.heap.size w ((((w.alloc (exO nd (.slice a 0 cap))).alloc (.cells #[.int .i64 0, .int .i64 0, .int .i64 0, .string { data := #[] }, .int .i64 0, .int .i64 0, .bool false, .bool false, .int .i64 0, .int .i64 0, .bool false, .bool false, .int .i64 0, .slice none 0 0] 37)).alloc (rfO nd.to)).alloc (rfO nd.ref)).drew) := hide (step (step (step (step (Below.refl _ w) _) _) _) _).drew
    have N5 : Hid (Blk ((((w.alloc (exO nd (.slice a 0 cap))).alloc (.cells #[.int .i64 0, .int .i64 0, .int .i64 0, .string { data := #[] }, .int .i64 0, .int .i64 0, .bool false, .bool false, .int .i64 0, .int .i64 0, .bool false, .bool false, .int .i64 0, .slice none 0 0] 37)).alloc (rfO nd.to)).alloc (rfO nd.ref)).drew w.heap.size (exC nd (.slice a 0 cap)) 37) := hide ((((Blk.new w (exC nd (.slice a 0 cap)) 37).alloc (exO nd0 (.slice none 0 0))).alloc (rfO nd.to)).alloc (rfO nd.ref))
    have R5 : Hid (Blk ((((w.alloc (exO nd (.slice a 0 cap))).alloc (.cells #[.int .i64 0, .int .i64 0, .int .i64 0, .string { data := #[] }, .int .i64 0, .int .i64 0, .bool false, .bool false, .int .i64 0, .int .i64 0, .bool false, .bool false, .int .i64 0, .slice none 0 0] 37)).alloc (rfO nd.to)).alloc (rfO nd.ref)).drew (w.heap.size + 1) (exC nd0 (.slice none 0 0)) 37) := hide (((Blk.new1 w (exO nd (.slice a 0 cap)) (exC nd0 (.slice none 0 0)) 37).alloc (rfO nd.to)).alloc (rfO nd.ref))
    have X5 : Hid (Blk ((((w.alloc (exO nd (.slice a 0 cap))).alloc (.cells #[.int .i64 0, .int .i64 0, .int .i64 0, .string { data := #[] }, .int .i64 0, .int .i64 0, .bool false, .bool false, .int .i64 0, .int .i64 0, .bool false, .bool false, .int .i64 0, .slice none 0 0] 37)).alloc (rfO nd.to)).alloc (rfO nd.ref)).drew (w.heap.size + 1 + 1) (rfA nd.to) 35) := hide ((Blk.new2 w (exO nd (.slice a 0 cap)) (exO nd0 (.slice none 0 0)) (rfA nd.to) 35).alloc (rfO nd.ref))
    have Y5 : Hid (Blk ((((w.alloc (exO nd (.slice a 0 cap))).alloc (.cells #[.int .i64 0, .int .i64 0, .int .i64 0, .string { data := #[] }, .int .i64 0, .int .i64 0, .bool false, .bool false, .int .i64 0, .int .i64 0, .bool false, .bool false, .int .i64 0, .slice none 0 0] 37)).alloc (rfO nd.to)).alloc (rfO nd.ref)).drew (w.heap.size + 1 + 1 + 1) (rfA nd.ref) 35) := hide (Blk.new3 w (exO nd (.slice a 0 cap)) (exO nd0 (.slice none 0 0)) (rfO nd.to) (rfA nd.ref) 35)
    obtain ⟨w5, hw5⟩ : ∃ w5, w5 = ((((w.alloc (exO nd (.slice a 0 cap))).alloc (.cells #[.int .i64 0, .int .i64 0, .int .i64 0, .string { data := #[] }, .int .i64 0, .int .i64 0, .bool false, .bool false, .int .i64 0, .int .i64 0, .bool false, .bool false, .int .i64 0, .slice none 0 0] 37)).alloc (rfO nd.to)).alloc (rfO nd.ref)).drew := ⟨_, rfl⟩
    rw [← hw5] at B5 N5 R5 X5 Y5 ⊢
    clear hw5
    have T5 := X5
    have F5 := Y5
    clear X5 Y5
    have f0 := F5.out.at' 0
    have f1 := F5.out.at' 1
    have f2 := F5.out.at' 2
    have f3 := F5.out.at' 3
    have g0 := T5.out.at' 0
    have g1 := T5.out.at' 1
    have g2 := T5.out.at' 2
    have g3 := T5.out.at' 3
    simp [rfA] at f0 f1 f2 f3 g0 g1 g2 g3
    obtain ⟨u0, -, -, -, s4, s5, s6, s7, -, -, -, -, -, -⟩ := N5.out.c14
    clear s4 s5 s6 s7
    have q0 := cell_rg f0
    have q1 := cell_rg f1
    have q2 := cell_rg f2
    have q3 := cell_rg f3
    have p0 := cell_rg g0
    have p1 := cell_rg g1
    have p2 := cell_rg g2
    have p3 := cell_rg g3
    have kc := fun d' os => Calls.regrown_of (HC.out (grow (redrawn w5 d') os) (next (next hw.out B5.out) (below_regrown w5 d' os)))
    have kd := fun d' os => Calls.regrown_of (HD.out (grow (redrawn w5 d') os) (next (next hw.out B5.out) (below_regrown w5 d' os)))
    clear HC HD
    go_wp2_with fail
    refine quiet_tail 9 (by kernel_rfl) (by kernel_rfl) ?_
    simp only [List.take_succ_cons, List.take_zero, List.drop_succ_cons, List.drop_zero]
    repeat (go_big_quiet_step (first | (with_reducible exact kc _ _) | (with_reducible exact kd _ _)))
    refine wpQuiet_nil ?_
    intro w6 hw6
    have hb : Below w5.heap.size w5 w6 := by obtain ⟨⟨dq, osq⟩, hq⟩ := hw6; rw [hq]; exact below_regrown _ dq osq
    clear hw6 q0 q1 q2 q3 p0 p1 p2 p3 kc kd f0 f1 f2 f3 g0 g1 g2 g3 u0
    have B6 := hide (below_putR (below_putR (next B5.out hb) (Nat.le_refl _) 4 r1) (Nat.le_refl _) 8 r2)
    have th := (N5.out.keep hb).thr (j := 4) (by omega)
    have th2 := ((N5.out.keep hb).putR4 r1).thr (j := 8) (by omega)
    have N6 := hide (((N5.out.keep hb).putR4 r1).putR8 r2)
    have R6 := hide (((R5.out.keep hb).putO (b := w.heap.size) (j := 4) (r := r1) (by omega)).putO (b := w.heap.size) (j := 8) (r := r2) (by omega))
    clear hb
    go_wp2_with (first
      | (refine wpList_load_blk rfl 37 _ rfl _ rfl _ (by with_reducible exact N2.out) _ Try.underlying37 rfl (exC_info _ _) ?_)
      | (have hst := R2.out; refine wpList_store_row rfl 37 _ _ rfl _ (exC { nd with ref := r1, to := r2 } (.slice a 0 cap)) rfl rfl 37 _ hst (exC_info _ _) (by rfl) (exC_one _ _ _ _) ?_)
      | (go_at_call 64; with_reducible refine (G2.out _).mono ?_; rintro e w8 ⟨rfl, hb⟩; have N2 := hide (N1.out.keep hb); have R2 := hide (R1.out.keep hb); have b2 := hide (next b1.out hb); clear hb)
      | (go_at_call 64; with_reducible refine (G1.out _).mono ?_; rintro e w7 ⟨rfl, hb⟩; have N1 := hide (N6.out.keep hb); have R1 := hide (R6.out.keep hb); have b1 := hide (next B6.out hb); obtain ⟨-, -, -, -, -, -, -, -, t8, t9, t10, t11, -, -⟩ := N1.out.c14; (try dsimp only at t8 t9 t10 t11); clear hb)
      | (refine wpList_putR (b := w.heap.size) (j := 8) (r := r2) rfl _ _ rfl rfl rfl (by with_reducible exact th2) ?_; obtain ⟨w6q, hw6q⟩ : ∃ w6q, w6q = putR w6p w.heap.size 8 r2 := ⟨_, rfl⟩; rw [← hw6q] at B6 N6 R6 ⊢; clear hw6q th2; obtain ⟨-, -, -, -, s4, s5, s6, s7, -, -, -, -, -, -⟩ := N6.out.c14; dsimp only at s4 s5 s6 s7)
      | (refine wpList_putR (b := w.heap.size) (j := 4) (r := r1) rfl _ _ rfl rfl rfl (by with_reducible exact th) ?_; obtain ⟨w6p, hw6p⟩ : ∃ w6p, w6p = putR w6 w.heap.size 4 r1 := ⟨_, rfl⟩; rw [← hw6p] at B6 N6 R6 th2 ⊢; clear hw6p th))
    have F3 := R2.out.setRow (cs := exC { nd with ref := r1, to := r2 } (.slice a 0 cap))
    refine bodyPost_ret (v := exV { nd with ref := r1, to := r2 } (.slice a 0 cap)) (results_cell_row Try.results53 _ _ (w.heap.size + 1) 37 (exC { nd with ref := r1, to := r2 } (.slice a 0 cap)) (0, 0) _ rfl F3 Try.underlying37 rfl (exC_info _ _)) rfl ?_
    exact ⟨rfl, below_setRow b2.out (by simp) _⟩
set_option maxHeartbeats 2000000 in
set_option maxRecDepth 100000 in
theorem mn_6tf {w0 : World} {f : Mv} {F : Nat} {caps : Array Value} (hmv : MvIs w0 f F caps) (nd : Nd) (a : Option Addr) (len cap : Nat) (w : World) (hw : Below w0.heap.size w0 w) (ht : toldB nd len = true) (h6 : nd.kind = 6) (hg : mayB (f nd.ref nd.to).row (f nd.ref nd.to).col = true) (hg' : mayB (f nd.to nd.ref).row (f nd.to nd.ref).col = false) :
    Calls Try.prog 53 #[exV nd (.slice a len cap), .func (.func F) #[] caps] w fun e w' => e = .returned (exV (movN f nd) (slM f nd (.slice a len cap))) ∧ Below w.heap.size w w' := by
  have e1 : putN f nd = { nd with ref := f nd.ref nd.to, to := f nd.to nd.ref } := by unfold putN; rw [if_neg (by omega), if_pos h6]
  obtain ⟨z1, hm, hm', rfl⟩ := shape6 ht h6
  have e2 : gridB (putN f nd) = false := by rw [e1]; unfold gridB; dsimp only; rw [hg, hg']; rfl
  rw [(slM_no (s := .slice a 0 cap) e2).1, (slM_no (s := .slice a 0 cap) e2).2]
  have HC := hide (fun w' h => hmv.call nd.ref nd.to w' h hm hm')
  have HD := hide (fun w' h => hmv.call nd.to nd.ref w' h hm' hm)
  have hent := hmv.ent
  have G1 := hide (grid_any (f nd.ref nd.to))
  have G2 := hide (grid_any (f nd.to nd.ref))
  rw [hg] at G1
  rw [hg'] at G2
  have k5 : (nd.kind == 5) = false := by rw [h6]; rfl
  have k6 : (nd.kind == 6) = true := by rw [h6]; rfl
  generalize f nd.ref nd.to = r1 at *
  generalize f nd.to nd.ref = r2 at *
  replace hw := hide hw
  clear e1 z1 e2 hmv ht h6 hm hm' hg hg'
  obtain ⟨a0, a1, a2, a3, a4, a5, a6, a7, a8, a9, a10, a11, a12, a13⟩ := at14 nd (.slice a 0 cap)
  go_enter Try.func53, Try.ntmps53
  go_wp2_with fail
  go_region
  all_goals clear a0 a1 a2 a3 a4 a5 a6 a7 a8 a9 a10 a11 a12 a13
  · skip
    have B5 : Hid (Below w.heap.size w ((((w.alloc (exO nd (.slice a 0 cap))).alloc (.cells #[.int .i64 0, .int .i64 0, .int .i64 0, .string { data := #[] }, .int .i64 0, .int .i64 0, .bool false, .bool false, .int .i64 0, .int .i64 0, .bool false, .bool false, .int .i64 0, .slice none 0 0] 37)).alloc (rfO nd.ref)).alloc (rfO nd.to)).drew) := hide (step (step (step (step (Below.refl _ w) _) _) _) _).drew
    have N5 : Hid (Blk ((((w.alloc (exO nd (.slice a 0 cap))).alloc (.cells #[.int .i64 0, .int .i64 0, .int .i64 0, .string { data := #[] }, .int .i64 0, .int .i64 0, .bool false, .bool false, .int .i64 0, .int .i64 0, .bool false, .bool false, .int .i64 0, .slice none 0 0] 37)).alloc (rfO nd.ref)).alloc (rfO nd.to)).drew w.heap.size (exC nd (.slice a 0 cap)) 37) := hide ((((Blk.new w (exC nd (.slice a 0 cap)) 37).alloc (exO nd0 (.slice none 0 0))).alloc (rfO nd.ref)).alloc (rfO nd.to))
    have R5 : Hid (Blk ((((w.alloc (exO nd (.slice a 0 cap))).alloc (.cells #[.int .i64 0, .int .i64 0, .int .i64 0, .string { data := #[] }, .int .i64 0, .int .i64 0, .bool false, .bool false, .int .i64 0, .int .i64 0, .bool false, .bool false, .int .i64 0, .slice none 0 0] 37)).alloc (rfO nd.ref)).alloc (rfO nd.to)).drew (w.heap.size + 1) (exC nd0 (.slice none 0 0)) 37) := hide (((Blk.new1 w (exO nd (.slice a 0 cap)) (exC nd0 (.slice none 0 0)) 37).alloc (rfO nd.ref)).alloc (rfO nd.to))
    have X5 : Hid (Blk ((((w.alloc (exO nd (.slice a 0 cap))).alloc (.cells #[.int .i64 0, .int .i64 0, .int .i64 0, .string { data := #[] }, .int .i64 0, .int .i64 0, .bool false, .bool false, .int .i64 0, .int .i64 0, .bool false, .bool false, .int .i64 0, .slice none 0 0] 37)).alloc (rfO nd.ref)).alloc (rfO nd.to)).drew (w.heap.size + 1 + 1) (rfA nd.ref) 35) := hide ((Blk.new2 w (exO nd (.slice a 0 cap)) (exO nd0 (.slice none 0 0)) (rfA nd.ref) 35).alloc (rfO nd.to))
    have Y5 : Hid (Blk ((((w.alloc (exO nd (.slice a 0 cap))).alloc (.cells #[.int .i64 0, .int .i64 0, .int .i64 0, .string { data := #[] }, .int .i64 0, .int .i64 0, .bool false, .bool false, .int .i64 0, .int .i64 0, .bool false, .bool false, .int .i64 0, .slice none 0 0] 37)).alloc (rfO nd.ref)).alloc (rfO nd.to)).drew (w.heap.size + 1 + 1 + 1) (rfA nd.to) 35) := hide (Blk.new3 w (exO nd (.slice a 0 cap)) (exO nd0 (.slice none 0 0)) (rfO nd.ref) (rfA nd.to) 35)
    obtain ⟨w5, hw5⟩ : ∃ w5, w5 = ((((w.alloc (exO nd (.slice a 0 cap))).alloc (.cells #[.int .i64 0, .int .i64 0, .int .i64 0, .string { data := #[] }, .int .i64 0, .int .i64 0, .bool false, .bool false, .int .i64 0, .int .i64 0, .bool false, .bool false, .int .i64 0, .slice none 0 0] 37)).alloc (rfO nd.ref)).alloc (rfO nd.to)).drew := ⟨_, rfl⟩
    rw [← hw5] at B5 N5 R5 X5 Y5 ⊢
    clear hw5
    have F5 := X5
    have T5 := Y5
    clear X5 Y5
    have f0 := F5.out.at' 0
    have f1 := F5.out.at' 1
    have f2 := F5.out.at' 2
    have f3 := F5.out.at' 3
    have g0 := T5.out.at' 0
    have g1 := T5.out.at' 1
    have g2 := T5.out.at' 2
    have g3 := T5.out.at' 3
    simp [rfA] at f0 f1 f2 f3 g0 g1 g2 g3
    obtain ⟨u0, -, -, -, s4, s5, s6, s7, -, -, -, -, -, -⟩ := N5.out.c14
    clear s4 s5 s6 s7
    have q0 := cell_rg f0
    have q1 := cell_rg f1
    have q2 := cell_rg f2
    have q3 := cell_rg f3
    have p0 := cell_rg g0
    have p1 := cell_rg g1
    have p2 := cell_rg g2
    have p3 := cell_rg g3
    have kc := fun d' os => Calls.regrown_of (HC.out (grow (redrawn w5 d') os) (next (next hw.out B5.out) (below_regrown w5 d' os)))
    have kd := fun d' os => Calls.regrown_of (HD.out (grow (redrawn w5 d') os) (next (next hw.out B5.out) (below_regrown w5 d' os)))
    clear HC HD
    go_wp2_with fail
    refine quiet_tail 9 (by kernel_rfl) (by kernel_rfl) ?_
    simp only [List.take_succ_cons, List.take_zero, List.drop_succ_cons, List.drop_zero]
    repeat (go_big_quiet_step (first | (with_reducible exact kc _ _) | (with_reducible exact kd _ _)))
    refine wpQuiet_nil ?_
    intro w6 hw6
    have hb : Below w5.heap.size w5 w6 := by obtain ⟨⟨dq, osq⟩, hq⟩ := hw6; rw [hq]; exact below_regrown _ dq osq
    clear hw6 q0 q1 q2 q3 p0 p1 p2 p3 kc kd f0 f1 f2 f3 g0 g1 g2 g3 u0
    have B6 := hide (below_putR (below_putR (next B5.out hb) (Nat.le_refl _) 4 r1) (Nat.le_refl _) 8 r2)
    have th := (N5.out.keep hb).thr (j := 4) (by omega)
    have th2 := ((N5.out.keep hb).putR4 r1).thr (j := 8) (by omega)
    have N6 := hide (((N5.out.keep hb).putR4 r1).putR8 r2)
    have R6 := hide (((R5.out.keep hb).putO (b := w.heap.size) (j := 4) (r := r1) (by omega)).putO (b := w.heap.size) (j := 8) (r := r2) (by omega))
    clear hb
    go_wp2_with (first
      | (have hst := R2.out; refine wpList_store_row rfl 37 _ _ rfl _ (exC lostN (.slice none 0 0)) rfl rfl 37 _ hst (exC_info _ _) (by rfl) (exC_one _ _ _ _) ?_)
      | (go_at_call 64; with_reducible refine (G2.out _).mono ?_; rintro e w8 ⟨rfl, hb⟩; have N2 := hide (N1.out.keep hb); have R2 := hide (R1.out.keep hb); have b2 := hide (next b1.out hb); clear hb)
      | (go_at_call 64; with_reducible refine (G1.out _).mono ?_; rintro e w7 ⟨rfl, hb⟩; have N1 := hide (N6.out.keep hb); have R1 := hide (R6.out.keep hb); have b1 := hide (next B6.out hb); obtain ⟨-, -, -, -, -, -, -, -, t8, t9, t10, t11, -, -⟩ := N1.out.c14; (try dsimp only at t8 t9 t10 t11); clear hb)
      | (refine wpList_putR (b := w.heap.size) (j := 8) (r := r2) rfl _ _ rfl rfl rfl (by with_reducible exact th2) ?_; obtain ⟨w6q, hw6q⟩ : ∃ w6q, w6q = putR w6p w.heap.size 8 r2 := ⟨_, rfl⟩; rw [← hw6q] at B6 N6 R6 ⊢; clear hw6q th2; obtain ⟨-, -, -, -, s4, s5, s6, s7, -, -, -, -, -, -⟩ := N6.out.c14; dsimp only at s4 s5 s6 s7)
      | (refine wpList_putR (b := w.heap.size) (j := 4) (r := r1) rfl _ _ rfl rfl rfl (by with_reducible exact th) ?_; obtain ⟨w6p, hw6p⟩ : ∃ w6p, w6p = putR w6 w.heap.size 4 r1 := ⟨_, rfl⟩; rw [← hw6p] at B6 N6 R6 th2 ⊢; clear hw6p th))
    have F3 := R2.out.setRow (cs := exC lostN (.slice none 0 0))
    refine bodyPost_ret (v := exV lostN (.slice none 0 0)) (results_cell_row Try.results53 _ _ (w.heap.size + 1) 37 (exC lostN (.slice none 0 0)) (0, 0) _ rfl F3 Try.underlying37 rfl (exC_info _ _)) rfl ?_
    exact ⟨rfl, below_setRow b2.out (by simp) _⟩
  · skip
    have B5 : Hid (Below w.heap.size w ((((w.alloc (exO nd (.slice a 0 cap))).alloc (.cells #[.int .i64 0, .int .i64 0, .int .i64 0, .string { data := #[] }, .int .i64 0, .int .i64 0, .bool false, .bool false, .int .i64 0, .int .i64 0, .bool false, .bool false, .int .i64 0, .slice none 0 0] 37)).alloc (rfO nd.to)).alloc (rfO nd.ref)).drew) := hide (step (step (step (step (Below.refl _ w) _) _) _) _).drew
    have N5 : Hid (Blk ((((w.alloc (exO nd (.slice a 0 cap))).alloc (.cells #[.int .i64 0, .int .i64 0, .int .i64 0, .string { data := #[] }, .int .i64 0, .int .i64 0, .bool false, .bool false, .int .i64 0, .int .i64 0, .bool false, .bool false, .int .i64 0, .slice none 0 0] 37)).alloc (rfO nd.to)).alloc (rfO nd.ref)).drew w.heap.size (exC nd (.slice a 0 cap)) 37) := hide ((((Blk.new w (exC nd (.slice a 0 cap)) 37).alloc (exO nd0 (.slice none 0 0))).alloc (rfO nd.to)).alloc (rfO nd.ref))
    have R5 : Hid (Blk ((((w.alloc (exO nd (.slice a 0 cap))).alloc (.cells #[.int .i64 0, .int .i64 0, .int .i64 0, .string { data := #[] }, .int .i64 0, .int .i64 0, .bool false, .bool false, .int .i64 0, .int .i64 0, .bool false, .bool false, .int .i64 0, .slice none 0 0] 37)).alloc (rfO nd.to)).alloc (rfO nd.ref)).drew (w.heap.size + 1) (exC nd0 (.slice none 0 0)) 37) := hide (((Blk.new1 w (exO nd (.slice a 0 cap)) (exC nd0 (.slice none 0 0)) 37).alloc (rfO nd.to)).alloc (rfO nd.ref))
    have X5 : Hid (Blk ((((w.alloc (exO nd (.slice a 0 cap))).alloc (.cells #[.int .i64 0, .int .i64 0, .int .i64 0, .string { data := #[] }, .int .i64 0, .int .i64 0, .bool false, .bool false, .int .i64 0, .int .i64 0, .bool false, .bool false, .int .i64 0, .slice none 0 0] 37)).alloc (rfO nd.to)).alloc (rfO nd.ref)).drew (w.heap.size + 1 + 1) (rfA nd.to) 35) := hide ((Blk.new2 w (exO nd (.slice a 0 cap)) (exO nd0 (.slice none 0 0)) (rfA nd.to) 35).alloc (rfO nd.ref))
    have Y5 : Hid (Blk ((((w.alloc (exO nd (.slice a 0 cap))).alloc (.cells #[.int .i64 0, .int .i64 0, .int .i64 0, .string { data := #[] }, .int .i64 0, .int .i64 0, .bool false, .bool false, .int .i64 0, .int .i64 0, .bool false, .bool false, .int .i64 0, .slice none 0 0] 37)).alloc (rfO nd.to)).alloc (rfO nd.ref)).drew (w.heap.size + 1 + 1 + 1) (rfA nd.ref) 35) := hide (Blk.new3 w (exO nd (.slice a 0 cap)) (exO nd0 (.slice none 0 0)) (rfO nd.to) (rfA nd.ref) 35)
    obtain ⟨w5, hw5⟩ : ∃ w5, w5 = ((((w.alloc (exO nd (.slice a 0 cap))).alloc (.cells #[.int .i64 0, .int .i64 0, .int .i64 0, .string { data := #[] }, .int .i64 0, .int .i64 0, .bool false, .bool false, .int .i64 0, .int .i64 0, .bool false, .bool false, .int .i64 0, .slice none 0 0] 37)).alloc (rfO nd.to)).alloc (rfO nd.ref)).drew := ⟨_, rfl⟩
    rw [← hw5] at B5 N5 R5 X5 Y5 ⊢
    clear hw5
    have T5 := X5
    have F5 := Y5
    clear X5 Y5
    have f0 := F5.out.at' 0
    have f1 := F5.out.at' 1
    have f2 := F5.out.at' 2
    have f3 := F5.out.at' 3
    have g0 := T5.out.at' 0
    have g1 := T5.out.at' 1
    have g2 := T5.out.at' 2
    have g3 := T5.out.at' 3
    simp [rfA] at f0 f1 f2 f3 g0 g1 g2 g3
    obtain ⟨u0, -, -, -, s4, s5, s6, s7, -, -, -, -, -, -⟩ := N5.out.c14
    clear s4 s5 s6 s7
    have q0 := cell_rg f0
    have q1 := cell_rg f1
    have q2 := cell_rg f2
    have q3 := cell_rg f3
    have p0 := cell_rg g0
    have p1 := cell_rg g1
    have p2 := cell_rg g2
    have p3 := cell_rg g3
    have kc := fun d' os => Calls.regrown_of (HC.out (grow (redrawn w5 d') os) (next (next hw.out B5.out) (below_regrown w5 d' os)))
    have kd := fun d' os => Calls.regrown_of (HD.out (grow (redrawn w5 d') os) (next (next hw.out B5.out) (below_regrown w5 d' os)))
    clear HC HD
    go_wp2_with fail
    refine quiet_tail 9 (by kernel_rfl) (by kernel_rfl) ?_
    simp only [List.take_succ_cons, List.take_zero, List.drop_succ_cons, List.drop_zero]
    repeat (go_big_quiet_step (first | (with_reducible exact kc _ _) | (with_reducible exact kd _ _)))
    refine wpQuiet_nil ?_
    intro w6 hw6
    have hb : Below w5.heap.size w5 w6 := by obtain ⟨⟨dq, osq⟩, hq⟩ := hw6; rw [hq]; exact below_regrown _ dq osq
    clear hw6 q0 q1 q2 q3 p0 p1 p2 p3 kc kd f0 f1 f2 f3 g0 g1 g2 g3 u0
    have B6 := hide (below_putR (below_putR (next B5.out hb) (Nat.le_refl _) 4 r1) (Nat.le_refl _) 8 r2)
    have th := (N5.out.keep hb).thr (j := 4) (by omega)
    have th2 := ((N5.out.keep hb).putR4 r1).thr (j := 8) (by omega)
    have N6 := hide (((N5.out.keep hb).putR4 r1).putR8 r2)
    have R6 := hide (((R5.out.keep hb).putO (b := w.heap.size) (j := 4) (r := r1) (by omega)).putO (b := w.heap.size) (j := 8) (r := r2) (by omega))
    clear hb
    go_wp2_with (first
      | (have hst := R2.out; refine wpList_store_row rfl 37 _ _ rfl _ (exC lostN (.slice none 0 0)) rfl rfl 37 _ hst (exC_info _ _) (by rfl) (exC_one _ _ _ _) ?_)
      | (go_at_call 64; with_reducible refine (G2.out _).mono ?_; rintro e w8 ⟨rfl, hb⟩; have N2 := hide (N1.out.keep hb); have R2 := hide (R1.out.keep hb); have b2 := hide (next b1.out hb); clear hb)
      | (go_at_call 64; with_reducible refine (G1.out _).mono ?_; rintro e w7 ⟨rfl, hb⟩; have N1 := hide (N6.out.keep hb); have R1 := hide (R6.out.keep hb); have b1 := hide (next B6.out hb); obtain ⟨-, -, -, -, -, -, -, -, t8, t9, t10, t11, -, -⟩ := N1.out.c14; (try dsimp only at t8 t9 t10 t11); clear hb)
      | (refine wpList_putR (b := w.heap.size) (j := 8) (r := r2) rfl _ _ rfl rfl rfl (by with_reducible exact th2) ?_; obtain ⟨w6q, hw6q⟩ : ∃ w6q, w6q = putR w6p w.heap.size 8 r2 := ⟨_, rfl⟩; rw [← hw6q] at B6 N6 R6 ⊢; clear hw6q th2; obtain ⟨-, -, -, -, s4, s5, s6, s7, -, -, -, -, -, -⟩ := N6.out.c14; dsimp only at s4 s5 s6 s7)
      | (refine wpList_putR (b := w.heap.size) (j := 4) (r := r1) rfl _ _ rfl rfl rfl (by with_reducible exact th) ?_; obtain ⟨w6p, hw6p⟩ : ∃ w6p, w6p = putR w6 w.heap.size 4 r1 := ⟨_, rfl⟩; rw [← hw6p] at B6 N6 R6 th2 ⊢; clear hw6p th))
    have F3 := R2.out.setRow (cs := exC lostN (.slice none 0 0))
    refine bodyPost_ret (v := exV lostN (.slice none 0 0)) (results_cell_row Try.results53 _ _ (w.heap.size + 1) 37 (exC lostN (.slice none 0 0)) (0, 0) _ rfl F3 Try.underlying37 rfl (exC_info _ _)) rfl ?_
    exact ⟨rfl, below_setRow b2.out (by simp) _⟩
set_option maxHeartbeats 2000000 in
set_option maxRecDepth 100000 in
theorem mn_6f {w0 : World} {f : Mv} {F : Nat} {caps : Array Value} (hmv : MvIs w0 f F caps) (nd : Nd) (a : Option Addr) (len cap : Nat) (w : World) (hw : Below w0.heap.size w0 w) (ht : toldB nd len = true) (h6 : nd.kind = 6) (hg : mayB (f nd.ref nd.to).row (f nd.ref nd.to).col = false) :
    Calls Try.prog 53 #[exV nd (.slice a len cap), .func (.func F) #[] caps] w fun e w' => e = .returned (exV (movN f nd) (slM f nd (.slice a len cap))) ∧ Below w.heap.size w w' := by
  have e1 : putN f nd = { nd with ref := f nd.ref nd.to, to := f nd.to nd.ref } := by unfold putN; rw [if_neg (by omega), if_pos h6]
  obtain ⟨z1, hm, hm', rfl⟩ := shape6 ht h6
  have e2 : gridB (putN f nd) = false := by rw [e1]; unfold gridB; dsimp only; rw [hg]; rfl
  rw [(slM_no (s := .slice a 0 cap) e2).1, (slM_no (s := .slice a 0 cap) e2).2]
  have HC := hide (fun w' h => hmv.call nd.ref nd.to w' h hm hm')
  have HD := hide (fun w' h => hmv.call nd.to nd.ref w' h hm' hm)
  have hent := hmv.ent
  have G1 := hide (grid_any (f nd.ref nd.to))
  have G2 := hide (grid_any (f nd.to nd.ref))
  rw [hg] at G1
  skip
  have k5 : (nd.kind == 5) = false := by rw [h6]; rfl
  have k6 : (nd.kind == 6) = true := by rw [h6]; rfl
  generalize f nd.ref nd.to = r1 at *
  generalize f nd.to nd.ref = r2 at *
  replace hw := hide hw
  clear e1 z1 e2 hmv ht h6 hm hm' hg
  obtain ⟨a0, a1, a2, a3, a4, a5, a6, a7, a8, a9, a10, a11, a12, a13⟩ := at14 nd (.slice a 0 cap)
  go_enter Try.func53, Try.ntmps53
  go_wp2_with fail
  go_region
  all_goals clear a0 a1 a2 a3 a4 a5 a6 a7 a8 a9 a10 a11 a12 a13
  · skip
    have B5 : Hid (Below w.heap.size w ((((w.alloc (exO nd (.slice a 0 cap))).alloc (.cells #[.int .i64 0, .int .i64 0, .int .i64 0, .string { data := #[] }, .int .i64 0, .int .i64 0, .bool false, .bool false, .int .i64 0, .int .i64 0, .bool false, .bool false, .int .i64 0, .slice none 0 0] 37)).alloc (rfO nd.ref)).alloc (rfO nd.to)).drew) := hide (step (step (step (step (Below.refl _ w) _) _) _) _).drew
    have N5 : Hid (Blk ((((w.alloc (exO nd (.slice a 0 cap))).alloc (.cells #[.int .i64 0, .int .i64 0, .int .i64 0, .string { data := #[] }, .int .i64 0, .int .i64 0, .bool false, .bool false, .int .i64 0, .int .i64 0, .bool false, .bool false, .int .i64 0, .slice none 0 0] 37)).alloc (rfO nd.ref)).alloc (rfO nd.to)).drew w.heap.size (exC nd (.slice a 0 cap)) 37) := hide ((((Blk.new w (exC nd (.slice a 0 cap)) 37).alloc (exO nd0 (.slice none 0 0))).alloc (rfO nd.ref)).alloc (rfO nd.to))
    have R5 : Hid (Blk ((((w.alloc (exO nd (.slice a 0 cap))).alloc (.cells #[.int .i64 0, .int .i64 0, .int .i64 0, .string { data := #[] }, .int .i64 0, .int .i64 0, .bool false, .bool false, .int .i64 0, .int .i64 0, .bool false, .bool false, .int .i64 0, .slice none 0 0] 37)).alloc (rfO nd.ref)).alloc (rfO nd.to)).drew (w.heap.size + 1) (exC nd0 (.slice none 0 0)) 37) := hide (((Blk.new1 w (exO nd (.slice a 0 cap)) (exC nd0 (.slice none 0 0)) 37).alloc (rfO nd.ref)).alloc (rfO nd.to))
    have X5 : Hid (Blk ((((w.alloc (exO nd (.slice a 0 cap))).alloc (.cells #[.int .i64 0, .int .i64 0, .int .i64 0, .string { data := #[] }, .int .i64 0, .int .i64 0, .bool false, .bool false, .int .i64 0, .int .i64 0, .bool false, .bool false, .int .i64 0, .slice none 0 0] 37)).alloc (rfO nd.ref)).alloc (rfO nd.to)).drew (w.heap.size + 1 + 1) (rfA nd.ref) 35) := hide ((Blk.new2 w (exO nd (.slice a 0 cap)) (exO nd0 (.slice none 0 0)) (rfA nd.ref) 35).alloc (rfO nd.to))
    have Y5 : Hid (Blk ((((w.alloc (exO nd (.slice a 0 cap))).alloc (.cells #[.int .i64 0, .int .i64 0, .int .i64 0, .string { data := #[] }, .int .i64 0, .int .i64 0, .bool false, .bool false, .int .i64 0, .int .i64 0, .bool false, .bool false, .int .i64 0, .slice none 0 0] 37)).alloc (rfO nd.ref)).alloc (rfO nd.to)).drew (w.heap.size + 1 + 1 + 1) (rfA nd.to) 35) := hide (Blk.new3 w (exO nd (.slice a 0 cap)) (exO nd0 (.slice none 0 0)) (rfO nd.ref) (rfA nd.to) 35)
    obtain ⟨w5, hw5⟩ : ∃ w5, w5 = ((((w.alloc (exO nd (.slice a 0 cap))).alloc (.cells #[.int .i64 0, .int .i64 0, .int .i64 0, .string { data := #[] }, .int .i64 0, .int .i64 0, .bool false, .bool false, .int .i64 0, .int .i64 0, .bool false, .bool false, .int .i64 0, .slice none 0 0] 37)).alloc (rfO nd.ref)).alloc (rfO nd.to)).drew := ⟨_, rfl⟩
    rw [← hw5] at B5 N5 R5 X5 Y5 ⊢
    clear hw5
    have F5 := X5
    have T5 := Y5
    clear X5 Y5
    have f0 := F5.out.at' 0
    have f1 := F5.out.at' 1
    have f2 := F5.out.at' 2
    have f3 := F5.out.at' 3
    have g0 := T5.out.at' 0
    have g1 := T5.out.at' 1
    have g2 := T5.out.at' 2
    have g3 := T5.out.at' 3
    simp [rfA] at f0 f1 f2 f3 g0 g1 g2 g3
    obtain ⟨u0, -, -, -, s4, s5, s6, s7, -, -, -, -, -, -⟩ := N5.out.c14
    clear s4 s5 s6 s7
    have q0 := cell_rg f0
    have q1 := cell_rg f1
    have q2 := cell_rg f2
    have q3 := cell_rg f3
    have p0 := cell_rg g0
    have p1 := cell_rg g1
    have p2 := cell_rg g2
    have p3 := cell_rg g3
    have kc := fun d' os => Calls.regrown_of (HC.out (grow (redrawn w5 d') os) (next (next hw.out B5.out) (below_regrown w5 d' os)))
    have kd := fun d' os => Calls.regrown_of (HD.out (grow (redrawn w5 d') os) (next (next hw.out B5.out) (below_regrown w5 d' os)))
    clear HC HD
    go_wp2_with fail
    refine quiet_tail 9 (by kernel_rfl) (by kernel_rfl) ?_
    simp only [List.take_succ_cons, List.take_zero, List.drop_succ_cons, List.drop_zero]
    repeat (go_big_quiet_step (first | (with_reducible exact kc _ _) | (with_reducible exact kd _ _)))
    refine wpQuiet_nil ?_
    intro w6 hw6
    have hb : Below w5.heap.size w5 w6 := by obtain ⟨⟨dq, osq⟩, hq⟩ := hw6; rw [hq]; exact below_regrown _ dq osq
    clear hw6 q0 q1 q2 q3 p0 p1 p2 p3 kc kd f0 f1 f2 f3 g0 g1 g2 g3 u0
    have B6 := hide (below_putR (below_putR (next B5.out hb) (Nat.le_refl _) 4 r1) (Nat.le_refl _) 8 r2)
    have th := (N5.out.keep hb).thr (j := 4) (by omega)
    have th2 := ((N5.out.keep hb).putR4 r1).thr (j := 8) (by omega)
    have N6 := hide (((N5.out.keep hb).putR4 r1).putR8 r2)
    have R6 := hide (((R5.out.keep hb).putO (b := w.heap.size) (j := 4) (r := r1) (by omega)).putO (b := w.heap.size) (j := 8) (r := r2) (by omega))
    clear hb
    go_wp2_with (first
      | (have hst := R1.out; refine wpList_store_row rfl 37 _ _ rfl _ (exC lostN (.slice none 0 0)) rfl rfl 37 _ hst (exC_info _ _) (by rfl) (exC_one _ _ _ _) ?_)
      | (go_at_call 64; with_reducible refine (G1.out _).mono ?_; rintro e w7 ⟨rfl, hb⟩; have N1 := hide (N6.out.keep hb); have R1 := hide (R6.out.keep hb); have b1 := hide (next B6.out hb); obtain ⟨-, -, -, -, -, -, -, -, t8, t9, t10, t11, -, -⟩ := N1.out.c14; (try dsimp only at t8 t9 t10 t11); clear hb)
      | (refine wpList_putR (b := w.heap.size) (j := 8) (r := r2) rfl _ _ rfl rfl rfl (by with_reducible exact th2) ?_; obtain ⟨w6q, hw6q⟩ : ∃ w6q, w6q = putR w6p w.heap.size 8 r2 := ⟨_, rfl⟩; rw [← hw6q] at B6 N6 R6 ⊢; clear hw6q th2; obtain ⟨-, -, -, -, s4, s5, s6, s7, -, -, -, -, -, -⟩ := N6.out.c14; dsimp only at s4 s5 s6 s7)
      | (refine wpList_putR (b := w.heap.size) (j := 4) (r := r1) rfl _ _ rfl rfl rfl (by with_reducible exact th) ?_; obtain ⟨w6p, hw6p⟩ : ∃ w6p, w6p = putR w6 w.heap.size 4 r1 := ⟨_, rfl⟩; rw [← hw6p] at B6 N6 R6 th2 ⊢; clear hw6p th))
    have F3 := R1.out.setRow (cs := exC lostN (.slice none 0 0))
    refine bodyPost_ret (v := exV lostN (.slice none 0 0)) (results_cell_row Try.results53 _ _ (w.heap.size + 1) 37 (exC lostN (.slice none 0 0)) (0, 0) _ rfl F3 Try.underlying37 rfl (exC_info _ _)) rfl ?_
    exact ⟨rfl, below_setRow b1.out (by simp) _⟩
  · skip
    have B5 : Hid (Below w.heap.size w ((((w.alloc (exO nd (.slice a 0 cap))).alloc (.cells #[.int .i64 0, .int .i64 0, .int .i64 0, .string { data := #[] }, .int .i64 0, .int .i64 0, .bool false, .bool false, .int .i64 0, .int .i64 0, .bool false, .bool false, .int .i64 0, .slice none 0 0] 37)).alloc (rfO nd.to)).alloc (rfO nd.ref)).drew) := hide (step (step (step (step (Below.refl _ w) _) _) _) _).drew
    have N5 : Hid (Blk ((((w.alloc (exO nd (.slice a 0 cap))).alloc (.cells #[.int .i64 0, .int .i64 0, .int .i64 0, .string { data := #[] }, .int .i64 0, .int .i64 0, .bool false, .bool false, .int .i64 0, .int .i64 0, .bool false, .bool false, .int .i64 0, .slice none 0 0] 37)).alloc (rfO nd.to)).alloc (rfO nd.ref)).drew w.heap.size (exC nd (.slice a 0 cap)) 37) := hide ((((Blk.new w (exC nd (.slice a 0 cap)) 37).alloc (exO nd0 (.slice none 0 0))).alloc (rfO nd.to)).alloc (rfO nd.ref))
    have R5 : Hid (Blk ((((w.alloc (exO nd (.slice a 0 cap))).alloc (.cells #[.int .i64 0, .int .i64 0, .int .i64 0, .string { data := #[] }, .int .i64 0, .int .i64 0, .bool false, .bool false, .int .i64 0, .int .i64 0, .bool false, .bool false, .int .i64 0, .slice none 0 0] 37)).alloc (rfO nd.to)).alloc (rfO nd.ref)).drew (w.heap.size + 1) (exC nd0 (.slice none 0 0)) 37) := hide (((Blk.new1 w (exO nd (.slice a 0 cap)) (exC nd0 (.slice none 0 0)) 37).alloc (rfO nd.to)).alloc (rfO nd.ref))
    have X5 : Hid (Blk ((((w.alloc (exO nd (.slice a 0 cap))).alloc (.cells #[.int .i64 0, .int .i64 0, .int .i64 0, .string { data := #[] }, .int .i64 0, .int .i64 0, .bool false, .bool false, .int .i64 0, .int .i64 0, .bool false, .bool false, .int .i64 0, .slice none 0 0] 37)).alloc (rfO nd.to)).alloc (rfO nd.ref)).drew (w.heap.size + 1 + 1) (rfA nd.to) 35) := hide ((Blk.new2 w (exO nd (.slice a 0 cap)) (exO nd0 (.slice none 0 0)) (rfA nd.to) 35).alloc (rfO nd.ref))
    have Y5 : Hid (Blk ((((w.alloc (exO nd (.slice a 0 cap))).alloc (.cells #[.int .i64 0, .int .i64 0, .int .i64 0, .string { data := #[] }, .int .i64 0, .int .i64 0, .bool false, .bool false, .int .i64 0, .int .i64 0, .bool false, .bool false, .int .i64 0, .slice none 0 0] 37)).alloc (rfO nd.to)).alloc (rfO nd.ref)).drew (w.heap.size + 1 + 1 + 1) (rfA nd.ref) 35) := hide (Blk.new3 w (exO nd (.slice a 0 cap)) (exO nd0 (.slice none 0 0)) (rfO nd.to) (rfA nd.ref) 35)
    obtain ⟨w5, hw5⟩ : ∃ w5, w5 = ((((w.alloc (exO nd (.slice a 0 cap))).alloc (.cells #[.int .i64 0, .int .i64 0, .int .i64 0, .string { data := #[] }, .int .i64 0, .int .i64 0, .bool false, .bool false, .int .i64 0, .int .i64 0, .bool false, .bool false, .int .i64 0, .slice none 0 0] 37)).alloc (rfO nd.to)).alloc (rfO nd.ref)).drew := ⟨_, rfl⟩
    rw [← hw5] at B5 N5 R5 X5 Y5 ⊢
    clear hw5
    have T5 := X5
    have F5 := Y5
    clear X5 Y5
    have f0 := F5.out.at' 0
    have f1 := F5.out.at' 1
    have f2 := F5.out.at' 2
    have f3 := F5.out.at' 3
    have g0 := T5.out.at' 0
    have g1 := T5.out.at' 1
    have g2 := T5.out.at' 2
    have g3 := T5.out.at' 3
    simp [rfA] at f0 f1 f2 f3 g0 g1 g2 g3
    obtain ⟨u0, -, -, -, s4, s5, s6, s7, -, -, -, -, -, -⟩ := N5.out.c14
    clear s4 s5 s6 s7
    have q0 := cell_rg f0
    have q1 := cell_rg f1
    have q2 := cell_rg f2
    have q3 := cell_rg f3
    have p0 := cell_rg g0
    have p1 := cell_rg g1
    have p2 := cell_rg g2
    have p3 := cell_rg g3
    have kc := fun d' os => Calls.regrown_of (HC.out (grow (redrawn w5 d') os) (next (next hw.out B5.out) (below_regrown w5 d' os)))
    have kd := fun d' os => Calls.regrown_of (HD.out (grow (redrawn w5 d') os) (next (next hw.out B5.out) (below_regrown w5 d' os)))
    clear HC HD
    go_wp2_with fail
    refine quiet_tail 9 (by kernel_rfl) (by kernel_rfl) ?_
    simp only [List.take_succ_cons, List.take_zero, List.drop_succ_cons, List.drop_zero]
    repeat (go_big_quiet_step (first | (with_reducible exact kc _ _) | (with_reducible exact kd _ _)))
    refine wpQuiet_nil ?_
    intro w6 hw6
    have hb : Below w5.heap.size w5 w6 := by obtain ⟨⟨dq, osq⟩, hq⟩ := hw6; rw [hq]; exact below_regrown _ dq osq
    clear hw6 q0 q1 q2 q3 p0 p1 p2 p3 kc kd f0 f1 f2 f3 g0 g1 g2 g3 u0
    have B6 := hide (below_putR (below_putR (next B5.out hb) (Nat.le_refl _) 4 r1) (Nat.le_refl _) 8 r2)
    have th := (N5.out.keep hb).thr (j := 4) (by omega)
    have th2 := ((N5.out.keep hb).putR4 r1).thr (j := 8) (by omega)
    have N6 := hide (((N5.out.keep hb).putR4 r1).putR8 r2)
    have R6 := hide (((R5.out.keep hb).putO (b := w.heap.size) (j := 4) (r := r1) (by omega)).putO (b := w.heap.size) (j := 8) (r := r2) (by omega))
    clear hb
    go_wp2_with (first
      | (have hst := R1.out; refine wpList_store_row rfl 37 _ _ rfl _ (exC lostN (.slice none 0 0)) rfl rfl 37 _ hst (exC_info _ _) (by rfl) (exC_one _ _ _ _) ?_)
      | (go_at_call 64; with_reducible refine (G1.out _).mono ?_; rintro e w7 ⟨rfl, hb⟩; have N1 := hide (N6.out.keep hb); have R1 := hide (R6.out.keep hb); have b1 := hide (next B6.out hb); obtain ⟨-, -, -, -, -, -, -, -, t8, t9, t10, t11, -, -⟩ := N1.out.c14; (try dsimp only at t8 t9 t10 t11); clear hb)
      | (refine wpList_putR (b := w.heap.size) (j := 8) (r := r2) rfl _ _ rfl rfl rfl (by with_reducible exact th2) ?_; obtain ⟨w6q, hw6q⟩ : ∃ w6q, w6q = putR w6p w.heap.size 8 r2 := ⟨_, rfl⟩; rw [← hw6q] at B6 N6 R6 ⊢; clear hw6q th2; obtain ⟨-, -, -, -, s4, s5, s6, s7, -, -, -, -, -, -⟩ := N6.out.c14; dsimp only at s4 s5 s6 s7)
      | (refine wpList_putR (b := w.heap.size) (j := 4) (r := r1) rfl _ _ rfl rfl rfl (by with_reducible exact th) ?_; obtain ⟨w6p, hw6p⟩ : ∃ w6p, w6p = putR w6 w.heap.size 4 r1 := ⟨_, rfl⟩; rw [← hw6p] at B6 N6 R6 th2 ⊢; clear hw6p th))
    have F3 := R1.out.setRow (cs := exC lostN (.slice none 0 0))
    refine bodyPost_ret (v := exV lostN (.slice none 0 0)) (results_cell_row Try.results53 _ _ (w.heap.size + 1) 37 (exC lostN (.slice none 0 0)) (0, 0) _ rfl F3 Try.underlying37 rfl (exC_info _ _)) rfl ?_
    exact ⟨rfl, below_setRow b1.out (by simp) _⟩
theorem mn_any {w0 : World} {f : Mv} {F : Nat} {caps : Array Value} (hmv : MvIs w0 f F caps) (nd : Nd) (a : Option Addr) (len cap : Nat) (w : World) (hw : Below w0.heap.size w0 w) (ht : toldB nd len = true) :
    Calls Try.prog 53 #[exV nd (.slice a len cap), .func (.func F) #[] caps] w fun e w' => e = .returned (exV (movN f nd) (slM f nd (.slice a len cap))) ∧ Below w.heap.size w w' := by
  by_cases h5 : nd.kind = 5
  · cases hg : mayB (f nd.ref nd.ref).row (f nd.ref nd.ref).col
    · exact mn_5f hmv nd a len cap w hw ht h5 hg
    · exact mn_5t hmv nd a len cap w hw ht h5 hg
  · by_cases h6 : nd.kind = 6
    · cases hg : mayB (f nd.ref nd.to).row (f nd.ref nd.to).col
      · exact mn_6f hmv nd a len cap w hw ht h6 hg
      · cases hg' : mayB (f nd.to nd.ref).row (f nd.to nd.ref).col
        · exact mn_6tf hmv nd a len cap w hw ht h6 hg hg'
        · exact mn_6tt hmv nd a len cap w hw ht h6 hg hg'
    · exact mn_other hmv nd a len cap w hw ht h5 h6
end Go.Proofs.Ytiajoppbgebnpaa
