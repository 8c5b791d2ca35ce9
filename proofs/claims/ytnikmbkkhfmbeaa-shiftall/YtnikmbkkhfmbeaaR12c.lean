/- quadrilleref12.Move.single: an XRef, or what takes its place. -/
import Derived.Test.YtnikmbkkhfmbeaaR12b
namespace Go.Proofs.Ytnikmbkkhfmbeaa
open Go.RowKit Go.Sort
set_option linter.unusedVariables false

set_option maxHeartbeats 2000000 in
set_option maxRecDepth 100000 in
theorem single_1t (dr dc t n : Int) (nd : Nd) (a : Option Addr) (len cap : Nat) (w : World) (hr : mayB nd.ref.row nd.ref.col = true) (ho : mayB (rfM dr dc nd.ref).row (rfM dr dc nd.ref).col = true) : Calls Try.prog 46 #[mvV 1 dr dc t n, exV nd (.slice a len cap)] w fun e w' => e = .returned (exV { nd with ref := rfM dr dc nd.ref } (.slice a len cap)) ∧ Below w.heap.size w w' := by
  have HO := hide (ron_any (rfM dr dc nd.ref))
  rw [ho] at HO
  clear ho
  have HR := hide (rref_any 1 dr dc t n nd.ref hr)
  generalize rfM dr dc nd.ref = r1 at *
  have MB0 := hide (((Blk.new w #[.int .i64 1, .int .i64 dr, .int .i64 dc, .int .i64 t, .int .i64 n] 64).alloc (exO nd (.slice a len cap))).alloc (exO nd0 (.slice none 0 0)))
  have NB0 := hide ((Blk.new1 w (.cells #[.int .i64 1, .int .i64 dr, .int .i64 dc, .int .i64 t, .int .i64 n] 64) (exC nd (.slice a len cap)) 29).alloc (exO nd0 (.slice none 0 0)))
  have RB0 := hide (Blk.new2 w (.cells #[.int .i64 1, .int .i64 dr, .int .i64 dc, .int .i64 t, .int .i64 n] 64) (exO nd (.slice a len cap)) (exC nd0 (.slice none 0 0)) 29)
  have B0 := hide (step (step (step (Below.refl w.heap.size w) (.cells #[.int .i64 1, .int .i64 dr, .int .i64 dc, .int .i64 t, .int .i64 n] 64)) (exO nd (.slice a len cap))) (exO nd0 (.slice none 0 0)))
  obtain ⟨w0, hw0⟩ : ∃ w0, ((w.alloc (.cells #[.int .i64 1, .int .i64 dr, .int .i64 dc, .int .i64 t, .int .i64 n] 64)).alloc (exO nd (.slice a len cap))).alloc (.cells #[.int .i64 0, .int .i64 0, .int .i64 0, .string { data := #[] }, .int .i64 0, .int .i64 0, .bool false, .bool false, .int .i64 0, .int .i64 0, .bool false, .bool false, .int .i64 0, .slice none 0 0] 29) = w0 := ⟨_, rfl⟩
  replace MB0 : Hid (Blk w0 w.heap.size #[.int .i64 1, .int .i64 dr, .int .i64 dc, .int .i64 t, .int .i64 n] 64) := by rw [← hw0]; exact MB0
  replace NB0 : Hid (Blk w0 (w.heap.size + 1) (exC nd (.slice a len cap)) 29) := by rw [← hw0]; exact NB0
  replace RB0 : Hid (Blk w0 (w.heap.size + 1 + 1) (exC nd0 (.slice none 0 0)) 29) := by rw [← hw0]; exact RB0
  replace B0 : Hid (Below w.heap.size w w0) := by rw [← hw0]; exact B0
  have m0 : w0.cell? ⟨w.heap.size, 0, none⟩ = some (.int .i64 1) := MB0.out.at' 0
  have m1 : w0.cell? ⟨w.heap.size, 1, none⟩ = some (.int .i64 dr) := MB0.out.at' 1
  have m2 : w0.cell? ⟨w.heap.size, 2, none⟩ = some (.int .i64 dc) := MB0.out.at' 2
  have m3 : w0.cell? ⟨w.heap.size, 3, none⟩ = some (.int .i64 t) := MB0.out.at' 3
  have m4 : w0.cell? ⟨w.heap.size, 4, none⟩ = some (.int .i64 n) := MB0.out.at' 4
  obtain ⟨z0, z1, z2, z3, z4, z5, z6, z7, z8, z9, z10, z11, z12, z13⟩ := NB0.out.c14
  try dsimp only at z0 z1 z2 z3 z4 z5 z6 z7 z8 z9 z10 z11 z12 z13
  go_enter Try.func46, Try.ntmps46
  go_wp2_with fail
  clear hw0
  refine (HR.out w0).mono ?_
  rintro e w1 ⟨rfl, hb⟩
  have B1 := hide (next B0.out hb)
  have MB1 := hide (MB0.out.keep hb)
  have NB1 := hide (NB0.out.keep hb)
  have RB1 := hide (RB0.out.keep hb)
  clear hb
  clear m0 m1 m2 m3 m4 z0 z1 z2 z3 z4 z5 z6 z7 z8 z9 z10 z11 z12 z13
  have m0 : w1.cell? ⟨w.heap.size, 0, none⟩ = some (.int .i64 1) := MB1.out.at' 0
  have m1 : w1.cell? ⟨w.heap.size, 1, none⟩ = some (.int .i64 dr) := MB1.out.at' 1
  have m2 : w1.cell? ⟨w.heap.size, 2, none⟩ = some (.int .i64 dc) := MB1.out.at' 2
  have m3 : w1.cell? ⟨w.heap.size, 3, none⟩ = some (.int .i64 t) := MB1.out.at' 3
  have m4 : w1.cell? ⟨w.heap.size, 4, none⟩ = some (.int .i64 n) := MB1.out.at' 4
  obtain ⟨z0, z1, z2, z3, z4, z5, z6, z7, z8, z9, z10, z11, z12, z13⟩ := NB1.out.c14
  try dsimp only at z0 z1 z2 z3 z4 z5 z6 z7 z8 z9 z10 z11 z12 z13
  have th := NB1.out.thr (j := 4) (by omega)
  go_wp2_with (refine wpList_putR (b := w.heap.size + 1) (j := 4) (r := r1) rfl _ _ rfl rfl rfl (by with_reducible exact th) ?_; obtain ⟨w2, hw2⟩ : ∃ w2, w2 = putR w1 (w.heap.size + 1) 4 r1 := ⟨_, rfl⟩; have B2 : Hid (Below w.heap.size w w2) := hide (by rw [hw2]; exact below_putR B1.out (by omega) 4 r1); have MB2 : Hid (Blk w2 w.heap.size #[.int .i64 1, .int .i64 dr, .int .i64 dc, .int .i64 t, .int .i64 n] 64) := hide (by rw [hw2]; exact MB1.out.putO (by omega)); have NB2 : Hid (Blk w2 (w.heap.size + 1) (exC { nd with ref := r1 } (.slice a len cap)) 29) := hide (by rw [hw2]; exact NB1.out.putR4 r1); have RB2 : Hid (Blk w2 (w.heap.size + 1 + 1) (exC nd0 (.slice none 0 0)) 29) := hide (by rw [hw2]; exact RB1.out.putO (by omega)); rw [← hw2]; clear hw2 th m0 m1 m2 m3 m4 z0 z1 z2 z3 z4 z5 z6 z7 z8 z9 z10 z11 z12 z13; obtain ⟨-, -, -, -, y4, y5, y6, y7, -, -, -, -, -, -⟩ := NB2.out.c14; dsimp only at y4 y5 y6 y7)
  refine (HO.out w2).mono ?_
  rintro e w3 ⟨rfl, hb⟩
  have B3 := hide (next B2.out hb)
  have MB3 := hide (MB2.out.keep hb)
  have NB3 := hide (NB2.out.keep hb)
  have RB3 := hide (RB2.out.keep hb)
  clear hb
  clear y4 y5 y6 y7
  go_wp2_with (first
    | (refine wpList_load_blk rfl 29 _ rfl _ rfl _ (by with_reducible exact NB3.out) _ Try.underlying29 rfl (exC_info _ _) ?_)
    | (have hst := RB3.out; refine wpList_store_row rfl 29 _ _ rfl _ (exC { nd with ref := r1 } (.slice a len cap)) rfl rfl 29 _ hst (exC_info _ _) (by rfl) (exC_one _ _ _ _) ?_))
  have F3 := RB3.out.setRow (cs := exC { nd with ref := r1 } (.slice a len cap))
  refine bodyPost_ret (v := exV { nd with ref := r1 } (.slice a len cap)) (results_cell_row Try.results46 _ _ (w.heap.size + 1 + 1) 29 (exC { nd with ref := r1 } (.slice a len cap)) (0, 0) _ rfl F3 Try.underlying29 rfl (exC_info _ _)) rfl ?_
  exact ⟨rfl, below_setRow B3.out (by omega) _⟩
set_option maxHeartbeats 2000000 in
set_option maxRecDepth 100000 in
theorem single_1f (dr dc t n : Int) (nd : Nd) (a : Option Addr) (len cap : Nat) (w : World) (hr : mayB nd.ref.row nd.ref.col = true) (ho : mayB (rfM dr dc nd.ref).row (rfM dr dc nd.ref).col = false) : Calls Try.prog 46 #[mvV 1 dr dc t n, exV nd (.slice a len cap)] w fun e w' => e = .returned (exV lostN (.slice none 0 0)) ∧ Below w.heap.size w w' := by
  have HO := hide (ron_any (rfM dr dc nd.ref))
  rw [ho] at HO
  clear ho
  have HR := hide (rref_any 1 dr dc t n nd.ref hr)
  generalize rfM dr dc nd.ref = r1 at *
  have MB0 := hide (((Blk.new w #[.int .i64 1, .int .i64 dr, .int .i64 dc, .int .i64 t, .int .i64 n] 64).alloc (exO nd (.slice a len cap))).alloc (exO nd0 (.slice none 0 0)))
  have NB0 := hide ((Blk.new1 w (.cells #[.int .i64 1, .int .i64 dr, .int .i64 dc, .int .i64 t, .int .i64 n] 64) (exC nd (.slice a len cap)) 29).alloc (exO nd0 (.slice none 0 0)))
  have RB0 := hide (Blk.new2 w (.cells #[.int .i64 1, .int .i64 dr, .int .i64 dc, .int .i64 t, .int .i64 n] 64) (exO nd (.slice a len cap)) (exC nd0 (.slice none 0 0)) 29)
  have B0 := hide (step (step (step (Below.refl w.heap.size w) (.cells #[.int .i64 1, .int .i64 dr, .int .i64 dc, .int .i64 t, .int .i64 n] 64)) (exO nd (.slice a len cap))) (exO nd0 (.slice none 0 0)))
  obtain ⟨w0, hw0⟩ : ∃ w0, ((w.alloc (.cells #[.int .i64 1, .int .i64 dr, .int .i64 dc, .int .i64 t, .int .i64 n] 64)).alloc (exO nd (.slice a len cap))).alloc (.cells #[.int .i64 0, .int .i64 0, .int .i64 0, .string { data := #[] }, .int .i64 0, .int .i64 0, .bool false, .bool false, .int .i64 0, .int .i64 0, .bool false, .bool false, .int .i64 0, .slice none 0 0] 29) = w0 := ⟨_, rfl⟩
  replace MB0 : Hid (Blk w0 w.heap.size #[.int .i64 1, .int .i64 dr, .int .i64 dc, .int .i64 t, .int .i64 n] 64) := by rw [← hw0]; exact MB0
  replace NB0 : Hid (Blk w0 (w.heap.size + 1) (exC nd (.slice a len cap)) 29) := by rw [← hw0]; exact NB0
  replace RB0 : Hid (Blk w0 (w.heap.size + 1 + 1) (exC nd0 (.slice none 0 0)) 29) := by rw [← hw0]; exact RB0
  replace B0 : Hid (Below w.heap.size w w0) := by rw [← hw0]; exact B0
  have m0 : w0.cell? ⟨w.heap.size, 0, none⟩ = some (.int .i64 1) := MB0.out.at' 0
  have m1 : w0.cell? ⟨w.heap.size, 1, none⟩ = some (.int .i64 dr) := MB0.out.at' 1
  have m2 : w0.cell? ⟨w.heap.size, 2, none⟩ = some (.int .i64 dc) := MB0.out.at' 2
  have m3 : w0.cell? ⟨w.heap.size, 3, none⟩ = some (.int .i64 t) := MB0.out.at' 3
  have m4 : w0.cell? ⟨w.heap.size, 4, none⟩ = some (.int .i64 n) := MB0.out.at' 4
  obtain ⟨z0, z1, z2, z3, z4, z5, z6, z7, z8, z9, z10, z11, z12, z13⟩ := NB0.out.c14
  try dsimp only at z0 z1 z2 z3 z4 z5 z6 z7 z8 z9 z10 z11 z12 z13
  go_enter Try.func46, Try.ntmps46
  go_wp2_with fail
  clear hw0
  refine (HR.out w0).mono ?_
  rintro e w1 ⟨rfl, hb⟩
  have B1 := hide (next B0.out hb)
  have MB1 := hide (MB0.out.keep hb)
  have NB1 := hide (NB0.out.keep hb)
  have RB1 := hide (RB0.out.keep hb)
  clear hb
  clear m0 m1 m2 m3 m4 z0 z1 z2 z3 z4 z5 z6 z7 z8 z9 z10 z11 z12 z13
  have m0 : w1.cell? ⟨w.heap.size, 0, none⟩ = some (.int .i64 1) := MB1.out.at' 0
  have m1 : w1.cell? ⟨w.heap.size, 1, none⟩ = some (.int .i64 dr) := MB1.out.at' 1
  have m2 : w1.cell? ⟨w.heap.size, 2, none⟩ = some (.int .i64 dc) := MB1.out.at' 2
  have m3 : w1.cell? ⟨w.heap.size, 3, none⟩ = some (.int .i64 t) := MB1.out.at' 3
  have m4 : w1.cell? ⟨w.heap.size, 4, none⟩ = some (.int .i64 n) := MB1.out.at' 4
  obtain ⟨z0, z1, z2, z3, z4, z5, z6, z7, z8, z9, z10, z11, z12, z13⟩ := NB1.out.c14
  try dsimp only at z0 z1 z2 z3 z4 z5 z6 z7 z8 z9 z10 z11 z12 z13
  have th := NB1.out.thr (j := 4) (by omega)
  go_wp2_with (refine wpList_putR (b := w.heap.size + 1) (j := 4) (r := r1) rfl _ _ rfl rfl rfl (by with_reducible exact th) ?_; obtain ⟨w2, hw2⟩ : ∃ w2, w2 = putR w1 (w.heap.size + 1) 4 r1 := ⟨_, rfl⟩; have B2 : Hid (Below w.heap.size w w2) := hide (by rw [hw2]; exact below_putR B1.out (by omega) 4 r1); have MB2 : Hid (Blk w2 w.heap.size #[.int .i64 1, .int .i64 dr, .int .i64 dc, .int .i64 t, .int .i64 n] 64) := hide (by rw [hw2]; exact MB1.out.putO (by omega)); have NB2 : Hid (Blk w2 (w.heap.size + 1) (exC { nd with ref := r1 } (.slice a len cap)) 29) := hide (by rw [hw2]; exact NB1.out.putR4 r1); have RB2 : Hid (Blk w2 (w.heap.size + 1 + 1) (exC nd0 (.slice none 0 0)) 29) := hide (by rw [hw2]; exact RB1.out.putO (by omega)); rw [← hw2]; clear hw2 th m0 m1 m2 m3 m4 z0 z1 z2 z3 z4 z5 z6 z7 z8 z9 z10 z11 z12 z13; obtain ⟨-, -, -, -, y4, y5, y6, y7, -, -, -, -, -, -⟩ := NB2.out.c14; dsimp only at y4 y5 y6 y7)
  refine (HO.out w2).mono ?_
  rintro e w3 ⟨rfl, hb⟩
  have B3 := hide (next B2.out hb)
  have MB3 := hide (MB2.out.keep hb)
  have NB3 := hide (NB2.out.keep hb)
  have RB3 := hide (RB2.out.keep hb)
  clear hb
  clear y4 y5 y6 y7
  go_wp2_with fail
  refine (rlost_any w3).mono ?_
  rintro e w4 ⟨rfl, hb⟩
  have B4 := hide (next B3.out hb)
  have MB4 := hide (MB3.out.keep hb)
  have NB4 := hide (NB3.out.keep hb)
  have RB4 := hide (RB3.out.keep hb)
  clear hb
  go_wp2_with (have hst := RB4.out; refine wpList_store_row rfl 29 _ _ rfl _ (exC lostN (.slice none 0 0)) rfl rfl 29 _ hst (exC_info _ _) (by rfl) (exC_one _ _ _ _) ?_)
  have F3 := RB4.out.setRow (cs := exC lostN (.slice none 0 0))
  refine bodyPost_ret (v := exV lostN (.slice none 0 0)) (results_cell_row Try.results46 _ _ (w.heap.size + 1 + 1) 29 (exC lostN (.slice none 0 0)) (0, 0) _ rfl F3 Try.underlying29 rfl (exC_info _ _)) rfl ?_
  exact ⟨rfl, below_setRow B4.out (by omega) _⟩
set_option maxHeartbeats 2000000 in
set_option maxRecDepth 100000 in
theorem single_2o (dr dc t n : Int) (nd : Nd) (a : Option Addr) (len cap : Nat) (w : World) (hr : mayB nd.ref.row nd.ref.col = true) (t0 : 0 ≤ t) (t1 : t < 65536) (ho : outR t n nd.ref.row 65536 = true) : Calls Try.prog 46 #[mvV 2 dr dc t n, exV nd (.slice a len cap)] w fun e w' => e = .returned (exV lostN (.slice none 0 0)) ∧ Below w.heap.size w w' := by
  have hr := mayB_iff.1 hr
  have HO := hide (rout_any 2 dr dc t n nd.ref.row 65536 t0 (by omega) (by omega) (by omega))
  rw [ho] at HO
  clear ho
  have MB0 := hide (((Blk.new w #[.int .i64 2, .int .i64 dr, .int .i64 dc, .int .i64 t, .int .i64 n] 64).alloc (exO nd (.slice a len cap))).alloc (exO nd0 (.slice none 0 0)))
  have NB0 := hide ((Blk.new1 w (.cells #[.int .i64 2, .int .i64 dr, .int .i64 dc, .int .i64 t, .int .i64 n] 64) (exC nd (.slice a len cap)) 29).alloc (exO nd0 (.slice none 0 0)))
  have RB0 := hide (Blk.new2 w (.cells #[.int .i64 2, .int .i64 dr, .int .i64 dc, .int .i64 t, .int .i64 n] 64) (exO nd (.slice a len cap)) (exC nd0 (.slice none 0 0)) 29)
  have B0 := hide (step (step (step (Below.refl w.heap.size w) (.cells #[.int .i64 2, .int .i64 dr, .int .i64 dc, .int .i64 t, .int .i64 n] 64)) (exO nd (.slice a len cap))) (exO nd0 (.slice none 0 0)))
  obtain ⟨w0, hw0⟩ : ∃ w0, ((w.alloc (.cells #[.int .i64 2, .int .i64 dr, .int .i64 dc, .int .i64 t, .int .i64 n] 64)).alloc (exO nd (.slice a len cap))).alloc (.cells #[.int .i64 0, .int .i64 0, .int .i64 0, .string { data := #[] }, .int .i64 0, .int .i64 0, .bool false, .bool false, .int .i64 0, .int .i64 0, .bool false, .bool false, .int .i64 0, .slice none 0 0] 29) = w0 := ⟨_, rfl⟩
  replace MB0 : Hid (Blk w0 w.heap.size #[.int .i64 2, .int .i64 dr, .int .i64 dc, .int .i64 t, .int .i64 n] 64) := by rw [← hw0]; exact MB0
  replace NB0 : Hid (Blk w0 (w.heap.size + 1) (exC nd (.slice a len cap)) 29) := by rw [← hw0]; exact NB0
  replace RB0 : Hid (Blk w0 (w.heap.size + 1 + 1) (exC nd0 (.slice none 0 0)) 29) := by rw [← hw0]; exact RB0
  replace B0 : Hid (Below w.heap.size w w0) := by rw [← hw0]; exact B0
  have m0 : w0.cell? ⟨w.heap.size, 0, none⟩ = some (.int .i64 2) := MB0.out.at' 0
  have m1 : w0.cell? ⟨w.heap.size, 1, none⟩ = some (.int .i64 dr) := MB0.out.at' 1
  have m2 : w0.cell? ⟨w.heap.size, 2, none⟩ = some (.int .i64 dc) := MB0.out.at' 2
  have m3 : w0.cell? ⟨w.heap.size, 3, none⟩ = some (.int .i64 t) := MB0.out.at' 3
  have m4 : w0.cell? ⟨w.heap.size, 4, none⟩ = some (.int .i64 n) := MB0.out.at' 4
  obtain ⟨z0, z1, z2, z3, z4, z5, z6, z7, z8, z9, z10, z11, z12, z13⟩ := NB0.out.c14
  try dsimp only at z0 z1 z2 z3 z4 z5 z6 z7 z8 z9 z10 z11 z12 z13
  go_enter Try.func46, Try.ntmps46
  go_wp2_with fail
  clear hw0
  refine (HO.out w0).mono ?_
  rintro e w1 ⟨rfl, hb⟩
  have B1 := hide (next B0.out hb)
  have MB1 := hide (MB0.out.keep hb)
  have NB1 := hide (NB0.out.keep hb)
  have RB1 := hide (RB0.out.keep hb)
  clear hb
  clear m0 m1 m2 m3 m4 z0 z1 z2 z3 z4 z5 z6 z7 z8 z9 z10 z11 z12 z13
  have m0 : w1.cell? ⟨w.heap.size, 0, none⟩ = some (.int .i64 2) := MB1.out.at' 0
  have m1 : w1.cell? ⟨w.heap.size, 1, none⟩ = some (.int .i64 dr) := MB1.out.at' 1
  have m2 : w1.cell? ⟨w.heap.size, 2, none⟩ = some (.int .i64 dc) := MB1.out.at' 2
  have m3 : w1.cell? ⟨w.heap.size, 3, none⟩ = some (.int .i64 t) := MB1.out.at' 3
  have m4 : w1.cell? ⟨w.heap.size, 4, none⟩ = some (.int .i64 n) := MB1.out.at' 4
  obtain ⟨z0, z1, z2, z3, z4, z5, z6, z7, z8, z9, z10, z11, z12, z13⟩ := NB1.out.c14
  try dsimp only at z0 z1 z2 z3 z4 z5 z6 z7 z8 z9 z10 z11 z12 z13
  go_wp2_with fail
  refine (rlost_any w1).mono ?_
  rintro e w2 ⟨rfl, hb⟩
  have B2 := hide (next B1.out hb)
  have MB2 := hide (MB1.out.keep hb)
  have NB2 := hide (NB1.out.keep hb)
  have RB2 := hide (RB1.out.keep hb)
  clear hb
  go_wp2_with (have hst := RB2.out; refine wpList_store_row rfl 29 _ _ rfl _ (exC lostN (.slice none 0 0)) rfl rfl 29 _ hst (exC_info _ _) (by rfl) (exC_one _ _ _ _) ?_)
  have F3 := RB2.out.setRow (cs := exC lostN (.slice none 0 0))
  refine bodyPost_ret (v := exV lostN (.slice none 0 0)) (results_cell_row Try.results46 _ _ (w.heap.size + 1 + 1) 29 (exC lostN (.slice none 0 0)) (0, 0) _ rfl F3 Try.underlying29 rfl (exC_info _ _)) rfl ?_
  exact ⟨rfl, below_setRow B2.out (by omega) _⟩
set_option maxHeartbeats 2000000 in
set_option maxRecDepth 100000 in
theorem single_2t (dr dc t n : Int) (nd : Nd) (a : Option Addr) (len cap : Nat) (w : World) (hr : mayB nd.ref.row nd.ref.col = true) (t0 : 0 ≤ t) (t1 : t < 65536) (ho : outR t n nd.ref.row 65536 = false) (hg : mayB { nd with ref := ⟨(lineR t n nd.ref.row 65536), nd.ref.col, nd.ref.pr, nd.ref.pc⟩ }.ref.row { nd with ref := ⟨(lineR t n nd.ref.row 65536), nd.ref.col, nd.ref.pr, nd.ref.pc⟩ }.ref.col = true) : Calls Try.prog 46 #[mvV 2 dr dc t n, exV nd (.slice a len cap)] w fun e w' => e = .returned (exV { nd with ref := ⟨(lineR t n nd.ref.row 65536), nd.ref.col, nd.ref.pr, nd.ref.pc⟩ } (.slice a len cap)) ∧ Below w.heap.size w w' := by
  have hr := mayB_iff.1 hr
  have HO := hide (rout_any 2 dr dc t n nd.ref.row 65536 t0 (by omega) (by omega) (by omega))
  rw [ho] at HO
  clear ho
  have HL := hide (rline_any 2 dr dc t n nd.ref.row 65536 t0 (by omega) (by omega) (by omega) (by omega) (by omega) (by omega))
  have HG := hide (ron_any { nd with ref := ⟨(lineR t n nd.ref.row 65536), nd.ref.col, nd.ref.pr, nd.ref.pc⟩ }.ref)
  rw [hg] at HG
  dsimp only at HG
  clear hg hr
  generalize lineR t n nd.ref.row 65536 = L at *
  have MB0 := hide (((Blk.new w #[.int .i64 2, .int .i64 dr, .int .i64 dc, .int .i64 t, .int .i64 n] 64).alloc (exO nd (.slice a len cap))).alloc (exO nd0 (.slice none 0 0)))
  have NB0 := hide ((Blk.new1 w (.cells #[.int .i64 2, .int .i64 dr, .int .i64 dc, .int .i64 t, .int .i64 n] 64) (exC nd (.slice a len cap)) 29).alloc (exO nd0 (.slice none 0 0)))
  have RB0 := hide (Blk.new2 w (.cells #[.int .i64 2, .int .i64 dr, .int .i64 dc, .int .i64 t, .int .i64 n] 64) (exO nd (.slice a len cap)) (exC nd0 (.slice none 0 0)) 29)
  have B0 := hide (step (step (step (Below.refl w.heap.size w) (.cells #[.int .i64 2, .int .i64 dr, .int .i64 dc, .int .i64 t, .int .i64 n] 64)) (exO nd (.slice a len cap))) (exO nd0 (.slice none 0 0)))
  obtain ⟨w0, hw0⟩ : ∃ w0, ((w.alloc (.cells #[.int .i64 2, .int .i64 dr, .int .i64 dc, .int .i64 t, .int .i64 n] 64)).alloc (exO nd (.slice a len cap))).alloc (.cells #[.int .i64 0, .int .i64 0, .int .i64 0, .string { data := #[] }, .int .i64 0, .int .i64 0, .bool false, .bool false, .int .i64 0, .int .i64 0, .bool false, .bool false, .int .i64 0, .slice none 0 0] 29) = w0 := ⟨_, rfl⟩
  replace MB0 : Hid (Blk w0 w.heap.size #[.int .i64 2, .int .i64 dr, .int .i64 dc, .int .i64 t, .int .i64 n] 64) := by rw [← hw0]; exact MB0
  replace NB0 : Hid (Blk w0 (w.heap.size + 1) (exC nd (.slice a len cap)) 29) := by rw [← hw0]; exact NB0
  replace RB0 : Hid (Blk w0 (w.heap.size + 1 + 1) (exC nd0 (.slice none 0 0)) 29) := by rw [← hw0]; exact RB0
  replace B0 : Hid (Below w.heap.size w w0) := by rw [← hw0]; exact B0
  have m0 : w0.cell? ⟨w.heap.size, 0, none⟩ = some (.int .i64 2) := MB0.out.at' 0
  have m1 : w0.cell? ⟨w.heap.size, 1, none⟩ = some (.int .i64 dr) := MB0.out.at' 1
  have m2 : w0.cell? ⟨w.heap.size, 2, none⟩ = some (.int .i64 dc) := MB0.out.at' 2
  have m3 : w0.cell? ⟨w.heap.size, 3, none⟩ = some (.int .i64 t) := MB0.out.at' 3
  have m4 : w0.cell? ⟨w.heap.size, 4, none⟩ = some (.int .i64 n) := MB0.out.at' 4
  obtain ⟨z0, z1, z2, z3, z4, z5, z6, z7, z8, z9, z10, z11, z12, z13⟩ := NB0.out.c14
  try dsimp only at z0 z1 z2 z3 z4 z5 z6 z7 z8 z9 z10 z11 z12 z13
  go_enter Try.func46, Try.ntmps46
  go_wp2_with fail
  clear hw0
  refine (HO.out w0).mono ?_
  rintro e w1 ⟨rfl, hb⟩
  have B1 := hide (next B0.out hb)
  have MB1 := hide (MB0.out.keep hb)
  have NB1 := hide (NB0.out.keep hb)
  have RB1 := hide (RB0.out.keep hb)
  clear hb
  clear m0 m1 m2 m3 m4 z0 z1 z2 z3 z4 z5 z6 z7 z8 z9 z10 z11 z12 z13
  have m0 : w1.cell? ⟨w.heap.size, 0, none⟩ = some (.int .i64 2) := MB1.out.at' 0
  have m1 : w1.cell? ⟨w.heap.size, 1, none⟩ = some (.int .i64 dr) := MB1.out.at' 1
  have m2 : w1.cell? ⟨w.heap.size, 2, none⟩ = some (.int .i64 dc) := MB1.out.at' 2
  have m3 : w1.cell? ⟨w.heap.size, 3, none⟩ = some (.int .i64 t) := MB1.out.at' 3
  have m4 : w1.cell? ⟨w.heap.size, 4, none⟩ = some (.int .i64 n) := MB1.out.at' 4
  obtain ⟨z0, z1, z2, z3, z4, z5, z6, z7, z8, z9, z10, z11, z12, z13⟩ := NB1.out.c14
  try dsimp only at z0 z1 z2 z3 z4 z5 z6 z7 z8 z9 z10 z11 z12 z13
  go_wp2_with fail
  refine (HL.out w1).mono ?_
  rintro e w2 ⟨rfl, hb⟩
  have B2 := hide (next B1.out hb)
  have MB2 := hide (MB1.out.keep hb)
  have NB2 := hide (NB1.out.keep hb)
  have RB2 := hide (RB1.out.keep hb)
  clear hb
  clear m0 m1 m2 m3 m4 z0 z1 z2 z3 z4 z5 z6 z7 z8 z9 z10 z11 z12 z13
  have m0 : w2.cell? ⟨w.heap.size, 0, none⟩ = some (.int .i64 2) := MB2.out.at' 0
  have m1 : w2.cell? ⟨w.heap.size, 1, none⟩ = some (.int .i64 dr) := MB2.out.at' 1
  have m2 : w2.cell? ⟨w.heap.size, 2, none⟩ = some (.int .i64 dc) := MB2.out.at' 2
  have m3 : w2.cell? ⟨w.heap.size, 3, none⟩ = some (.int .i64 t) := MB2.out.at' 3
  have m4 : w2.cell? ⟨w.heap.size, 4, none⟩ = some (.int .i64 n) := MB2.out.at' 4
  obtain ⟨z0, z1, z2, z3, z4, z5, z6, z7, z8, z9, z10, z11, z12, z13⟩ := NB2.out.c14
  try dsimp only at z0 z1 z2 z3 z4 z5 z6 z7 z8 z9 z10 z11 z12 z13
  have f4 := NB2.out.fr 4
  go_wp2_with fail
  have B3 : Hid (Below w.heap.size w (w2.setCell ⟨w.heap.size + 1, 4, none⟩ (.int .i64 L))) := hide (B2.out.setCell (p := ⟨w.heap.size + 1, 4, none⟩) (by simp) _)
  have MB3 : Hid (Blk (w2.setCell ⟨w.heap.size + 1, 4, none⟩ (.int .i64 L)) w.heap.size #[.int .i64 2, .int .i64 dr, .int .i64 dc, .int .i64 t, .int .i64 n] 64) := hide (blk_other MB2.out (by omega))
  have NB3 : Hid (Blk (w2.setCell ⟨w.heap.size + 1, 4, none⟩ (.int .i64 L)) (w.heap.size + 1) (exC { nd with ref := ⟨L, nd.ref.col, nd.ref.pr, nd.ref.pc⟩ } (.slice a len cap)) 29) := hide (NB2.out.set 4 (.int .i64 L))
  have RB3 : Hid (Blk (w2.setCell ⟨w.heap.size + 1, 4, none⟩ (.int .i64 L)) (w.heap.size + 1 + 1) (exC nd0 (.slice none 0 0)) 29) := hide (blk_other RB2.out (by omega))
  obtain ⟨w3, hw3⟩ : ∃ w3, w2.setCell ⟨w.heap.size + 1, 4, none⟩ (.int .i64 L) = w3 := ⟨_, rfl⟩
  rw [hw3] at B3 MB3 NB3 RB3 ⊢
  clear hw3
  clear f4
  clear m0 m1 m2 m3 m4 z0 z1 z2 z3 z4 z5 z6 z7 z8 z9 z10 z11 z12 z13
  refine (HG.out w3).mono ?_
  rintro e w4 ⟨rfl, hb⟩
  have B4 := hide (next B3.out hb)
  have MB4 := hide (MB3.out.keep hb)
  have NB4 := hide (NB3.out.keep hb)
  have RB4 := hide (RB3.out.keep hb)
  clear hb
  go_wp2_with (first
    | (refine wpList_load_blk rfl 29 _ rfl _ rfl _ (by with_reducible exact NB4.out) _ Try.underlying29 rfl (exC_info _ _) ?_)
    | (have hst := RB4.out; refine wpList_store_row rfl 29 _ _ rfl _ (exC { nd with ref := ⟨L, nd.ref.col, nd.ref.pr, nd.ref.pc⟩ } (.slice a len cap)) rfl rfl 29 _ hst (exC_info _ _) (by rfl) (exC_one _ _ _ _) ?_))
  have F3 := RB4.out.setRow (cs := exC { nd with ref := ⟨L, nd.ref.col, nd.ref.pr, nd.ref.pc⟩ } (.slice a len cap))
  refine bodyPost_ret (v := exV { nd with ref := ⟨L, nd.ref.col, nd.ref.pr, nd.ref.pc⟩ } (.slice a len cap)) (results_cell_row Try.results46 _ _ (w.heap.size + 1 + 1) 29 (exC { nd with ref := ⟨L, nd.ref.col, nd.ref.pr, nd.ref.pc⟩ } (.slice a len cap)) (0, 0) _ rfl F3 Try.underlying29 rfl (exC_info _ _)) rfl ?_
  exact ⟨rfl, below_setRow B4.out (by omega) _⟩
set_option maxHeartbeats 2000000 in
set_option maxRecDepth 100000 in
theorem single_2f (dr dc t n : Int) (nd : Nd) (a : Option Addr) (len cap : Nat) (w : World) (hr : mayB nd.ref.row nd.ref.col = true) (t0 : 0 ≤ t) (t1 : t < 65536) (ho : outR t n nd.ref.row 65536 = false) (hg : mayB { nd with ref := ⟨(lineR t n nd.ref.row 65536), nd.ref.col, nd.ref.pr, nd.ref.pc⟩ }.ref.row { nd with ref := ⟨(lineR t n nd.ref.row 65536), nd.ref.col, nd.ref.pr, nd.ref.pc⟩ }.ref.col = false) : Calls Try.prog 46 #[mvV 2 dr dc t n, exV nd (.slice a len cap)] w fun e w' => e = .returned (exV lostN (.slice none 0 0)) ∧ Below w.heap.size w w' := by
  have hr := mayB_iff.1 hr
  have HO := hide (rout_any 2 dr dc t n nd.ref.row 65536 t0 (by omega) (by omega) (by omega))
  rw [ho] at HO
  clear ho
  have HL := hide (rline_any 2 dr dc t n nd.ref.row 65536 t0 (by omega) (by omega) (by omega) (by omega) (by omega) (by omega))
  have HG := hide (ron_any { nd with ref := ⟨(lineR t n nd.ref.row 65536), nd.ref.col, nd.ref.pr, nd.ref.pc⟩ }.ref)
  rw [hg] at HG
  dsimp only at HG
  clear hg hr
  generalize lineR t n nd.ref.row 65536 = L at *
  have MB0 := hide (((Blk.new w #[.int .i64 2, .int .i64 dr, .int .i64 dc, .int .i64 t, .int .i64 n] 64).alloc (exO nd (.slice a len cap))).alloc (exO nd0 (.slice none 0 0)))
  have NB0 := hide ((Blk.new1 w (.cells #[.int .i64 2, .int .i64 dr, .int .i64 dc, .int .i64 t, .int .i64 n] 64) (exC nd (.slice a len cap)) 29).alloc (exO nd0 (.slice none 0 0)))
  have RB0 := hide (Blk.new2 w (.cells #[.int .i64 2, .int .i64 dr, .int .i64 dc, .int .i64 t, .int .i64 n] 64) (exO nd (.slice a len cap)) (exC nd0 (.slice none 0 0)) 29)
  have B0 := hide (step (step (step (Below.refl w.heap.size w) (.cells #[.int .i64 2, .int .i64 dr, .int .i64 dc, .int .i64 t, .int .i64 n] 64)) (exO nd (.slice a len cap))) (exO nd0 (.slice none 0 0)))
  obtain ⟨w0, hw0⟩ : ∃ w0, ((w.alloc (.cells #[.int .i64 2, .int .i64 dr, .int .i64 dc, .int .i64 t, .int .i64 n] 64)).alloc (exO nd (.slice a len cap))).alloc (.cells #[.int .i64 0, .int .i64 0, .int .i64 0, .string { data := #[] }, .int .i64 0, .int .i64 0, .bool false, .bool false, .int .i64 0, .int .i64 0, .bool false, .bool false, .int .i64 0, .slice none 0 0] 29) = w0 := ⟨_, rfl⟩
  replace MB0 : Hid (Blk w0 w.heap.size #[.int .i64 2, .int .i64 dr, .int .i64 dc, .int .i64 t, .int .i64 n] 64) := by rw [← hw0]; exact MB0
  replace NB0 : Hid (Blk w0 (w.heap.size + 1) (exC nd (.slice a len cap)) 29) := by rw [← hw0]; exact NB0
  replace RB0 : Hid (Blk w0 (w.heap.size + 1 + 1) (exC nd0 (.slice none 0 0)) 29) := by rw [← hw0]; exact RB0
  replace B0 : Hid (Below w.heap.size w w0) := by rw [← hw0]; exact B0
  have m0 : w0.cell? ⟨w.heap.size, 0, none⟩ = some (.int .i64 2) := MB0.out.at' 0
  have m1 : w0.cell? ⟨w.heap.size, 1, none⟩ = some (.int .i64 dr) := MB0.out.at' 1
  have m2 : w0.cell? ⟨w.heap.size, 2, none⟩ = some (.int .i64 dc) := MB0.out.at' 2
  have m3 : w0.cell? ⟨w.heap.size, 3, none⟩ = some (.int .i64 t) := MB0.out.at' 3
  have m4 : w0.cell? ⟨w.heap.size, 4, none⟩ = some (.int .i64 n) := MB0.out.at' 4
  obtain ⟨z0, z1, z2, z3, z4, z5, z6, z7, z8, z9, z10, z11, z12, z13⟩ := NB0.out.c14
  try dsimp only at z0 z1 z2 z3 z4 z5 z6 z7 z8 z9 z10 z11 z12 z13
  go_enter Try.func46, Try.ntmps46
  go_wp2_with fail
  clear hw0
  refine (HO.out w0).mono ?_
  rintro e w1 ⟨rfl, hb⟩
  have B1 := hide (next B0.out hb)
  have MB1 := hide (MB0.out.keep hb)
  have NB1 := hide (NB0.out.keep hb)
  have RB1 := hide (RB0.out.keep hb)
  clear hb
  clear m0 m1 m2 m3 m4 z0 z1 z2 z3 z4 z5 z6 z7 z8 z9 z10 z11 z12 z13
  have m0 : w1.cell? ⟨w.heap.size, 0, none⟩ = some (.int .i64 2) := MB1.out.at' 0
  have m1 : w1.cell? ⟨w.heap.size, 1, none⟩ = some (.int .i64 dr) := MB1.out.at' 1
  have m2 : w1.cell? ⟨w.heap.size, 2, none⟩ = some (.int .i64 dc) := MB1.out.at' 2
  have m3 : w1.cell? ⟨w.heap.size, 3, none⟩ = some (.int .i64 t) := MB1.out.at' 3
  have m4 : w1.cell? ⟨w.heap.size, 4, none⟩ = some (.int .i64 n) := MB1.out.at' 4
  obtain ⟨z0, z1, z2, z3, z4, z5, z6, z7, z8, z9, z10, z11, z12, z13⟩ := NB1.out.c14
  try dsimp only at z0 z1 z2 z3 z4 z5 z6 z7 z8 z9 z10 z11 z12 z13
  go_wp2_with fail
  refine (HL.out w1).mono ?_
  rintro e w2 ⟨rfl, hb⟩
  have B2 := hide (next B1.out hb)
  have MB2 := hide (MB1.out.keep hb)
  have NB2 := hide (NB1.out.keep hb)
  have RB2 := hide (RB1.out.keep hb)
  clear hb
  clear m0 m1 m2 m3 m4 z0 z1 z2 z3 z4 z5 z6 z7 z8 z9 z10 z11 z12 z13
  have m0 : w2.cell? ⟨w.heap.size, 0, none⟩ = some (.int .i64 2) := MB2.out.at' 0
  have m1 : w2.cell? ⟨w.heap.size, 1, none⟩ = some (.int .i64 dr) := MB2.out.at' 1
  have m2 : w2.cell? ⟨w.heap.size, 2, none⟩ = some (.int .i64 dc) := MB2.out.at' 2
  have m3 : w2.cell? ⟨w.heap.size, 3, none⟩ = some (.int .i64 t) := MB2.out.at' 3
  have m4 : w2.cell? ⟨w.heap.size, 4, none⟩ = some (.int .i64 n) := MB2.out.at' 4
  obtain ⟨z0, z1, z2, z3, z4, z5, z6, z7, z8, z9, z10, z11, z12, z13⟩ := NB2.out.c14
  try dsimp only at z0 z1 z2 z3 z4 z5 z6 z7 z8 z9 z10 z11 z12 z13
  have f4 := NB2.out.fr 4
  go_wp2_with fail
  have B3 : Hid (Below w.heap.size w (w2.setCell ⟨w.heap.size + 1, 4, none⟩ (.int .i64 L))) := hide (B2.out.setCell (p := ⟨w.heap.size + 1, 4, none⟩) (by simp) _)
  have MB3 : Hid (Blk (w2.setCell ⟨w.heap.size + 1, 4, none⟩ (.int .i64 L)) w.heap.size #[.int .i64 2, .int .i64 dr, .int .i64 dc, .int .i64 t, .int .i64 n] 64) := hide (blk_other MB2.out (by omega))
  have NB3 : Hid (Blk (w2.setCell ⟨w.heap.size + 1, 4, none⟩ (.int .i64 L)) (w.heap.size + 1) (exC { nd with ref := ⟨L, nd.ref.col, nd.ref.pr, nd.ref.pc⟩ } (.slice a len cap)) 29) := hide (NB2.out.set 4 (.int .i64 L))
  have RB3 : Hid (Blk (w2.setCell ⟨w.heap.size + 1, 4, none⟩ (.int .i64 L)) (w.heap.size + 1 + 1) (exC nd0 (.slice none 0 0)) 29) := hide (blk_other RB2.out (by omega))
  obtain ⟨w3, hw3⟩ : ∃ w3, w2.setCell ⟨w.heap.size + 1, 4, none⟩ (.int .i64 L) = w3 := ⟨_, rfl⟩
  rw [hw3] at B3 MB3 NB3 RB3 ⊢
  clear hw3
  clear f4
  clear m0 m1 m2 m3 m4 z0 z1 z2 z3 z4 z5 z6 z7 z8 z9 z10 z11 z12 z13
  refine (HG.out w3).mono ?_
  rintro e w4 ⟨rfl, hb⟩
  have B4 := hide (next B3.out hb)
  have MB4 := hide (MB3.out.keep hb)
  have NB4 := hide (NB3.out.keep hb)
  have RB4 := hide (RB3.out.keep hb)
  clear hb
  go_wp2_with fail
  refine (rlost_any w4).mono ?_
  rintro e w5 ⟨rfl, hb⟩
  have B5 := hide (next B4.out hb)
  have MB5 := hide (MB4.out.keep hb)
  have NB5 := hide (NB4.out.keep hb)
  have RB5 := hide (RB4.out.keep hb)
  clear hb
  go_wp2_with (have hst := RB5.out; refine wpList_store_row rfl 29 _ _ rfl _ (exC lostN (.slice none 0 0)) rfl rfl 29 _ hst (exC_info _ _) (by rfl) (exC_one _ _ _ _) ?_)
  have F3 := RB5.out.setRow (cs := exC lostN (.slice none 0 0))
  refine bodyPost_ret (v := exV lostN (.slice none 0 0)) (results_cell_row Try.results46 _ _ (w.heap.size + 1 + 1) 29 (exC lostN (.slice none 0 0)) (0, 0) _ rfl F3 Try.underlying29 rfl (exC_info _ _)) rfl ?_
  exact ⟨rfl, below_setRow B5.out (by omega) _⟩
set_option maxHeartbeats 2000000 in
set_option maxRecDepth 100000 in
theorem single_3o (dr dc t n : Int) (nd : Nd) (a : Option Addr) (len cap : Nat) (w : World) (hr : mayB nd.ref.row nd.ref.col = true) (t0 : 0 ≤ t) (t1 : t < 702) (ho : outR t n nd.ref.col 702 = true) : Calls Try.prog 46 #[mvV 3 dr dc t n, exV nd (.slice a len cap)] w fun e w' => e = .returned (exV lostN (.slice none 0 0)) ∧ Below w.heap.size w w' := by
  have hr := mayB_iff.1 hr
  have HO := hide (rout_any 3 dr dc t n nd.ref.col 702 t0 (by omega) (by omega) (by omega))
  rw [ho] at HO
  clear ho
  have MB0 := hide (((Blk.new w #[.int .i64 3, .int .i64 dr, .int .i64 dc, .int .i64 t, .int .i64 n] 64).alloc (exO nd (.slice a len cap))).alloc (exO nd0 (.slice none 0 0)))
  have NB0 := hide ((Blk.new1 w (.cells #[.int .i64 3, .int .i64 dr, .int .i64 dc, .int .i64 t, .int .i64 n] 64) (exC nd (.slice a len cap)) 29).alloc (exO nd0 (.slice none 0 0)))
  have RB0 := hide (Blk.new2 w (.cells #[.int .i64 3, .int .i64 dr, .int .i64 dc, .int .i64 t, .int .i64 n] 64) (exO nd (.slice a len cap)) (exC nd0 (.slice none 0 0)) 29)
  have B0 := hide (step (step (step (Below.refl w.heap.size w) (.cells #[.int .i64 3, .int .i64 dr, .int .i64 dc, .int .i64 t, .int .i64 n] 64)) (exO nd (.slice a len cap))) (exO nd0 (.slice none 0 0)))
  obtain ⟨w0, hw0⟩ : ∃ w0, ((w.alloc (.cells #[.int .i64 3, .int .i64 dr, .int .i64 dc, .int .i64 t, .int .i64 n] 64)).alloc (exO nd (.slice a len cap))).alloc (.cells #[.int .i64 0, .int .i64 0, .int .i64 0, .string { data := #[] }, .int .i64 0, .int .i64 0, .bool false, .bool false, .int .i64 0, .int .i64 0, .bool false, .bool false, .int .i64 0, .slice none 0 0] 29) = w0 := ⟨_, rfl⟩
  replace MB0 : Hid (Blk w0 w.heap.size #[.int .i64 3, .int .i64 dr, .int .i64 dc, .int .i64 t, .int .i64 n] 64) := by rw [← hw0]; exact MB0
  replace NB0 : Hid (Blk w0 (w.heap.size + 1) (exC nd (.slice a len cap)) 29) := by rw [← hw0]; exact NB0
  replace RB0 : Hid (Blk w0 (w.heap.size + 1 + 1) (exC nd0 (.slice none 0 0)) 29) := by rw [← hw0]; exact RB0
  replace B0 : Hid (Below w.heap.size w w0) := by rw [← hw0]; exact B0
  have m0 : w0.cell? ⟨w.heap.size, 0, none⟩ = some (.int .i64 3) := MB0.out.at' 0
  have m1 : w0.cell? ⟨w.heap.size, 1, none⟩ = some (.int .i64 dr) := MB0.out.at' 1
  have m2 : w0.cell? ⟨w.heap.size, 2, none⟩ = some (.int .i64 dc) := MB0.out.at' 2
  have m3 : w0.cell? ⟨w.heap.size, 3, none⟩ = some (.int .i64 t) := MB0.out.at' 3
  have m4 : w0.cell? ⟨w.heap.size, 4, none⟩ = some (.int .i64 n) := MB0.out.at' 4
  obtain ⟨z0, z1, z2, z3, z4, z5, z6, z7, z8, z9, z10, z11, z12, z13⟩ := NB0.out.c14
  try dsimp only at z0 z1 z2 z3 z4 z5 z6 z7 z8 z9 z10 z11 z12 z13
  go_enter Try.func46, Try.ntmps46
  go_wp2_with fail
  clear hw0
  refine (HO.out w0).mono ?_
  rintro e w1 ⟨rfl, hb⟩
  have B1 := hide (next B0.out hb)
  have MB1 := hide (MB0.out.keep hb)
  have NB1 := hide (NB0.out.keep hb)
  have RB1 := hide (RB0.out.keep hb)
  clear hb
  clear m0 m1 m2 m3 m4 z0 z1 z2 z3 z4 z5 z6 z7 z8 z9 z10 z11 z12 z13
  have m0 : w1.cell? ⟨w.heap.size, 0, none⟩ = some (.int .i64 3) := MB1.out.at' 0
  have m1 : w1.cell? ⟨w.heap.size, 1, none⟩ = some (.int .i64 dr) := MB1.out.at' 1
  have m2 : w1.cell? ⟨w.heap.size, 2, none⟩ = some (.int .i64 dc) := MB1.out.at' 2
  have m3 : w1.cell? ⟨w.heap.size, 3, none⟩ = some (.int .i64 t) := MB1.out.at' 3
  have m4 : w1.cell? ⟨w.heap.size, 4, none⟩ = some (.int .i64 n) := MB1.out.at' 4
  obtain ⟨z0, z1, z2, z3, z4, z5, z6, z7, z8, z9, z10, z11, z12, z13⟩ := NB1.out.c14
  try dsimp only at z0 z1 z2 z3 z4 z5 z6 z7 z8 z9 z10 z11 z12 z13
  go_wp2_with fail
  refine (rlost_any w1).mono ?_
  rintro e w2 ⟨rfl, hb⟩
  have B2 := hide (next B1.out hb)
  have MB2 := hide (MB1.out.keep hb)
  have NB2 := hide (NB1.out.keep hb)
  have RB2 := hide (RB1.out.keep hb)
  clear hb
  go_wp2_with (have hst := RB2.out; refine wpList_store_row rfl 29 _ _ rfl _ (exC lostN (.slice none 0 0)) rfl rfl 29 _ hst (exC_info _ _) (by rfl) (exC_one _ _ _ _) ?_)
  have F3 := RB2.out.setRow (cs := exC lostN (.slice none 0 0))
  refine bodyPost_ret (v := exV lostN (.slice none 0 0)) (results_cell_row Try.results46 _ _ (w.heap.size + 1 + 1) 29 (exC lostN (.slice none 0 0)) (0, 0) _ rfl F3 Try.underlying29 rfl (exC_info _ _)) rfl ?_
  exact ⟨rfl, below_setRow B2.out (by omega) _⟩
set_option maxHeartbeats 2000000 in
set_option maxRecDepth 100000 in
theorem single_3t (dr dc t n : Int) (nd : Nd) (a : Option Addr) (len cap : Nat) (w : World) (hr : mayB nd.ref.row nd.ref.col = true) (t0 : 0 ≤ t) (t1 : t < 702) (ho : outR t n nd.ref.col 702 = false) (hg : mayB { nd with ref := ⟨nd.ref.row, (lineR t n nd.ref.col 702), nd.ref.pr, nd.ref.pc⟩ }.ref.row { nd with ref := ⟨nd.ref.row, (lineR t n nd.ref.col 702), nd.ref.pr, nd.ref.pc⟩ }.ref.col = true) : Calls Try.prog 46 #[mvV 3 dr dc t n, exV nd (.slice a len cap)] w fun e w' => e = .returned (exV { nd with ref := ⟨nd.ref.row, (lineR t n nd.ref.col 702), nd.ref.pr, nd.ref.pc⟩ } (.slice a len cap)) ∧ Below w.heap.size w w' := by
  have hr := mayB_iff.1 hr
  have HO := hide (rout_any 3 dr dc t n nd.ref.col 702 t0 (by omega) (by omega) (by omega))
  rw [ho] at HO
  clear ho
  have HL := hide (rline_any 3 dr dc t n nd.ref.col 702 t0 (by omega) (by omega) (by omega) (by omega) (by omega) (by omega))
  have HG := hide (ron_any { nd with ref := ⟨nd.ref.row, (lineR t n nd.ref.col 702), nd.ref.pr, nd.ref.pc⟩ }.ref)
  rw [hg] at HG
  dsimp only at HG
  clear hg hr
  generalize lineR t n nd.ref.col 702 = L at *
  have MB0 := hide (((Blk.new w #[.int .i64 3, .int .i64 dr, .int .i64 dc, .int .i64 t, .int .i64 n] 64).alloc (exO nd (.slice a len cap))).alloc (exO nd0 (.slice none 0 0)))
  have NB0 := hide ((Blk.new1 w (.cells #[.int .i64 3, .int .i64 dr, .int .i64 dc, .int .i64 t, .int .i64 n] 64) (exC nd (.slice a len cap)) 29).alloc (exO nd0 (.slice none 0 0)))
  have RB0 := hide (Blk.new2 w (.cells #[.int .i64 3, .int .i64 dr, .int .i64 dc, .int .i64 t, .int .i64 n] 64) (exO nd (.slice a len cap)) (exC nd0 (.slice none 0 0)) 29)
  have B0 := hide (step (step (step (Below.refl w.heap.size w) (.cells #[.int .i64 3, .int .i64 dr, .int .i64 dc, .int .i64 t, .int .i64 n] 64)) (exO nd (.slice a len cap))) (exO nd0 (.slice none 0 0)))
  obtain ⟨w0, hw0⟩ : ∃ w0, ((w.alloc (.cells #[.int .i64 3, .int .i64 dr, .int .i64 dc, .int .i64 t, .int .i64 n] 64)).alloc (exO nd (.slice a len cap))).alloc (.cells #[.int .i64 0, .int .i64 0, .int .i64 0, .string { data := #[] }, .int .i64 0, .int .i64 0, .bool false, .bool false, .int .i64 0, .int .i64 0, .bool false, .bool false, .int .i64 0, .slice none 0 0] 29) = w0 := ⟨_, rfl⟩
  replace MB0 : Hid (Blk w0 w.heap.size #[.int .i64 3, .int .i64 dr, .int .i64 dc, .int .i64 t, .int .i64 n] 64) := by rw [← hw0]; exact MB0
  replace NB0 : Hid (Blk w0 (w.heap.size + 1) (exC nd (.slice a len cap)) 29) := by rw [← hw0]; exact NB0
  replace RB0 : Hid (Blk w0 (w.heap.size + 1 + 1) (exC nd0 (.slice none 0 0)) 29) := by rw [← hw0]; exact RB0
  replace B0 : Hid (Below w.heap.size w w0) := by rw [← hw0]; exact B0
  have m0 : w0.cell? ⟨w.heap.size, 0, none⟩ = some (.int .i64 3) := MB0.out.at' 0
  have m1 : w0.cell? ⟨w.heap.size, 1, none⟩ = some (.int .i64 dr) := MB0.out.at' 1
  have m2 : w0.cell? ⟨w.heap.size, 2, none⟩ = some (.int .i64 dc) := MB0.out.at' 2
  have m3 : w0.cell? ⟨w.heap.size, 3, none⟩ = some (.int .i64 t) := MB0.out.at' 3
  have m4 : w0.cell? ⟨w.heap.size, 4, none⟩ = some (.int .i64 n) := MB0.out.at' 4
  obtain ⟨z0, z1, z2, z3, z4, z5, z6, z7, z8, z9, z10, z11, z12, z13⟩ := NB0.out.c14
  try dsimp only at z0 z1 z2 z3 z4 z5 z6 z7 z8 z9 z10 z11 z12 z13
  go_enter Try.func46, Try.ntmps46
  go_wp2_with fail
  clear hw0
  refine (HO.out w0).mono ?_
  rintro e w1 ⟨rfl, hb⟩
  have B1 := hide (next B0.out hb)
  have MB1 := hide (MB0.out.keep hb)
  have NB1 := hide (NB0.out.keep hb)
  have RB1 := hide (RB0.out.keep hb)
  clear hb
  clear m0 m1 m2 m3 m4 z0 z1 z2 z3 z4 z5 z6 z7 z8 z9 z10 z11 z12 z13
  have m0 : w1.cell? ⟨w.heap.size, 0, none⟩ = some (.int .i64 3) := MB1.out.at' 0
  have m1 : w1.cell? ⟨w.heap.size, 1, none⟩ = some (.int .i64 dr) := MB1.out.at' 1
  have m2 : w1.cell? ⟨w.heap.size, 2, none⟩ = some (.int .i64 dc) := MB1.out.at' 2
  have m3 : w1.cell? ⟨w.heap.size, 3, none⟩ = some (.int .i64 t) := MB1.out.at' 3
  have m4 : w1.cell? ⟨w.heap.size, 4, none⟩ = some (.int .i64 n) := MB1.out.at' 4
  obtain ⟨z0, z1, z2, z3, z4, z5, z6, z7, z8, z9, z10, z11, z12, z13⟩ := NB1.out.c14
  try dsimp only at z0 z1 z2 z3 z4 z5 z6 z7 z8 z9 z10 z11 z12 z13
  go_wp2_with fail
  refine (HL.out w1).mono ?_
  rintro e w2 ⟨rfl, hb⟩
  have B2 := hide (next B1.out hb)
  have MB2 := hide (MB1.out.keep hb)
  have NB2 := hide (NB1.out.keep hb)
  have RB2 := hide (RB1.out.keep hb)
  clear hb
  clear m0 m1 m2 m3 m4 z0 z1 z2 z3 z4 z5 z6 z7 z8 z9 z10 z11 z12 z13
  have m0 : w2.cell? ⟨w.heap.size, 0, none⟩ = some (.int .i64 3) := MB2.out.at' 0
  have m1 : w2.cell? ⟨w.heap.size, 1, none⟩ = some (.int .i64 dr) := MB2.out.at' 1
  have m2 : w2.cell? ⟨w.heap.size, 2, none⟩ = some (.int .i64 dc) := MB2.out.at' 2
  have m3 : w2.cell? ⟨w.heap.size, 3, none⟩ = some (.int .i64 t) := MB2.out.at' 3
  have m4 : w2.cell? ⟨w.heap.size, 4, none⟩ = some (.int .i64 n) := MB2.out.at' 4
  obtain ⟨z0, z1, z2, z3, z4, z5, z6, z7, z8, z9, z10, z11, z12, z13⟩ := NB2.out.c14
  try dsimp only at z0 z1 z2 z3 z4 z5 z6 z7 z8 z9 z10 z11 z12 z13
  have f4 := NB2.out.fr 5
  go_wp2_with fail
  have B3 : Hid (Below w.heap.size w (w2.setCell ⟨w.heap.size + 1, 5, none⟩ (.int .i64 L))) := hide (B2.out.setCell (p := ⟨w.heap.size + 1, 5, none⟩) (by simp) _)
  have MB3 : Hid (Blk (w2.setCell ⟨w.heap.size + 1, 5, none⟩ (.int .i64 L)) w.heap.size #[.int .i64 3, .int .i64 dr, .int .i64 dc, .int .i64 t, .int .i64 n] 64) := hide (blk_other MB2.out (by omega))
  have NB3 : Hid (Blk (w2.setCell ⟨w.heap.size + 1, 5, none⟩ (.int .i64 L)) (w.heap.size + 1) (exC { nd with ref := ⟨nd.ref.row, L, nd.ref.pr, nd.ref.pc⟩ } (.slice a len cap)) 29) := hide (NB2.out.set 5 (.int .i64 L))
  have RB3 : Hid (Blk (w2.setCell ⟨w.heap.size + 1, 5, none⟩ (.int .i64 L)) (w.heap.size + 1 + 1) (exC nd0 (.slice none 0 0)) 29) := hide (blk_other RB2.out (by omega))
  obtain ⟨w3, hw3⟩ : ∃ w3, w2.setCell ⟨w.heap.size + 1, 5, none⟩ (.int .i64 L) = w3 := ⟨_, rfl⟩
  rw [hw3] at B3 MB3 NB3 RB3 ⊢
  clear hw3
  clear f4
  clear m0 m1 m2 m3 m4 z0 z1 z2 z3 z4 z5 z6 z7 z8 z9 z10 z11 z12 z13
  refine (HG.out w3).mono ?_
  rintro e w4 ⟨rfl, hb⟩
  have B4 := hide (next B3.out hb)
  have MB4 := hide (MB3.out.keep hb)
  have NB4 := hide (NB3.out.keep hb)
  have RB4 := hide (RB3.out.keep hb)
  clear hb
  go_wp2_with (first
    | (refine wpList_load_blk rfl 29 _ rfl _ rfl _ (by with_reducible exact NB4.out) _ Try.underlying29 rfl (exC_info _ _) ?_)
    | (have hst := RB4.out; refine wpList_store_row rfl 29 _ _ rfl _ (exC { nd with ref := ⟨nd.ref.row, L, nd.ref.pr, nd.ref.pc⟩ } (.slice a len cap)) rfl rfl 29 _ hst (exC_info _ _) (by rfl) (exC_one _ _ _ _) ?_))
  have F3 := RB4.out.setRow (cs := exC { nd with ref := ⟨nd.ref.row, L, nd.ref.pr, nd.ref.pc⟩ } (.slice a len cap))
  refine bodyPost_ret (v := exV { nd with ref := ⟨nd.ref.row, L, nd.ref.pr, nd.ref.pc⟩ } (.slice a len cap)) (results_cell_row Try.results46 _ _ (w.heap.size + 1 + 1) 29 (exC { nd with ref := ⟨nd.ref.row, L, nd.ref.pr, nd.ref.pc⟩ } (.slice a len cap)) (0, 0) _ rfl F3 Try.underlying29 rfl (exC_info _ _)) rfl ?_
  exact ⟨rfl, below_setRow B4.out (by omega) _⟩
set_option maxHeartbeats 2000000 in
set_option maxRecDepth 100000 in
theorem single_3f (dr dc t n : Int) (nd : Nd) (a : Option Addr) (len cap : Nat) (w : World) (hr : mayB nd.ref.row nd.ref.col = true) (t0 : 0 ≤ t) (t1 : t < 702) (ho : outR t n nd.ref.col 702 = false) (hg : mayB { nd with ref := ⟨nd.ref.row, (lineR t n nd.ref.col 702), nd.ref.pr, nd.ref.pc⟩ }.ref.row { nd with ref := ⟨nd.ref.row, (lineR t n nd.ref.col 702), nd.ref.pr, nd.ref.pc⟩ }.ref.col = false) : Calls Try.prog 46 #[mvV 3 dr dc t n, exV nd (.slice a len cap)] w fun e w' => e = .returned (exV lostN (.slice none 0 0)) ∧ Below w.heap.size w w' := by
  have hr := mayB_iff.1 hr
  have HO := hide (rout_any 3 dr dc t n nd.ref.col 702 t0 (by omega) (by omega) (by omega))
  rw [ho] at HO
  clear ho
  have HL := hide (rline_any 3 dr dc t n nd.ref.col 702 t0 (by omega) (by omega) (by omega) (by omega) (by omega) (by omega))
  have HG := hide (ron_any { nd with ref := ⟨nd.ref.row, (lineR t n nd.ref.col 702), nd.ref.pr, nd.ref.pc⟩ }.ref)
  rw [hg] at HG
  dsimp only at HG
  clear hg hr
  generalize lineR t n nd.ref.col 702 = L at *
  have MB0 := hide (((Blk.new w #[.int .i64 3, .int .i64 dr, .int .i64 dc, .int .i64 t, .int .i64 n] 64).alloc (exO nd (.slice a len cap))).alloc (exO nd0 (.slice none 0 0)))
  have NB0 := hide ((Blk.new1 w (.cells #[.int .i64 3, .int .i64 dr, .int .i64 dc, .int .i64 t, .int .i64 n] 64) (exC nd (.slice a len cap)) 29).alloc (exO nd0 (.slice none 0 0)))
  have RB0 := hide (Blk.new2 w (.cells #[.int .i64 3, .int .i64 dr, .int .i64 dc, .int .i64 t, .int .i64 n] 64) (exO nd (.slice a len cap)) (exC nd0 (.slice none 0 0)) 29)
  have B0 := hide (step (step (step (Below.refl w.heap.size w) (.cells #[.int .i64 3, .int .i64 dr, .int .i64 dc, .int .i64 t, .int .i64 n] 64)) (exO nd (.slice a len cap))) (exO nd0 (.slice none 0 0)))
  obtain ⟨w0, hw0⟩ : ∃ w0, ((w.alloc (.cells #[.int .i64 3, .int .i64 dr, .int .i64 dc, .int .i64 t, .int .i64 n] 64)).alloc (exO nd (.slice a len cap))).alloc (.cells #[.int .i64 0, .int .i64 0, .int .i64 0, .string { data := #[] }, .int .i64 0, .int .i64 0, .bool false, .bool false, .int .i64 0, .int .i64 0, .bool false, .bool false, .int .i64 0, .slice none 0 0] 29) = w0 := ⟨_, rfl⟩
  replace MB0 : Hid (Blk w0 w.heap.size #[.int .i64 3, .int .i64 dr, .int .i64 dc, .int .i64 t, .int .i64 n] 64) := by rw [← hw0]; exact MB0
  replace NB0 : Hid (Blk w0 (w.heap.size + 1) (exC nd (.slice a len cap)) 29) := by rw [← hw0]; exact NB0
  replace RB0 : Hid (Blk w0 (w.heap.size + 1 + 1) (exC nd0 (.slice none 0 0)) 29) := by rw [← hw0]; exact RB0
  replace B0 : Hid (Below w.heap.size w w0) := by rw [← hw0]; exact B0
  have m0 : w0.cell? ⟨w.heap.size, 0, none⟩ = some (.int .i64 3) := MB0.out.at' 0
  have m1 : w0.cell? ⟨w.heap.size, 1, none⟩ = some (.int .i64 dr) := MB0.out.at' 1
  have m2 : w0.cell? ⟨w.heap.size, 2, none⟩ = some (.int .i64 dc) := MB0.out.at' 2
  have m3 : w0.cell? ⟨w.heap.size, 3, none⟩ = some (.int .i64 t) := MB0.out.at' 3
  have m4 : w0.cell? ⟨w.heap.size, 4, none⟩ = some (.int .i64 n) := MB0.out.at' 4
  obtain ⟨z0, z1, z2, z3, z4, z5, z6, z7, z8, z9, z10, z11, z12, z13⟩ := NB0.out.c14
  try dsimp only at z0 z1 z2 z3 z4 z5 z6 z7 z8 z9 z10 z11 z12 z13
  go_enter Try.func46, Try.ntmps46
  go_wp2_with fail
  clear hw0
  refine (HO.out w0).mono ?_
  rintro e w1 ⟨rfl, hb⟩
  have B1 := hide (next B0.out hb)
  have MB1 := hide (MB0.out.keep hb)
  have NB1 := hide (NB0.out.keep hb)
  have RB1 := hide (RB0.out.keep hb)
  clear hb
  clear m0 m1 m2 m3 m4 z0 z1 z2 z3 z4 z5 z6 z7 z8 z9 z10 z11 z12 z13
  have m0 : w1.cell? ⟨w.heap.size, 0, none⟩ = some (.int .i64 3) := MB1.out.at' 0
  have m1 : w1.cell? ⟨w.heap.size, 1, none⟩ = some (.int .i64 dr) := MB1.out.at' 1
  have m2 : w1.cell? ⟨w.heap.size, 2, none⟩ = some (.int .i64 dc) := MB1.out.at' 2
  have m3 : w1.cell? ⟨w.heap.size, 3, none⟩ = some (.int .i64 t) := MB1.out.at' 3
  have m4 : w1.cell? ⟨w.heap.size, 4, none⟩ = some (.int .i64 n) := MB1.out.at' 4
  obtain ⟨z0, z1, z2, z3, z4, z5, z6, z7, z8, z9, z10, z11, z12, z13⟩ := NB1.out.c14
  try dsimp only at z0 z1 z2 z3 z4 z5 z6 z7 z8 z9 z10 z11 z12 z13
  go_wp2_with fail
  refine (HL.out w1).mono ?_
  rintro e w2 ⟨rfl, hb⟩
  have B2 := hide (next B1.out hb)
  have MB2 := hide (MB1.out.keep hb)
  have NB2 := hide (NB1.out.keep hb)
  have RB2 := hide (RB1.out.keep hb)
  clear hb
  clear m0 m1 m2 m3 m4 z0 z1 z2 z3 z4 z5 z6 z7 z8 z9 z10 z11 z12 z13
  have m0 : w2.cell? ⟨w.heap.size, 0, none⟩ = some (.int .i64 3) := MB2.out.at' 0
  have m1 : w2.cell? ⟨w.heap.size, 1, none⟩ = some (.int .i64 dr) := MB2.out.at' 1
  have m2 : w2.cell? ⟨w.heap.size, 2, none⟩ = some (.int .i64 dc) := MB2.out.at' 2
  have m3 : w2.cell? ⟨w.heap.size, 3, none⟩ = some (.int .i64 t) := MB2.out.at' 3
  have m4 : w2.cell? ⟨w.heap.size, 4, none⟩ = some (.int .i64 n) := MB2.out.at' 4
  obtain ⟨z0, z1, z2, z3, z4, z5, z6, z7, z8, z9, z10, z11, z12, z13⟩ := NB2.out.c14
  try dsimp only at z0 z1 z2 z3 z4 z5 z6 z7 z8 z9 z10 z11 z12 z13
  have f4 := NB2.out.fr 5
  go_wp2_with fail
  have B3 : Hid (Below w.heap.size w (w2.setCell ⟨w.heap.size + 1, 5, none⟩ (.int .i64 L))) := hide (B2.out.setCell (p := ⟨w.heap.size + 1, 5, none⟩) (by simp) _)
  have MB3 : Hid (Blk (w2.setCell ⟨w.heap.size + 1, 5, none⟩ (.int .i64 L)) w.heap.size #[.int .i64 3, .int .i64 dr, .int .i64 dc, .int .i64 t, .int .i64 n] 64) := hide (blk_other MB2.out (by omega))
  have NB3 : Hid (Blk (w2.setCell ⟨w.heap.size + 1, 5, none⟩ (.int .i64 L)) (w.heap.size + 1) (exC { nd with ref := ⟨nd.ref.row, L, nd.ref.pr, nd.ref.pc⟩ } (.slice a len cap)) 29) := hide (NB2.out.set 5 (.int .i64 L))
  have RB3 : Hid (Blk (w2.setCell ⟨w.heap.size + 1, 5, none⟩ (.int .i64 L)) (w.heap.size + 1 + 1) (exC nd0 (.slice none 0 0)) 29) := hide (blk_other RB2.out (by omega))
  obtain ⟨w3, hw3⟩ : ∃ w3, w2.setCell ⟨w.heap.size + 1, 5, none⟩ (.int .i64 L) = w3 := ⟨_, rfl⟩
  rw [hw3] at B3 MB3 NB3 RB3 ⊢
  clear hw3
  clear f4
  clear m0 m1 m2 m3 m4 z0 z1 z2 z3 z4 z5 z6 z7 z8 z9 z10 z11 z12 z13
  refine (HG.out w3).mono ?_
  rintro e w4 ⟨rfl, hb⟩
  have B4 := hide (next B3.out hb)
  have MB4 := hide (MB3.out.keep hb)
  have NB4 := hide (NB3.out.keep hb)
  have RB4 := hide (RB3.out.keep hb)
  clear hb
  go_wp2_with fail
  refine (rlost_any w4).mono ?_
  rintro e w5 ⟨rfl, hb⟩
  have B5 := hide (next B4.out hb)
  have MB5 := hide (MB4.out.keep hb)
  have NB5 := hide (NB4.out.keep hb)
  have RB5 := hide (RB4.out.keep hb)
  clear hb
  go_wp2_with (have hst := RB5.out; refine wpList_store_row rfl 29 _ _ rfl _ (exC lostN (.slice none 0 0)) rfl rfl 29 _ hst (exC_info _ _) (by rfl) (exC_one _ _ _ _) ?_)
  have F3 := RB5.out.setRow (cs := exC lostN (.slice none 0 0))
  refine bodyPost_ret (v := exV lostN (.slice none 0 0)) (results_cell_row Try.results46 _ _ (w.heap.size + 1 + 1) 29 (exC lostN (.slice none 0 0)) (0, 0) _ rfl F3 Try.underlying29 rfl (exC_info _ _)) rfl ?_
  exact ⟨rfl, below_setRow B5.out (by omega) _⟩
end Go.Proofs.Ytnikmbkkhfmbeaa
