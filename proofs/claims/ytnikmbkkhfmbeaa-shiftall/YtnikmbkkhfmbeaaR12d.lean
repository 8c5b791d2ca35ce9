/- quadrilleref12.Move.double: an XRange, or what takes its place. -/
import Derived.Test.YtnikmbkkhfmbeaaR12b
namespace Go.Proofs.Ytnikmbkkhfmbeaa
open Go.RowKit Go.Sort
set_option linter.unusedVariables false

theorem rends_no (k dr dc t n a b most : Int) (h1 : 0 ≤ t) (h2 : t < most) (a1 : 0 ≤ a) (a2 : a < most) (b1 : 0 ≤ b) (b2 : b < most) (h3 : 1 ≤ most) (h4 : most ≤ 65536) (q : (outR t n a most && outR t n b most) = false) (w : World) :
    Calls Try.prog 62 #[mvV k dr dc t n, .int .i64 a, .int .i64 b, .int .i64 most] w fun e w' => e = .returned (.tuple #[.int .i64 (endA t n a b most), .int .i64 (endA t n b a most), .bool true]) ∧ Below w.heap.size w w' := by
  cases qa : outR t n a most
  · cases qb : outR t n b most
    · exact rends_ff k dr dc t n a b most h1 h2 a1 a2 b1 b2 h3 h4 w qa qb
    · exact rends_ft k dr dc t n a b most h1 h2 a1 a2 b1 b2 h3 h4 w qa qb
  · cases qb : outR t n b most
    · exact rends_tf k dr dc t n a b most h1 h2 a1 a2 b1 b2 h3 h4 w qa qb
    · rw [qa, qb] at q; cases q
theorem rends_yes (k dr dc t n a b most : Int) (h1 : 0 ≤ t) (h2 : t < most) (a1 : 0 ≤ a) (a2 : a < most) (b1 : 0 ≤ b) (b2 : b < most) (h3 : 1 ≤ most) (h4 : most ≤ 65536) (q : (outR t n a most && outR t n b most) = true) (w : World) :
    Calls Try.prog 62 #[mvV k dr dc t n, .int .i64 a, .int .i64 b, .int .i64 most] w fun e w' => e = .returned (.tuple #[.int .i64 0, .int .i64 0, .bool false]) ∧ Below w.heap.size w w' := by
  rw [Bool.and_eq_true] at q
  exact rends_tt k dr dc t n a b most h1 h2 a1 a2 b1 b2 h3 h4 w q.1 q.2
set_option maxHeartbeats 2000000 in
set_option maxRecDepth 100000 in
theorem double_1tt (dr dc t n : Int) (nd : Nd) (a : Option Addr) (len cap : Nat) (w : World) (hr : mayB nd.ref.row nd.ref.col = true) (hs : mayB nd.to.row nd.to.col = true) (ho : mayB (rfM dr dc nd.ref).row (rfM dr dc nd.ref).col = true) (ho2 : mayB (rfM dr dc nd.to).row (rfM dr dc nd.to).col = true) : Calls Try.prog 47 #[mvV 1 dr dc t n, exV nd (.slice a len cap)] w fun e w' => e = .returned (exV { nd with ref := rfM dr dc nd.ref, to := rfM dr dc nd.to } (.slice a len cap)) ∧ Below w.heap.size w w' := by
  have HO := hide (ron_any (rfM dr dc nd.ref))
  rw [ho] at HO
  clear ho
  have HO2 := hide (ron_any (rfM dr dc nd.to))
  rw [ho2] at HO2
  clear ho2
  have HR := hide (rref_any 1 dr dc t n nd.ref hr)
  have HR2 := hide (rref_any 1 dr dc t n nd.to hs)
  generalize rfM dr dc nd.ref = r1 at *
  generalize rfM dr dc nd.to = r2 at *
  have MB0 := hide (((Blk.new w #[.int .i64 1, .int .i64 dr, .int .i64 dc, .int .i64 t, .int .i64 n] 64).alloc (exO nd (.slice a len cap))).alloc (exO nd0 (.slice none 0 0)))
  have NB0 := hide ((Blk.new1 w (.cells #[.int .i64 1, .int .i64 dr, .int .i64 dc, .int .i64 t, .int .i64 n] 64) (exC nd (.slice a len cap)) 29).alloc (exO nd0 (.slice none 0 0)))
  have RB0 := hide (Blk.new2 w (.cells #[.int .i64 1, .int .i64 dr, .int .i64 dc, .int .i64 t, .int .i64 n] 64) (exO nd (.slice a len cap)) (exC nd0 (.slice none 0 0)) 29)
  have B0 := hide (step (step (step (Below.refl w.heap.size w) (.cells #[.int .i64 1, .int .i64 dr, .int .i64 dc, .int .i64 t, .int .i64 n] 64)) (exO nd (.slice a len cap))) (exO nd0 (.slice none 0 0)))
  obtain ⟨w0, hw0⟩ : ∃ w0, ((w.alloc (.cells #[.int .i64 1, .int .i64 dr, .int .i64 dc, .int .i64 t, .int .i64 n] 64)).alloc (exO nd (.slice a len cap))).alloc (.cells #[.int .i64 0, .int .i64 0, .int .i64 0, .string { data := #[] }, .int .i64 0, .int .i64 0, .bool false, .bool false, .int .i64 0, .int .i64 0, .bool false, .bool false, .int .i64 0, .slice none 0 0] 29) = w0 := ⟨_, rfl⟩
  replace MB0 : Hid (Blk w0 w.heap.size #[.int .i64 1, .int .i64 dr, .int .i64 dc, .int .i64 t, .int .i64 n] 64) := by rw [← hw0]; exact MB0
  replace NB0 : Hid (Blk w0 (w.heap.size + 1) (exC nd (.slice a len cap)) 29) := by rw [← hw0]; exact NB0
  replace RB0 : Hid (Blk w0 (w.heap.size + 1 + 1) (exC nd0 (.slice none 0 0)) 29) := by rw [← hw0]; exact RB0
  replace B0 : Hid (Below w.heap.size w w0) := by rw [← hw0]; exact B0
  have m0 : w0.cell? ⟨w.heap.size, 0, none⟩ = some (.int .i64 1) := MB0.out.at' 0
  have m1 : w0.cell? ⟨w.heap.size, 1, none⟩ = some (.int .i64 dr) := MB0.out.at' 1
  have m2 : w0.cell? ⟨w.heap.size, 2, none⟩ = some (.int .i64 dc) := MB0.out.at' 2
  have m3 : w0.cell? ⟨w.heap.size, 3, none⟩ = some (.int .i64 t) := MB0.out.at' 3
  have m4 : w0.cell? ⟨w.heap.size, 4, none⟩ = some (.int .i64 n) := MB0.out.at' 4
  obtain ⟨z0, z1, z2, z3, z4, z5, z6, z7, z8, z9, z10, z11, z12, z13⟩ := NB0.out.c14
  try dsimp only at z0 z1 z2 z3 z4 z5 z6 z7 z8 z9 z10 z11 z12 z13
  go_enter Try.func47, Try.ntmps47
  go_wp2_with fail
  clear hw0
  refine (HR.out w0).mono ?_
  rintro e w1 ⟨rfl, hb⟩
  have B1 := hide (next B0.out hb)
  have MB1 := hide (MB0.out.keep hb)
  have NB1 := hide (NB0.out.keep hb)
  have RB1 := hide (RB0.out.keep hb)
  clear hb
  clear m0 m1 m2 m3 m4 z0 z1 z2 z3 z4 z5 z6 z7 z8 z9 z10 z11 z12 z13
  have m0 : w1.cell? ⟨w.heap.size, 0, none⟩ = some (.int .i64 1) := MB1.out.at' 0
  have m1 : w1.cell? ⟨w.heap.size, 1, none⟩ = some (.int .i64 dr) := MB1.out.at' 1
  have m2 : w1.cell? ⟨w.heap.size, 2, none⟩ = some (.int .i64 dc) := MB1.out.at' 2
  have m3 : w1.cell? ⟨w.heap.size, 3, none⟩ = some (.int .i64 t) := MB1.out.at' 3
  have m4 : w1.cell? ⟨w.heap.size, 4, none⟩ = some (.int .i64 n) := MB1.out.at' 4
  obtain ⟨z0, z1, z2, z3, z4, z5, z6, z7, z8, z9, z10, z11, z12, z13⟩ := NB1.out.c14
  try dsimp only at z0 z1 z2 z3 z4 z5 z6 z7 z8 z9 z10 z11 z12 z13
  have th := NB1.out.thr (j := 4) (by omega)
  go_wp2_with (refine wpList_putR (b := w.heap.size + 1) (j := 4) (r := r1) rfl _ _ rfl rfl rfl (by with_reducible exact th) ?_; obtain ⟨w2, hw2⟩ : ∃ w2, w2 = putR w1 (w.heap.size + 1) 4 r1 := ⟨_, rfl⟩; have B2 : Hid (Below w.heap.size w w2) := hide (by rw [hw2]; exact below_putR B1.out (by omega) 4 r1); have MB2 : Hid (Blk w2 w.heap.size #[.int .i64 1, .int .i64 dr, .int .i64 dc, .int .i64 t, .int .i64 n] 64) := hide (by rw [hw2]; exact MB1.out.putO (by omega)); have NB2 : Hid (Blk w2 (w.heap.size + 1) (exC { nd with ref := r1 } (.slice a len cap)) 29) := hide (by rw [hw2]; exact NB1.out.putR4 r1); have RB2 : Hid (Blk w2 (w.heap.size + 1 + 1) (exC nd0 (.slice none 0 0)) 29) := hide (by rw [hw2]; exact RB1.out.putO (by omega)); rw [← hw2]; clear hw2 th m0 m1 m2 m3 m4 z0 z1 z2 z3 z4 z5 z6 z7 z8 z9 z10 z11 z12 z13; have m0 : w2.cell? ⟨w.heap.size, 0, none⟩ = some (.int .i64 1) := MB2.out.at' 0; have m1 : w2.cell? ⟨w.heap.size, 1, none⟩ = some (.int .i64 dr) := MB2.out.at' 1; have m2 : w2.cell? ⟨w.heap.size, 2, none⟩ = some (.int .i64 dc) := MB2.out.at' 2; have m3 : w2.cell? ⟨w.heap.size, 3, none⟩ = some (.int .i64 t) := MB2.out.at' 3; have m4 : w2.cell? ⟨w.heap.size, 4, none⟩ = some (.int .i64 n) := MB2.out.at' 4; obtain ⟨z0, z1, z2, z3, z4, z5, z6, z7, z8, z9, z10, z11, z12, z13⟩ := NB2.out.c14; dsimp only at z0 z1 z2 z3 z4 z5 z6 z7 z8 z9 z10 z11 z12 z13)
  refine (HR2.out w2).mono ?_
  rintro e w3 ⟨rfl, hb⟩
  have B3 := hide (next B2.out hb)
  have MB3 := hide (MB2.out.keep hb)
  have NB3 := hide (NB2.out.keep hb)
  have RB3 := hide (RB2.out.keep hb)
  clear hb
  clear m0 m1 m2 m3 m4 z0 z1 z2 z3 z4 z5 z6 z7 z8 z9 z10 z11 z12 z13
  have m0 : w3.cell? ⟨w.heap.size, 0, none⟩ = some (.int .i64 1) := MB3.out.at' 0
  have m1 : w3.cell? ⟨w.heap.size, 1, none⟩ = some (.int .i64 dr) := MB3.out.at' 1
  have m2 : w3.cell? ⟨w.heap.size, 2, none⟩ = some (.int .i64 dc) := MB3.out.at' 2
  have m3 : w3.cell? ⟨w.heap.size, 3, none⟩ = some (.int .i64 t) := MB3.out.at' 3
  have m4 : w3.cell? ⟨w.heap.size, 4, none⟩ = some (.int .i64 n) := MB3.out.at' 4
  obtain ⟨z0, z1, z2, z3, z4, z5, z6, z7, z8, z9, z10, z11, z12, z13⟩ := NB3.out.c14
  try dsimp only at z0 z1 z2 z3 z4 z5 z6 z7 z8 z9 z10 z11 z12 z13
  have th := NB3.out.thr (j := 8) (by omega)
  go_wp2_with (refine wpList_putR (b := w.heap.size + 1) (j := 8) (r := r2) rfl _ _ rfl rfl rfl (by with_reducible exact th) ?_; obtain ⟨w4, hw4⟩ : ∃ w4, w4 = putR w3 (w.heap.size + 1) 8 r2 := ⟨_, rfl⟩; have B4 : Hid (Below w.heap.size w w4) := hide (by rw [hw4]; exact below_putR B3.out (by omega) 8 r2); have MB4 : Hid (Blk w4 w.heap.size #[.int .i64 1, .int .i64 dr, .int .i64 dc, .int .i64 t, .int .i64 n] 64) := hide (by rw [hw4]; exact MB3.out.putO (by omega)); have NB4 : Hid (Blk w4 (w.heap.size + 1) (exC { nd with ref := r1, to := r2 } (.slice a len cap)) 29) := hide (by rw [hw4]; exact NB3.out.putR8 r2); have RB4 : Hid (Blk w4 (w.heap.size + 1 + 1) (exC nd0 (.slice none 0 0)) 29) := hide (by rw [hw4]; exact RB3.out.putO (by omega)); rw [← hw4]; clear hw4 th m0 m1 m2 m3 m4 z0 z1 z2 z3 z4 z5 z6 z7 z8 z9 z10 z11 z12 z13; obtain ⟨-, -, -, -, y4, y5, y6, y7, y8, y9, y10, y11, -, -⟩ := NB4.out.c14; dsimp only at y4 y5 y6 y7 y8 y9 y10 y11)
  refine (HO.out w4).mono ?_
  rintro e w5 ⟨rfl, hb⟩
  have B5 := hide (next B4.out hb)
  have MB5 := hide (MB4.out.keep hb)
  have NB5 := hide (NB4.out.keep hb)
  have RB5 := hide (RB4.out.keep hb)
  clear hb
  clear y4 y5 y6 y7 y8 y9 y10 y11
  obtain ⟨-, -, -, -, y4, y5, y6, y7, y8, y9, y10, y11, -, -⟩ := NB5.out.c14
  dsimp only at y4 y5 y6 y7 y8 y9 y10 y11
  go_wp2_with fail
  refine (HO2.out w5).mono ?_
  rintro e w6 ⟨rfl, hb⟩
  have B6 := hide (next B5.out hb)
  have MB6 := hide (MB5.out.keep hb)
  have NB6 := hide (NB5.out.keep hb)
  have RB6 := hide (RB5.out.keep hb)
  clear hb
  clear y4 y5 y6 y7 y8 y9 y10 y11
  go_wp2_with (first
    | (refine wpList_load_blk rfl 29 _ rfl _ rfl _ (by with_reducible exact NB6.out) _ Try.underlying29 rfl (exC_info _ _) ?_)
    | (have hst := RB6.out; refine wpList_store_row rfl 29 _ _ rfl _ (exC { nd with ref := r1, to := r2 } (.slice a len cap)) rfl rfl 29 _ hst (exC_info _ _) (by rfl) (exC_one _ _ _ _) ?_))
  have F3 := RB6.out.setRow (cs := exC { nd with ref := r1, to := r2 } (.slice a len cap))
  refine bodyPost_ret (v := exV { nd with ref := r1, to := r2 } (.slice a len cap)) (results_cell_row Try.results47 _ _ (w.heap.size + 1 + 1) 29 (exC { nd with ref := r1, to := r2 } (.slice a len cap)) (0, 0) _ rfl F3 Try.underlying29 rfl (exC_info _ _)) rfl ?_
  exact ⟨rfl, below_setRow B6.out (by omega) _⟩
set_option maxHeartbeats 2000000 in
set_option maxRecDepth 100000 in
theorem double_1tf (dr dc t n : Int) (nd : Nd) (a : Option Addr) (len cap : Nat) (w : World) (hr : mayB nd.ref.row nd.ref.col = true) (hs : mayB nd.to.row nd.to.col = true) (ho : mayB (rfM dr dc nd.ref).row (rfM dr dc nd.ref).col = true) (ho2 : mayB (rfM dr dc nd.to).row (rfM dr dc nd.to).col = false) : Calls Try.prog 47 #[mvV 1 dr dc t n, exV nd (.slice a len cap)] w fun e w' => e = .returned (exV lostN (.slice none 0 0)) ∧ Below w.heap.size w w' := by
  have HO := hide (ron_any (rfM dr dc nd.ref))
  rw [ho] at HO
  clear ho
  have HO2 := hide (ron_any (rfM dr dc nd.to))
  rw [ho2] at HO2
  clear ho2
  have HR := hide (rref_any 1 dr dc t n nd.ref hr)
  have HR2 := hide (rref_any 1 dr dc t n nd.to hs)
  generalize rfM dr dc nd.ref = r1 at *
  generalize rfM dr dc nd.to = r2 at *
  have MB0 := hide (((Blk.new w #[.int .i64 1, .int .i64 dr, .int .i64 dc, .int .i64 t, .int .i64 n] 64).alloc (exO nd (.slice a len cap))).alloc (exO nd0 (.slice none 0 0)))
  have NB0 := hide ((Blk.new1 w (.cells #[.int .i64 1, .int .i64 dr, .int .i64 dc, .int .i64 t, .int .i64 n] 64) (exC nd (.slice a len cap)) 29).alloc (exO nd0 (.slice none 0 0)))
  have RB0 := hide (Blk.new2 w (.cells #[.int .i64 1, .int .i64 dr, .int .i64 dc, .int .i64 t, .int .i64 n] 64) (exO nd (.slice a len cap)) (exC nd0 (.slice none 0 0)) 29)
  have B0 := hide (step (step (step (Below.refl w.heap.size w) (.cells #[.int .i64 1, .int .i64 dr, .int .i64 dc, .int .i64 t, .int .i64 n] 64)) (exO nd (.slice a len cap))) (exO nd0 (.slice none 0 0)))
  obtain ⟨w0, hw0⟩ : ∃ w0, ((w.alloc (.cells #[.int .i64 1, .int .i64 dr, .int .i64 dc, .int .i64 t, .int .i64 n] 64)).alloc (exO nd (.slice a len cap))).alloc (.cells #[.int .i64 0, .int .i64 0, .int .i64 0, .string { data := #[] }, .int .i64 0, .int .i64 0, .bool false, .bool false, .int .i64 0, .int .i64 0, .bool false, .bool false, .int .i64 0, .slice none 0 0] 29) = w0 := ⟨_, rfl⟩
  replace MB0 : Hid (Blk w0 w.heap.size #[.int .i64 1, .int .i64 dr, .int .i64 dc, .int .i64 t, .int .i64 n] 64) := by rw [← hw0]; exact MB0
  replace NB0 : Hid (Blk w0 (w.heap.size + 1) (exC nd (.slice a len cap)) 29) := by rw [← hw0]; exact NB0
  replace RB0 : Hid (Blk w0 (w.heap.size + 1 + 1) (exC nd0 (.slice none 0 0)) 29) := by rw [← hw0]; exact RB0
  replace B0 : Hid (Below w.heap.size w w0) := by rw [← hw0]; exact B0
  have m0 : w0.cell? ⟨w.heap.size, 0, none⟩ = some (.int .i64 1) := MB0.out.at' 0
  have m1 : w0.cell? ⟨w.heap.size, 1, none⟩ = some (.int .i64 dr) := MB0.out.at' 1
  have m2 : w0.cell? ⟨w.heap.size, 2, none⟩ = some (.int .i64 dc) := MB0.out.at' 2
  have m3 : w0.cell? ⟨w.heap.size, 3, none⟩ = some (.int .i64 t) := MB0.out.at' 3
  have m4 : w0.cell? ⟨w.heap.size, 4, none⟩ = some (.int .i64 n) := MB0.out.at' 4
  obtain ⟨z0, z1, z2, z3, z4, z5, z6, z7, z8, z9, z10, z11, z12, z13⟩ := NB0.out.c14
  try dsimp only at z0 z1 z2 z3 z4 z5 z6 z7 z8 z9 z10 z11 z12 z13
  go_enter Try.func47, Try.ntmps47
  go_wp2_with fail
  clear hw0
  refine (HR.out w0).mono ?_
  rintro e w1 ⟨rfl, hb⟩
  have B1 := hide (next B0.out hb)
  have MB1 := hide (MB0.out.keep hb)
  have NB1 := hide (NB0.out.keep hb)
  have RB1 := hide (RB0.out.keep hb)
  clear hb
  clear m0 m1 m2 m3 m4 z0 z1 z2 z3 z4 z5 z6 z7 z8 z9 z10 z11 z12 z13
  have m0 : w1.cell? ⟨w.heap.size, 0, none⟩ = some (.int .i64 1) := MB1.out.at' 0
  have m1 : w1.cell? ⟨w.heap.size, 1, none⟩ = some (.int .i64 dr) := MB1.out.at' 1
  have m2 : w1.cell? ⟨w.heap.size, 2, none⟩ = some (.int .i64 dc) := MB1.out.at' 2
  have m3 : w1.cell? ⟨w.heap.size, 3, none⟩ = some (.int .i64 t) := MB1.out.at' 3
  have m4 : w1.cell? ⟨w.heap.size, 4, none⟩ = some (.int .i64 n) := MB1.out.at' 4
  obtain ⟨z0, z1, z2, z3, z4, z5, z6, z7, z8, z9, z10, z11, z12, z13⟩ := NB1.out.c14
  try dsimp only at z0 z1 z2 z3 z4 z5 z6 z7 z8 z9 z10 z11 z12 z13
  have th := NB1.out.thr (j := 4) (by omega)
  go_wp2_with (refine wpList_putR (b := w.heap.size + 1) (j := 4) (r := r1) rfl _ _ rfl rfl rfl (by with_reducible exact th) ?_; obtain ⟨w2, hw2⟩ : ∃ w2, w2 = putR w1 (w.heap.size + 1) 4 r1 := ⟨_, rfl⟩; have B2 : Hid (Below w.heap.size w w2) := hide (by rw [hw2]; exact below_putR B1.out (by omega) 4 r1); have MB2 : Hid (Blk w2 w.heap.size #[.int .i64 1, .int .i64 dr, .int .i64 dc, .int .i64 t, .int .i64 n] 64) := hide (by rw [hw2]; exact MB1.out.putO (by omega)); have NB2 : Hid (Blk w2 (w.heap.size + 1) (exC { nd with ref := r1 } (.slice a len cap)) 29) := hide (by rw [hw2]; exact NB1.out.putR4 r1); have RB2 : Hid (Blk w2 (w.heap.size + 1 + 1) (exC nd0 (.slice none 0 0)) 29) := hide (by rw [hw2]; exact RB1.out.putO (by omega)); rw [← hw2]; clear hw2 th m0 m1 m2 m3 m4 z0 z1 z2 z3 z4 z5 z6 z7 z8 z9 z10 z11 z12 z13; have m0 : w2.cell? ⟨w.heap.size, 0, none⟩ = some (.int .i64 1) := MB2.out.at' 0; have m1 : w2.cell? ⟨w.heap.size, 1, none⟩ = some (.int .i64 dr) := MB2.out.at' 1; have m2 : w2.cell? ⟨w.heap.size, 2, none⟩ = some (.int .i64 dc) := MB2.out.at' 2; have m3 : w2.cell? ⟨w.heap.size, 3, none⟩ = some (.int .i64 t) := MB2.out.at' 3; have m4 : w2.cell? ⟨w.heap.size, 4, none⟩ = some (.int .i64 n) := MB2.out.at' 4; obtain ⟨z0, z1, z2, z3, z4, z5, z6, z7, z8, z9, z10, z11, z12, z13⟩ := NB2.out.c14; dsimp only at z0 z1 z2 z3 z4 z5 z6 z7 z8 z9 z10 z11 z12 z13)
  refine (HR2.out w2).mono ?_
  rintro e w3 ⟨rfl, hb⟩
  have B3 := hide (next B2.out hb)
  have MB3 := hide (MB2.out.keep hb)
  have NB3 := hide (NB2.out.keep hb)
  have RB3 := hide (RB2.out.keep hb)
  clear hb
  clear m0 m1 m2 m3 m4 z0 z1 z2 z3 z4 z5 z6 z7 z8 z9 z10 z11 z12 z13
  have m0 : w3.cell? ⟨w.heap.size, 0, none⟩ = some (.int .i64 1) := MB3.out.at' 0
  have m1 : w3.cell? ⟨w.heap.size, 1, none⟩ = some (.int .i64 dr) := MB3.out.at' 1
  have m2 : w3.cell? ⟨w.heap.size, 2, none⟩ = some (.int .i64 dc) := MB3.out.at' 2
  have m3 : w3.cell? ⟨w.heap.size, 3, none⟩ = some (.int .i64 t) := MB3.out.at' 3
  have m4 : w3.cell? ⟨w.heap.size, 4, none⟩ = some (.int .i64 n) := MB3.out.at' 4
  obtain ⟨z0, z1, z2, z3, z4, z5, z6, z7, z8, z9, z10, z11, z12, z13⟩ := NB3.out.c14
  try dsimp only at z0 z1 z2 z3 z4 z5 z6 z7 z8 z9 z10 z11 z12 z13
  have th := NB3.out.thr (j := 8) (by omega)
  go_wp2_with (refine wpList_putR (b := w.heap.size + 1) (j := 8) (r := r2) rfl _ _ rfl rfl rfl (by with_reducible exact th) ?_; obtain ⟨w4, hw4⟩ : ∃ w4, w4 = putR w3 (w.heap.size + 1) 8 r2 := ⟨_, rfl⟩; have B4 : Hid (Below w.heap.size w w4) := hide (by rw [hw4]; exact below_putR B3.out (by omega) 8 r2); have MB4 : Hid (Blk w4 w.heap.size #[.int .i64 1, .int .i64 dr, .int .i64 dc, .int .i64 t, .int .i64 n] 64) := hide (by rw [hw4]; exact MB3.out.putO (by omega)); have NB4 : Hid (Blk w4 (w.heap.size + 1) (exC { nd with ref := r1, to := r2 } (.slice a len cap)) 29) := hide (by rw [hw4]; exact NB3.out.putR8 r2); have RB4 : Hid (Blk w4 (w.heap.size + 1 + 1) (exC nd0 (.slice none 0 0)) 29) := hide (by rw [hw4]; exact RB3.out.putO (by omega)); rw [← hw4]; clear hw4 th m0 m1 m2 m3 m4 z0 z1 z2 z3 z4 z5 z6 z7 z8 z9 z10 z11 z12 z13; obtain ⟨-, -, -, -, y4, y5, y6, y7, y8, y9, y10, y11, -, -⟩ := NB4.out.c14; dsimp only at y4 y5 y6 y7 y8 y9 y10 y11)
  refine (HO.out w4).mono ?_
  rintro e w5 ⟨rfl, hb⟩
  have B5 := hide (next B4.out hb)
  have MB5 := hide (MB4.out.keep hb)
  have NB5 := hide (NB4.out.keep hb)
  have RB5 := hide (RB4.out.keep hb)
  clear hb
  clear y4 y5 y6 y7 y8 y9 y10 y11
  obtain ⟨-, -, -, -, y4, y5, y6, y7, y8, y9, y10, y11, -, -⟩ := NB5.out.c14
  dsimp only at y4 y5 y6 y7 y8 y9 y10 y11
  go_wp2_with fail
  refine (HO2.out w5).mono ?_
  rintro e w6 ⟨rfl, hb⟩
  have B6 := hide (next B5.out hb)
  have MB6 := hide (MB5.out.keep hb)
  have NB6 := hide (NB5.out.keep hb)
  have RB6 := hide (RB5.out.keep hb)
  clear hb
  clear y4 y5 y6 y7 y8 y9 y10 y11
  go_wp2_with fail
  refine (rlost_any w6).mono ?_
  rintro e w7 ⟨rfl, hb⟩
  have B7 := hide (next B6.out hb)
  have MB7 := hide (MB6.out.keep hb)
  have NB7 := hide (NB6.out.keep hb)
  have RB7 := hide (RB6.out.keep hb)
  clear hb
  go_wp2_with (have hst := RB7.out; refine wpList_store_row rfl 29 _ _ rfl _ (exC lostN (.slice none 0 0)) rfl rfl 29 _ hst (exC_info _ _) (by rfl) (exC_one _ _ _ _) ?_)
  have F3 := RB7.out.setRow (cs := exC lostN (.slice none 0 0))
  refine bodyPost_ret (v := exV lostN (.slice none 0 0)) (results_cell_row Try.results47 _ _ (w.heap.size + 1 + 1) 29 (exC lostN (.slice none 0 0)) (0, 0) _ rfl F3 Try.underlying29 rfl (exC_info _ _)) rfl ?_
  exact ⟨rfl, below_setRow B7.out (by omega) _⟩
set_option maxHeartbeats 2000000 in
set_option maxRecDepth 100000 in
theorem double_1f (dr dc t n : Int) (nd : Nd) (a : Option Addr) (len cap : Nat) (w : World) (hr : mayB nd.ref.row nd.ref.col = true) (hs : mayB nd.to.row nd.to.col = true) (ho : mayB (rfM dr dc nd.ref).row (rfM dr dc nd.ref).col = false) : Calls Try.prog 47 #[mvV 1 dr dc t n, exV nd (.slice a len cap)] w fun e w' => e = .returned (exV lostN (.slice none 0 0)) ∧ Below w.heap.size w w' := by
  have HO := hide (ron_any (rfM dr dc nd.ref))
  rw [ho] at HO
  clear ho
  have HR := hide (rref_any 1 dr dc t n nd.ref hr)
  have HR2 := hide (rref_any 1 dr dc t n nd.to hs)
  generalize rfM dr dc nd.ref = r1 at *
  generalize rfM dr dc nd.to = r2 at *
  have MB0 := hide (((Blk.new w #[.int .i64 1, .int .i64 dr, .int .i64 dc, .int .i64 t, .int .i64 n] 64).alloc (exO nd (.slice a len cap))).alloc (exO nd0 (.slice none 0 0)))
  have NB0 := hide ((Blk.new1 w (.cells #[.int .i64 1, .int .i64 dr, .int .i64 dc, .int .i64 t, .int .i64 n] 64) (exC nd (.slice a len cap)) 29).alloc (exO nd0 (.slice none 0 0)))
  have RB0 := hide (Blk.new2 w (.cells #[.int .i64 1, .int .i64 dr, .int .i64 dc, .int .i64 t, .int .i64 n] 64) (exO nd (.slice a len cap)) (exC nd0 (.slice none 0 0)) 29)
  have B0 := hide (step (step (step (Below.refl w.heap.size w) (.cells #[.int .i64 1, .int .i64 dr, .int .i64 dc, .int .i64 t, .int .i64 n] 64)) (exO nd (.slice a len cap))) (exO nd0 (.slice none 0 0)))
  obtain ⟨w0, hw0⟩ : ∃ w0, ((w.alloc (.cells #[.int .i64 1, .int .i64 dr, .int .i64 dc, .int .i64 t, .int .i64 n] 64)).alloc (exO nd (.slice a len cap))).alloc (.cells #[.int .i64 0, .int .i64 0, .int .i64 0, .string { data := #[] }, .int .i64 0, .int .i64 0, .bool false, .bool false, .int .i64 0, .int .i64 0, .bool false, .bool false, .int .i64 0, .slice none 0 0] 29) = w0 := ⟨_, rfl⟩
  replace MB0 : Hid (Blk w0 w.heap.size #[.int .i64 1, .int .i64 dr, .int .i64 dc, .int .i64 t, .int .i64 n] 64) := by rw [← hw0]; exact MB0
  replace NB0 : Hid (Blk w0 (w.heap.size + 1) (exC nd (.slice a len cap)) 29) := by rw [← hw0]; exact NB0
  replace RB0 : Hid (Blk w0 (w.heap.size + 1 + 1) (exC nd0 (.slice none 0 0)) 29) := by rw [← hw0]; exact RB0
  replace B0 : Hid (Below w.heap.size w w0) := by rw [← hw0]; exact B0
  have m0 : w0.cell? ⟨w.heap.size, 0, none⟩ = some (.int .i64 1) := MB0.out.at' 0
  have m1 : w0.cell? ⟨w.heap.size, 1, none⟩ = some (.int .i64 dr) := MB0.out.at' 1
  have m2 : w0.cell? ⟨w.heap.size, 2, none⟩ = some (.int .i64 dc) := MB0.out.at' 2
  have m3 : w0.cell? ⟨w.heap.size, 3, none⟩ = some (.int .i64 t) := MB0.out.at' 3
  have m4 : w0.cell? ⟨w.heap.size, 4, none⟩ = some (.int .i64 n) := MB0.out.at' 4
  obtain ⟨z0, z1, z2, z3, z4, z5, z6, z7, z8, z9, z10, z11, z12, z13⟩ := NB0.out.c14
  try dsimp only at z0 z1 z2 z3 z4 z5 z6 z7 z8 z9 z10 z11 z12 z13
  go_enter Try.func47, Try.ntmps47
  go_wp2_with fail
  clear hw0
  refine (HR.out w0).mono ?_
  rintro e w1 ⟨rfl, hb⟩
  have B1 := hide (next B0.out hb)
  have MB1 := hide (MB0.out.keep hb)
  have NB1 := hide (NB0.out.keep hb)
  have RB1 := hide (RB0.out.keep hb)
  clear hb
  clear m0 m1 m2 m3 m4 z0 z1 z2 z3 z4 z5 z6 z7 z8 z9 z10 z11 z12 z13
  have m0 : w1.cell? ⟨w.heap.size, 0, none⟩ = some (.int .i64 1) := MB1.out.at' 0
  have m1 : w1.cell? ⟨w.heap.size, 1, none⟩ = some (.int .i64 dr) := MB1.out.at' 1
  have m2 : w1.cell? ⟨w.heap.size, 2, none⟩ = some (.int .i64 dc) := MB1.out.at' 2
  have m3 : w1.cell? ⟨w.heap.size, 3, none⟩ = some (.int .i64 t) := MB1.out.at' 3
  have m4 : w1.cell? ⟨w.heap.size, 4, none⟩ = some (.int .i64 n) := MB1.out.at' 4
  obtain ⟨z0, z1, z2, z3, z4, z5, z6, z7, z8, z9, z10, z11, z12, z13⟩ := NB1.out.c14
  try dsimp only at z0 z1 z2 z3 z4 z5 z6 z7 z8 z9 z10 z11 z12 z13
  have th := NB1.out.thr (j := 4) (by omega)
  go_wp2_with (refine wpList_putR (b := w.heap.size + 1) (j := 4) (r := r1) rfl _ _ rfl rfl rfl (by with_reducible exact th) ?_; obtain ⟨w2, hw2⟩ : ∃ w2, w2 = putR w1 (w.heap.size + 1) 4 r1 := ⟨_, rfl⟩; have B2 : Hid (Below w.heap.size w w2) := hide (by rw [hw2]; exact below_putR B1.out (by omega) 4 r1); have MB2 : Hid (Blk w2 w.heap.size #[.int .i64 1, .int .i64 dr, .int .i64 dc, .int .i64 t, .int .i64 n] 64) := hide (by rw [hw2]; exact MB1.out.putO (by omega)); have NB2 : Hid (Blk w2 (w.heap.size + 1) (exC { nd with ref := r1 } (.slice a len cap)) 29) := hide (by rw [hw2]; exact NB1.out.putR4 r1); have RB2 : Hid (Blk w2 (w.heap.size + 1 + 1) (exC nd0 (.slice none 0 0)) 29) := hide (by rw [hw2]; exact RB1.out.putO (by omega)); rw [← hw2]; clear hw2 th m0 m1 m2 m3 m4 z0 z1 z2 z3 z4 z5 z6 z7 z8 z9 z10 z11 z12 z13; have m0 : w2.cell? ⟨w.heap.size, 0, none⟩ = some (.int .i64 1) := MB2.out.at' 0; have m1 : w2.cell? ⟨w.heap.size, 1, none⟩ = some (.int .i64 dr) := MB2.out.at' 1; have m2 : w2.cell? ⟨w.heap.size, 2, none⟩ = some (.int .i64 dc) := MB2.out.at' 2; have m3 : w2.cell? ⟨w.heap.size, 3, none⟩ = some (.int .i64 t) := MB2.out.at' 3; have m4 : w2.cell? ⟨w.heap.size, 4, none⟩ = some (.int .i64 n) := MB2.out.at' 4; obtain ⟨z0, z1, z2, z3, z4, z5, z6, z7, z8, z9, z10, z11, z12, z13⟩ := NB2.out.c14; dsimp only at z0 z1 z2 z3 z4 z5 z6 z7 z8 z9 z10 z11 z12 z13)
  refine (HR2.out w2).mono ?_
  rintro e w3 ⟨rfl, hb⟩
  have B3 := hide (next B2.out hb)
  have MB3 := hide (MB2.out.keep hb)
  have NB3 := hide (NB2.out.keep hb)
  have RB3 := hide (RB2.out.keep hb)
  clear hb
  clear m0 m1 m2 m3 m4 z0 z1 z2 z3 z4 z5 z6 z7 z8 z9 z10 z11 z12 z13
  have m0 : w3.cell? ⟨w.heap.size, 0, none⟩ = some (.int .i64 1) := MB3.out.at' 0
  have m1 : w3.cell? ⟨w.heap.size, 1, none⟩ = some (.int .i64 dr) := MB3.out.at' 1
  have m2 : w3.cell? ⟨w.heap.size, 2, none⟩ = some (.int .i64 dc) := MB3.out.at' 2
  have m3 : w3.cell? ⟨w.heap.size, 3, none⟩ = some (.int .i64 t) := MB3.out.at' 3
  have m4 : w3.cell? ⟨w.heap.size, 4, none⟩ = some (.int .i64 n) := MB3.out.at' 4
  obtain ⟨z0, z1, z2, z3, z4, z5, z6, z7, z8, z9, z10, z11, z12, z13⟩ := NB3.out.c14
  try dsimp only at z0 z1 z2 z3 z4 z5 z6 z7 z8 z9 z10 z11 z12 z13
  have th := NB3.out.thr (j := 8) (by omega)
  go_wp2_with (refine wpList_putR (b := w.heap.size + 1) (j := 8) (r := r2) rfl _ _ rfl rfl rfl (by with_reducible exact th) ?_; obtain ⟨w4, hw4⟩ : ∃ w4, w4 = putR w3 (w.heap.size + 1) 8 r2 := ⟨_, rfl⟩; have B4 : Hid (Below w.heap.size w w4) := hide (by rw [hw4]; exact below_putR B3.out (by omega) 8 r2); have MB4 : Hid (Blk w4 w.heap.size #[.int .i64 1, .int .i64 dr, .int .i64 dc, .int .i64 t, .int .i64 n] 64) := hide (by rw [hw4]; exact MB3.out.putO (by omega)); have NB4 : Hid (Blk w4 (w.heap.size + 1) (exC { nd with ref := r1, to := r2 } (.slice a len cap)) 29) := hide (by rw [hw4]; exact NB3.out.putR8 r2); have RB4 : Hid (Blk w4 (w.heap.size + 1 + 1) (exC nd0 (.slice none 0 0)) 29) := hide (by rw [hw4]; exact RB3.out.putO (by omega)); rw [← hw4]; clear hw4 th m0 m1 m2 m3 m4 z0 z1 z2 z3 z4 z5 z6 z7 z8 z9 z10 z11 z12 z13; obtain ⟨-, -, -, -, y4, y5, y6, y7, y8, y9, y10, y11, -, -⟩ := NB4.out.c14; dsimp only at y4 y5 y6 y7 y8 y9 y10 y11)
  refine (HO.out w4).mono ?_
  rintro e w5 ⟨rfl, hb⟩
  have B5 := hide (next B4.out hb)
  have MB5 := hide (MB4.out.keep hb)
  have NB5 := hide (NB4.out.keep hb)
  have RB5 := hide (RB4.out.keep hb)
  clear hb
  clear y4 y5 y6 y7 y8 y9 y10 y11
  go_wp2_with fail
  refine (rlost_any w5).mono ?_
  rintro e w6 ⟨rfl, hb⟩
  have B6 := hide (next B5.out hb)
  have MB6 := hide (MB5.out.keep hb)
  have NB6 := hide (NB5.out.keep hb)
  have RB6 := hide (RB5.out.keep hb)
  clear hb
  go_wp2_with (have hst := RB6.out; refine wpList_store_row rfl 29 _ _ rfl _ (exC lostN (.slice none 0 0)) rfl rfl 29 _ hst (exC_info _ _) (by rfl) (exC_one _ _ _ _) ?_)
  have F3 := RB6.out.setRow (cs := exC lostN (.slice none 0 0))
  refine bodyPost_ret (v := exV lostN (.slice none 0 0)) (results_cell_row Try.results47 _ _ (w.heap.size + 1 + 1) 29 (exC lostN (.slice none 0 0)) (0, 0) _ rfl F3 Try.underlying29 rfl (exC_info _ _)) rfl ?_
  exact ⟨rfl, below_setRow B6.out (by omega) _⟩
set_option maxHeartbeats 2000000 in
set_option maxRecDepth 100000 in
theorem double_2o (dr dc t n : Int) (nd : Nd) (a : Option Addr) (len cap : Nat) (w : World) (hr : mayB nd.ref.row nd.ref.col = true) (hs : mayB nd.to.row nd.to.col = true) (t0 : 0 ≤ t) (t1 : t < 65536) (hq : (outR t n nd.ref.row 65536 && outR t n nd.to.row 65536) = true) : Calls Try.prog 47 #[mvV 2 dr dc t n, exV nd (.slice a len cap)] w fun e w' => e = .returned (exV lostN (.slice none 0 0)) ∧ Below w.heap.size w w' := by
  have hr := mayB_iff.1 hr
  have hs := mayB_iff.1 hs
  have HE := hide (rends_yes 2 dr dc t n nd.ref.row nd.to.row 65536 t0 t1 (by omega) (by omega) (by omega) (by omega) (by omega) (by omega) hq)
  clear hr hs hq
  have MB0 := hide (((Blk.new w #[.int .i64 2, .int .i64 dr, .int .i64 dc, .int .i64 t, .int .i64 n] 64).alloc (exO nd (.slice a len cap))).alloc (exO nd0 (.slice none 0 0)))
  have NB0 := hide ((Blk.new1 w (.cells #[.int .i64 2, .int .i64 dr, .int .i64 dc, .int .i64 t, .int .i64 n] 64) (exC nd (.slice a len cap)) 29).alloc (exO nd0 (.slice none 0 0)))
  have RB0 := hide (Blk.new2 w (.cells #[.int .i64 2, .int .i64 dr, .int .i64 dc, .int .i64 t, .int .i64 n] 64) (exO nd (.slice a len cap)) (exC nd0 (.slice none 0 0)) 29)
  have B0 := hide (step (step (step (Below.refl w.heap.size w) (.cells #[.int .i64 2, .int .i64 dr, .int .i64 dc, .int .i64 t, .int .i64 n] 64)) (exO nd (.slice a len cap))) (exO nd0 (.slice none 0 0)))
  obtain ⟨w0, hw0⟩ : ∃ w0, ((w.alloc (.cells #[.int .i64 2, .int .i64 dr, .int .i64 dc, .int .i64 t, .int .i64 n] 64)).alloc (exO nd (.slice a len cap))).alloc (.cells #[.int .i64 0, .int .i64 0, .int .i64 0, .string { data := #[] }, .int .i64 0, .int .i64 0, .bool false, .bool false, .int .i64 0, .int .i64 0, .bool false, .bool false, .int .i64 0, .slice none 0 0] 29) = w0 := ⟨_, rfl⟩
  replace MB0 : Hid (Blk w0 w.heap.size #[.int .i64 2, .int .i64 dr, .int .i64 dc, .int .i64 t, .int .i64 n] 64) := by rw [← hw0]; exact MB0
  replace NB0 : Hid (Blk w0 (w.heap.size + 1) (exC nd (.slice a len cap)) 29) := by rw [← hw0]; exact NB0
  replace RB0 : Hid (Blk w0 (w.heap.size + 1 + 1) (exC nd0 (.slice none 0 0)) 29) := by rw [← hw0]; exact RB0
  replace B0 : Hid (Below w.heap.size w w0) := by rw [← hw0]; exact B0
  have m0 : w0.cell? ⟨w.heap.size, 0, none⟩ = some (.int .i64 2) := MB0.out.at' 0
  have m1 : w0.cell? ⟨w.heap.size, 1, none⟩ = some (.int .i64 dr) := MB0.out.at' 1
  have m2 : w0.cell? ⟨w.heap.size, 2, none⟩ = some (.int .i64 dc) := MB0.out.at' 2
  have m3 : w0.cell? ⟨w.heap.size, 3, none⟩ = some (.int .i64 t) := MB0.out.at' 3
  have m4 : w0.cell? ⟨w.heap.size, 4, none⟩ = some (.int .i64 n) := MB0.out.at' 4
  obtain ⟨z0, z1, z2, z3, z4, z5, z6, z7, z8, z9, z10, z11, z12, z13⟩ := NB0.out.c14
  try dsimp only at z0 z1 z2 z3 z4 z5 z6 z7 z8 z9 z10 z11 z12 z13
  go_enter Try.func47, Try.ntmps47
  go_wp2_with fail
  clear hw0
  refine (HE.out w0).mono ?_
  rintro e w1 ⟨rfl, hb⟩
  have B1 := hide (next B0.out hb)
  have MB1 := hide (MB0.out.keep hb)
  have NB1 := hide (NB0.out.keep hb)
  have RB1 := hide (RB0.out.keep hb)
  clear hb
  clear m0 m1 m2 m3 m4 z0 z1 z2 z3 z4 z5 z6 z7 z8 z9 z10 z11 z12 z13
  have m0 : w1.cell? ⟨w.heap.size, 0, none⟩ = some (.int .i64 2) := MB1.out.at' 0
  have m1 : w1.cell? ⟨w.heap.size, 1, none⟩ = some (.int .i64 dr) := MB1.out.at' 1
  have m2 : w1.cell? ⟨w.heap.size, 2, none⟩ = some (.int .i64 dc) := MB1.out.at' 2
  have m3 : w1.cell? ⟨w.heap.size, 3, none⟩ = some (.int .i64 t) := MB1.out.at' 3
  have m4 : w1.cell? ⟨w.heap.size, 4, none⟩ = some (.int .i64 n) := MB1.out.at' 4
  obtain ⟨z0, z1, z2, z3, z4, z5, z6, z7, z8, z9, z10, z11, z12, z13⟩ := NB1.out.c14
  try dsimp only at z0 z1 z2 z3 z4 z5 z6 z7 z8 z9 z10 z11 z12 z13
  have f4 := NB1.out.fr 4
  have f8 := NB1.out.fr 8
  go_wp2_with fail
  have B2 : Hid (Below w.heap.size w ((w1.setCell ⟨w.heap.size + 1, 4, none⟩ (.int .i64 0)).setCell ⟨w.heap.size + 1, 8, none⟩ (.int .i64 0))) := hide ((B1.out.setCell (p := ⟨w.heap.size + 1, 4, none⟩) (by simp) _).setCell (p := ⟨w.heap.size + 1, 8, none⟩) (by simp) _)
  have MB2 : Hid (Blk ((w1.setCell ⟨w.heap.size + 1, 4, none⟩ (.int .i64 0)).setCell ⟨w.heap.size + 1, 8, none⟩ (.int .i64 0)) w.heap.size #[.int .i64 2, .int .i64 dr, .int .i64 dc, .int .i64 t, .int .i64 n] 64) := hide (blk_other (blk_other MB1.out (by omega)) (by omega))
  have NB2 : Hid (Blk ((w1.setCell ⟨w.heap.size + 1, 4, none⟩ (.int .i64 0)).setCell ⟨w.heap.size + 1, 8, none⟩ (.int .i64 0)) (w.heap.size + 1) (exC { nd with ref := ⟨0, nd.ref.col, nd.ref.pr, nd.ref.pc⟩, to := ⟨0, nd.to.col, nd.to.pr, nd.to.pc⟩ } (.slice a len cap)) 29) := hide ((NB1.out.set 4 (.int .i64 0)).set 8 (.int .i64 0))
  have RB2 : Hid (Blk ((w1.setCell ⟨w.heap.size + 1, 4, none⟩ (.int .i64 0)).setCell ⟨w.heap.size + 1, 8, none⟩ (.int .i64 0)) (w.heap.size + 1 + 1) (exC nd0 (.slice none 0 0)) 29) := hide (blk_other (blk_other RB1.out (by omega)) (by omega))
  obtain ⟨w2, hw2⟩ : ∃ w2, ((w1.setCell ⟨w.heap.size + 1, 4, none⟩ (.int .i64 0)).setCell ⟨w.heap.size + 1, 8, none⟩ (.int .i64 0)) = w2 := ⟨_, rfl⟩
  rw [hw2] at B2 MB2 NB2 RB2 ⊢
  clear hw2
  clear f4 f8
  clear m0 m1 m2 m3 m4 z0 z1 z2 z3 z4 z5 z6 z7 z8 z9 z10 z11 z12 z13
  refine (rlost_any w2).mono ?_
  rintro e w3 ⟨rfl, hb⟩
  have B3 := hide (next B2.out hb)
  have MB3 := hide (MB2.out.keep hb)
  have NB3 := hide (NB2.out.keep hb)
  have RB3 := hide (RB2.out.keep hb)
  clear hb
  go_wp2_with (have hst := RB3.out; refine wpList_store_row rfl 29 _ _ rfl _ (exC lostN (.slice none 0 0)) rfl rfl 29 _ hst (exC_info _ _) (by rfl) (exC_one _ _ _ _) ?_)
  have F3 := RB3.out.setRow (cs := exC lostN (.slice none 0 0))
  refine bodyPost_ret (v := exV lostN (.slice none 0 0)) (results_cell_row Try.results47 _ _ (w.heap.size + 1 + 1) 29 (exC lostN (.slice none 0 0)) (0, 0) _ rfl F3 Try.underlying29 rfl (exC_info _ _)) rfl ?_
  exact ⟨rfl, below_setRow B3.out (by omega) _⟩
set_option maxHeartbeats 2000000 in
set_option maxRecDepth 100000 in
theorem double_2tt (dr dc t n : Int) (nd : Nd) (a : Option Addr) (len cap : Nat) (w : World) (hr : mayB nd.ref.row nd.ref.col = true) (hs : mayB nd.to.row nd.to.col = true) (t0 : 0 ≤ t) (t1 : t < 65536) (hq : (outR t n nd.ref.row 65536 && outR t n nd.to.row 65536) = false) (hg : mayB { nd with ref := ⟨(endA t n nd.ref.row nd.to.row 65536), nd.ref.col, nd.ref.pr, nd.ref.pc⟩, to := ⟨(endA t n nd.to.row nd.ref.row 65536), nd.to.col, nd.to.pr, nd.to.pc⟩ }.ref.row { nd with ref := ⟨(endA t n nd.ref.row nd.to.row 65536), nd.ref.col, nd.ref.pr, nd.ref.pc⟩, to := ⟨(endA t n nd.to.row nd.ref.row 65536), nd.to.col, nd.to.pr, nd.to.pc⟩ }.ref.col = true) (hg2 : mayB { nd with ref := ⟨(endA t n nd.ref.row nd.to.row 65536), nd.ref.col, nd.ref.pr, nd.ref.pc⟩, to := ⟨(endA t n nd.to.row nd.ref.row 65536), nd.to.col, nd.to.pr, nd.to.pc⟩ }.to.row { nd with ref := ⟨(endA t n nd.ref.row nd.to.row 65536), nd.ref.col, nd.ref.pr, nd.ref.pc⟩, to := ⟨(endA t n nd.to.row nd.ref.row 65536), nd.to.col, nd.to.pr, nd.to.pc⟩ }.to.col = true) : Calls Try.prog 47 #[mvV 2 dr dc t n, exV nd (.slice a len cap)] w fun e w' => e = .returned (exV { nd with ref := ⟨(endA t n nd.ref.row nd.to.row 65536), nd.ref.col, nd.ref.pr, nd.ref.pc⟩, to := ⟨(endA t n nd.to.row nd.ref.row 65536), nd.to.col, nd.to.pr, nd.to.pc⟩ } (.slice a len cap)) ∧ Below w.heap.size w w' := by
  have hr := mayB_iff.1 hr
  have hs := mayB_iff.1 hs
  have HE := hide (rends_no 2 dr dc t n nd.ref.row nd.to.row 65536 t0 t1 (by omega) (by omega) (by omega) (by omega) (by omega) (by omega) hq)
  have HG := hide (ron_any { nd with ref := ⟨(endA t n nd.ref.row nd.to.row 65536), nd.ref.col, nd.ref.pr, nd.ref.pc⟩, to := ⟨(endA t n nd.to.row nd.ref.row 65536), nd.to.col, nd.to.pr, nd.to.pc⟩ }.ref)
  rw [hg] at HG
  dsimp only at HG
  have HG2 := hide (ron_any { nd with ref := ⟨(endA t n nd.ref.row nd.to.row 65536), nd.ref.col, nd.ref.pr, nd.ref.pc⟩, to := ⟨(endA t n nd.to.row nd.ref.row 65536), nd.to.col, nd.to.pr, nd.to.pc⟩ }.to)
  rw [hg2] at HG2
  dsimp only at HG2
  clear hg2
  clear hr hs hq hg
  generalize endA t n nd.ref.row nd.to.row 65536 = L1 at *
  generalize endA t n nd.to.row nd.ref.row 65536 = L2 at *
  have MB0 := hide (((Blk.new w #[.int .i64 2, .int .i64 dr, .int .i64 dc, .int .i64 t, .int .i64 n] 64).alloc (exO nd (.slice a len cap))).alloc (exO nd0 (.slice none 0 0)))
  have NB0 := hide ((Blk.new1 w (.cells #[.int .i64 2, .int .i64 dr, .int .i64 dc, .int .i64 t, .int .i64 n] 64) (exC nd (.slice a len cap)) 29).alloc (exO nd0 (.slice none 0 0)))
  have RB0 := hide (Blk.new2 w (.cells #[.int .i64 2, .int .i64 dr, .int .i64 dc, .int .i64 t, .int .i64 n] 64) (exO nd (.slice a len cap)) (exC nd0 (.slice none 0 0)) 29)
  have B0 := hide (step (step (step (Below.refl w.heap.size w) (.cells #[.int .i64 2, .int .i64 dr, .int .i64 dc, .int .i64 t, .int .i64 n] 64)) (exO nd (.slice a len cap))) (exO nd0 (.slice none 0 0)))
  obtain ⟨w0, hw0⟩ : ∃ w0, ((w.alloc (.cells #[.int .i64 2, .int .i64 dr, .int .i64 dc, .int .i64 t, .int .i64 n] 64)).alloc (exO nd (.slice a len cap))).alloc (.cells #[.int .i64 0, .int .i64 0, .int .i64 0, .string { data := #[] }, .int .i64 0, .int .i64 0, .bool false, .bool false, .int .i64 0, .int .i64 0, .bool false, .bool false, .int .i64 0, .slice none 0 0] 29) = w0 := ⟨_, rfl⟩
  replace MB0 : Hid (Blk w0 w.heap.size #[.int .i64 2, .int .i64 dr, .int .i64 dc, .int .i64 t, .int .i64 n] 64) := by rw [← hw0]; exact MB0
  replace NB0 : Hid (Blk w0 (w.heap.size + 1) (exC nd (.slice a len cap)) 29) := by rw [← hw0]; exact NB0
  replace RB0 : Hid (Blk w0 (w.heap.size + 1 + 1) (exC nd0 (.slice none 0 0)) 29) := by rw [← hw0]; exact RB0
  replace B0 : Hid (Below w.heap.size w w0) := by rw [← hw0]; exact B0
  have m0 : w0.cell? ⟨w.heap.size, 0, none⟩ = some (.int .i64 2) := MB0.out.at' 0
  have m1 : w0.cell? ⟨w.heap.size, 1, none⟩ = some (.int .i64 dr) := MB0.out.at' 1
  have m2 : w0.cell? ⟨w.heap.size, 2, none⟩ = some (.int .i64 dc) := MB0.out.at' 2
  have m3 : w0.cell? ⟨w.heap.size, 3, none⟩ = some (.int .i64 t) := MB0.out.at' 3
  have m4 : w0.cell? ⟨w.heap.size, 4, none⟩ = some (.int .i64 n) := MB0.out.at' 4
  obtain ⟨z0, z1, z2, z3, z4, z5, z6, z7, z8, z9, z10, z11, z12, z13⟩ := NB0.out.c14
  try dsimp only at z0 z1 z2 z3 z4 z5 z6 z7 z8 z9 z10 z11 z12 z13
  go_enter Try.func47, Try.ntmps47
  go_wp2_with fail
  clear hw0
  refine (HE.out w0).mono ?_
  rintro e w1 ⟨rfl, hb⟩
  have B1 := hide (next B0.out hb)
  have MB1 := hide (MB0.out.keep hb)
  have NB1 := hide (NB0.out.keep hb)
  have RB1 := hide (RB0.out.keep hb)
  clear hb
  clear m0 m1 m2 m3 m4 z0 z1 z2 z3 z4 z5 z6 z7 z8 z9 z10 z11 z12 z13
  have m0 : w1.cell? ⟨w.heap.size, 0, none⟩ = some (.int .i64 2) := MB1.out.at' 0
  have m1 : w1.cell? ⟨w.heap.size, 1, none⟩ = some (.int .i64 dr) := MB1.out.at' 1
  have m2 : w1.cell? ⟨w.heap.size, 2, none⟩ = some (.int .i64 dc) := MB1.out.at' 2
  have m3 : w1.cell? ⟨w.heap.size, 3, none⟩ = some (.int .i64 t) := MB1.out.at' 3
  have m4 : w1.cell? ⟨w.heap.size, 4, none⟩ = some (.int .i64 n) := MB1.out.at' 4
  obtain ⟨z0, z1, z2, z3, z4, z5, z6, z7, z8, z9, z10, z11, z12, z13⟩ := NB1.out.c14
  try dsimp only at z0 z1 z2 z3 z4 z5 z6 z7 z8 z9 z10 z11 z12 z13
  have f4 := NB1.out.fr 4
  have f8 := NB1.out.fr 8
  go_wp2_with fail
  have B2 : Hid (Below w.heap.size w ((w1.setCell ⟨w.heap.size + 1, 4, none⟩ (.int .i64 L1)).setCell ⟨w.heap.size + 1, 8, none⟩ (.int .i64 L2))) := hide ((B1.out.setCell (p := ⟨w.heap.size + 1, 4, none⟩) (by simp) _).setCell (p := ⟨w.heap.size + 1, 8, none⟩) (by simp) _)
  have MB2 : Hid (Blk ((w1.setCell ⟨w.heap.size + 1, 4, none⟩ (.int .i64 L1)).setCell ⟨w.heap.size + 1, 8, none⟩ (.int .i64 L2)) w.heap.size #[.int .i64 2, .int .i64 dr, .int .i64 dc, .int .i64 t, .int .i64 n] 64) := hide (blk_other (blk_other MB1.out (by omega)) (by omega))
  have NB2 : Hid (Blk ((w1.setCell ⟨w.heap.size + 1, 4, none⟩ (.int .i64 L1)).setCell ⟨w.heap.size + 1, 8, none⟩ (.int .i64 L2)) (w.heap.size + 1) (exC { nd with ref := ⟨L1, nd.ref.col, nd.ref.pr, nd.ref.pc⟩, to := ⟨L2, nd.to.col, nd.to.pr, nd.to.pc⟩ } (.slice a len cap)) 29) := hide ((NB1.out.set 4 (.int .i64 L1)).set 8 (.int .i64 L2))
  have RB2 : Hid (Blk ((w1.setCell ⟨w.heap.size + 1, 4, none⟩ (.int .i64 L1)).setCell ⟨w.heap.size + 1, 8, none⟩ (.int .i64 L2)) (w.heap.size + 1 + 1) (exC nd0 (.slice none 0 0)) 29) := hide (blk_other (blk_other RB1.out (by omega)) (by omega))
  obtain ⟨w2, hw2⟩ : ∃ w2, ((w1.setCell ⟨w.heap.size + 1, 4, none⟩ (.int .i64 L1)).setCell ⟨w.heap.size + 1, 8, none⟩ (.int .i64 L2)) = w2 := ⟨_, rfl⟩
  rw [hw2] at B2 MB2 NB2 RB2 ⊢
  clear hw2
  clear f4 f8
  clear m0 m1 m2 m3 m4 z0 z1 z2 z3 z4 z5 z6 z7 z8 z9 z10 z11 z12 z13
  refine (HG.out w2).mono ?_
  rintro e w3 ⟨rfl, hb⟩
  have B3 := hide (next B2.out hb)
  have MB3 := hide (MB2.out.keep hb)
  have NB3 := hide (NB2.out.keep hb)
  have RB3 := hide (RB2.out.keep hb)
  clear hb
  obtain ⟨-, -, -, -, y4, y5, y6, y7, y8, y9, y10, y11, -, -⟩ := NB3.out.c14
  dsimp only at y4 y5 y6 y7 y8 y9 y10 y11
  go_wp2_with fail
  refine (HG2.out w3).mono ?_
  rintro e w4 ⟨rfl, hb⟩
  have B4 := hide (next B3.out hb)
  have MB4 := hide (MB3.out.keep hb)
  have NB4 := hide (NB3.out.keep hb)
  have RB4 := hide (RB3.out.keep hb)
  clear hb
  clear y4 y5 y6 y7 y8 y9 y10 y11
  go_wp2_with (first
    | (refine wpList_load_blk rfl 29 _ rfl _ rfl _ (by with_reducible exact NB4.out) _ Try.underlying29 rfl (exC_info _ _) ?_)
    | (have hst := RB4.out; refine wpList_store_row rfl 29 _ _ rfl _ (exC { nd with ref := ⟨L1, nd.ref.col, nd.ref.pr, nd.ref.pc⟩, to := ⟨L2, nd.to.col, nd.to.pr, nd.to.pc⟩ } (.slice a len cap)) rfl rfl 29 _ hst (exC_info _ _) (by rfl) (exC_one _ _ _ _) ?_))
  have F3 := RB4.out.setRow (cs := exC { nd with ref := ⟨L1, nd.ref.col, nd.ref.pr, nd.ref.pc⟩, to := ⟨L2, nd.to.col, nd.to.pr, nd.to.pc⟩ } (.slice a len cap))
  refine bodyPost_ret (v := exV { nd with ref := ⟨L1, nd.ref.col, nd.ref.pr, nd.ref.pc⟩, to := ⟨L2, nd.to.col, nd.to.pr, nd.to.pc⟩ } (.slice a len cap)) (results_cell_row Try.results47 _ _ (w.heap.size + 1 + 1) 29 (exC { nd with ref := ⟨L1, nd.ref.col, nd.ref.pr, nd.ref.pc⟩, to := ⟨L2, nd.to.col, nd.to.pr, nd.to.pc⟩ } (.slice a len cap)) (0, 0) _ rfl F3 Try.underlying29 rfl (exC_info _ _)) rfl ?_
  exact ⟨rfl, below_setRow B4.out (by omega) _⟩
set_option maxHeartbeats 2000000 in
set_option maxRecDepth 100000 in
theorem double_2tf (dr dc t n : Int) (nd : Nd) (a : Option Addr) (len cap : Nat) (w : World) (hr : mayB nd.ref.row nd.ref.col = true) (hs : mayB nd.to.row nd.to.col = true) (t0 : 0 ≤ t) (t1 : t < 65536) (hq : (outR t n nd.ref.row 65536 && outR t n nd.to.row 65536) = false) (hg : mayB { nd with ref := ⟨(endA t n nd.ref.row nd.to.row 65536), nd.ref.col, nd.ref.pr, nd.ref.pc⟩, to := ⟨(endA t n nd.to.row nd.ref.row 65536), nd.to.col, nd.to.pr, nd.to.pc⟩ }.ref.row { nd with ref := ⟨(endA t n nd.ref.row nd.to.row 65536), nd.ref.col, nd.ref.pr, nd.ref.pc⟩, to := ⟨(endA t n nd.to.row nd.ref.row 65536), nd.to.col, nd.to.pr, nd.to.pc⟩ }.ref.col = true) (hg2 : mayB { nd with ref := ⟨(endA t n nd.ref.row nd.to.row 65536), nd.ref.col, nd.ref.pr, nd.ref.pc⟩, to := ⟨(endA t n nd.to.row nd.ref.row 65536), nd.to.col, nd.to.pr, nd.to.pc⟩ }.to.row { nd with ref := ⟨(endA t n nd.ref.row nd.to.row 65536), nd.ref.col, nd.ref.pr, nd.ref.pc⟩, to := ⟨(endA t n nd.to.row nd.ref.row 65536), nd.to.col, nd.to.pr, nd.to.pc⟩ }.to.col = false) : Calls Try.prog 47 #[mvV 2 dr dc t n, exV nd (.slice a len cap)] w fun e w' => e = .returned (exV lostN (.slice none 0 0)) ∧ Below w.heap.size w w' := by
  have hr := mayB_iff.1 hr
  have hs := mayB_iff.1 hs
  have HE := hide (rends_no 2 dr dc t n nd.ref.row nd.to.row 65536 t0 t1 (by omega) (by omega) (by omega) (by omega) (by omega) (by omega) hq)
  have HG := hide (ron_any { nd with ref := ⟨(endA t n nd.ref.row nd.to.row 65536), nd.ref.col, nd.ref.pr, nd.ref.pc⟩, to := ⟨(endA t n nd.to.row nd.ref.row 65536), nd.to.col, nd.to.pr, nd.to.pc⟩ }.ref)
  rw [hg] at HG
  dsimp only at HG
  have HG2 := hide (ron_any { nd with ref := ⟨(endA t n nd.ref.row nd.to.row 65536), nd.ref.col, nd.ref.pr, nd.ref.pc⟩, to := ⟨(endA t n nd.to.row nd.ref.row 65536), nd.to.col, nd.to.pr, nd.to.pc⟩ }.to)
  rw [hg2] at HG2
  dsimp only at HG2
  clear hg2
  clear hr hs hq hg
  generalize endA t n nd.ref.row nd.to.row 65536 = L1 at *
  generalize endA t n nd.to.row nd.ref.row 65536 = L2 at *
  have MB0 := hide (((Blk.new w #[.int .i64 2, .int .i64 dr, .int .i64 dc, .int .i64 t, .int .i64 n] 64).alloc (exO nd (.slice a len cap))).alloc (exO nd0 (.slice none 0 0)))
  have NB0 := hide ((Blk.new1 w (.cells #[.int .i64 2, .int .i64 dr, .int .i64 dc, .int .i64 t, .int .i64 n] 64) (exC nd (.slice a len cap)) 29).alloc (exO nd0 (.slice none 0 0)))
  have RB0 := hide (Blk.new2 w (.cells #[.int .i64 2, .int .i64 dr, .int .i64 dc, .int .i64 t, .int .i64 n] 64) (exO nd (.slice a len cap)) (exC nd0 (.slice none 0 0)) 29)
  have B0 := hide (step (step (step (Below.refl w.heap.size w) (.cells #[.int .i64 2, .int .i64 dr, .int .i64 dc, .int .i64 t, .int .i64 n] 64)) (exO nd (.slice a len cap))) (exO nd0 (.slice none 0 0)))
  obtain ⟨w0, hw0⟩ : ∃ w0, ((w.alloc (.cells #[.int .i64 2, .int .i64 dr, .int .i64 dc, .int .i64 t, .int .i64 n] 64)).alloc (exO nd (.slice a len cap))).alloc (.cells #[.int .i64 0, .int .i64 0, .int .i64 0, .string { data := #[] }, .int .i64 0, .int .i64 0, .bool false, .bool false, .int .i64 0, .int .i64 0, .bool false, .bool false, .int .i64 0, .slice none 0 0] 29) = w0 := ⟨_, rfl⟩
  replace MB0 : Hid (Blk w0 w.heap.size #[.int .i64 2, .int .i64 dr, .int .i64 dc, .int .i64 t, .int .i64 n] 64) := by rw [← hw0]; exact MB0
  replace NB0 : Hid (Blk w0 (w.heap.size + 1) (exC nd (.slice a len cap)) 29) := by rw [← hw0]; exact NB0
  replace RB0 : Hid (Blk w0 (w.heap.size + 1 + 1) (exC nd0 (.slice none 0 0)) 29) := by rw [← hw0]; exact RB0
  replace B0 : Hid (Below w.heap.size w w0) := by rw [← hw0]; exact B0
  have m0 : w0.cell? ⟨w.heap.size, 0, none⟩ = some (.int .i64 2) := MB0.out.at' 0
  have m1 : w0.cell? ⟨w.heap.size, 1, none⟩ = some (.int .i64 dr) := MB0.out.at' 1
  have m2 : w0.cell? ⟨w.heap.size, 2, none⟩ = some (.int .i64 dc) := MB0.out.at' 2
  have m3 : w0.cell? ⟨w.heap.size, 3, none⟩ = some (.int .i64 t) := MB0.out.at' 3
  have m4 : w0.cell? ⟨w.heap.size, 4, none⟩ = some (.int .i64 n) := MB0.out.at' 4
  obtain ⟨z0, z1, z2, z3, z4, z5, z6, z7, z8, z9, z10, z11, z12, z13⟩ := NB0.out.c14
  try dsimp only at z0 z1 z2 z3 z4 z5 z6 z7 z8 z9 z10 z11 z12 z13
  go_enter Try.func47, Try.ntmps47
  go_wp2_with fail
  clear hw0
  refine (HE.out w0).mono ?_
  rintro e w1 ⟨rfl, hb⟩
  have B1 := hide (next B0.out hb)
  have MB1 := hide (MB0.out.keep hb)
  have NB1 := hide (NB0.out.keep hb)
  have RB1 := hide (RB0.out.keep hb)
  clear hb
  clear m0 m1 m2 m3 m4 z0 z1 z2 z3 z4 z5 z6 z7 z8 z9 z10 z11 z12 z13
  have m0 : w1.cell? ⟨w.heap.size, 0, none⟩ = some (.int .i64 2) := MB1.out.at' 0
  have m1 : w1.cell? ⟨w.heap.size, 1, none⟩ = some (.int .i64 dr) := MB1.out.at' 1
  have m2 : w1.cell? ⟨w.heap.size, 2, none⟩ = some (.int .i64 dc) := MB1.out.at' 2
  have m3 : w1.cell? ⟨w.heap.size, 3, none⟩ = some (.int .i64 t) := MB1.out.at' 3
  have m4 : w1.cell? ⟨w.heap.size, 4, none⟩ = some (.int .i64 n) := MB1.out.at' 4
  obtain ⟨z0, z1, z2, z3, z4, z5, z6, z7, z8, z9, z10, z11, z12, z13⟩ := NB1.out.c14
  try dsimp only at z0 z1 z2 z3 z4 z5 z6 z7 z8 z9 z10 z11 z12 z13
  have f4 := NB1.out.fr 4
  have f8 := NB1.out.fr 8
  go_wp2_with fail
  have B2 : Hid (Below w.heap.size w ((w1.setCell ⟨w.heap.size + 1, 4, none⟩ (.int .i64 L1)).setCell ⟨w.heap.size + 1, 8, none⟩ (.int .i64 L2))) := hide ((B1.out.setCell (p := ⟨w.heap.size + 1, 4, none⟩) (by simp) _).setCell (p := ⟨w.heap.size + 1, 8, none⟩) (by simp) _)
  have MB2 : Hid (Blk ((w1.setCell ⟨w.heap.size + 1, 4, none⟩ (.int .i64 L1)).setCell ⟨w.heap.size + 1, 8, none⟩ (.int .i64 L2)) w.heap.size #[.int .i64 2, .int .i64 dr, .int .i64 dc, .int .i64 t, .int .i64 n] 64) := hide (blk_other (blk_other MB1.out (by omega)) (by omega))
  have NB2 : Hid (Blk ((w1.setCell ⟨w.heap.size + 1, 4, none⟩ (.int .i64 L1)).setCell ⟨w.heap.size + 1, 8, none⟩ (.int .i64 L2)) (w.heap.size + 1) (exC { nd with ref := ⟨L1, nd.ref.col, nd.ref.pr, nd.ref.pc⟩, to := ⟨L2, nd.to.col, nd.to.pr, nd.to.pc⟩ } (.slice a len cap)) 29) := hide ((NB1.out.set 4 (.int .i64 L1)).set 8 (.int .i64 L2))
  have RB2 : Hid (Blk ((w1.setCell ⟨w.heap.size + 1, 4, none⟩ (.int .i64 L1)).setCell ⟨w.heap.size + 1, 8, none⟩ (.int .i64 L2)) (w.heap.size + 1 + 1) (exC nd0 (.slice none 0 0)) 29) := hide (blk_other (blk_other RB1.out (by omega)) (by omega))
  obtain ⟨w2, hw2⟩ : ∃ w2, ((w1.setCell ⟨w.heap.size + 1, 4, none⟩ (.int .i64 L1)).setCell ⟨w.heap.size + 1, 8, none⟩ (.int .i64 L2)) = w2 := ⟨_, rfl⟩
  rw [hw2] at B2 MB2 NB2 RB2 ⊢
  clear hw2
  clear f4 f8
  clear m0 m1 m2 m3 m4 z0 z1 z2 z3 z4 z5 z6 z7 z8 z9 z10 z11 z12 z13
  refine (HG.out w2).mono ?_
  rintro e w3 ⟨rfl, hb⟩
  have B3 := hide (next B2.out hb)
  have MB3 := hide (MB2.out.keep hb)
  have NB3 := hide (NB2.out.keep hb)
  have RB3 := hide (RB2.out.keep hb)
  clear hb
  obtain ⟨-, -, -, -, y4, y5, y6, y7, y8, y9, y10, y11, -, -⟩ := NB3.out.c14
  dsimp only at y4 y5 y6 y7 y8 y9 y10 y11
  go_wp2_with fail
  refine (HG2.out w3).mono ?_
  rintro e w4 ⟨rfl, hb⟩
  have B4 := hide (next B3.out hb)
  have MB4 := hide (MB3.out.keep hb)
  have NB4 := hide (NB3.out.keep hb)
  have RB4 := hide (RB3.out.keep hb)
  clear hb
  clear y4 y5 y6 y7 y8 y9 y10 y11
  go_wp2_with fail
  refine (rlost_any w4).mono ?_
  rintro e w5 ⟨rfl, hb⟩
  have B5 := hide (next B4.out hb)
  have MB5 := hide (MB4.out.keep hb)
  have NB5 := hide (NB4.out.keep hb)
  have RB5 := hide (RB4.out.keep hb)
  clear hb
  go_wp2_with (have hst := RB5.out; refine wpList_store_row rfl 29 _ _ rfl _ (exC lostN (.slice none 0 0)) rfl rfl 29 _ hst (exC_info _ _) (by rfl) (exC_one _ _ _ _) ?_)
  have F3 := RB5.out.setRow (cs := exC lostN (.slice none 0 0))
  refine bodyPost_ret (v := exV lostN (.slice none 0 0)) (results_cell_row Try.results47 _ _ (w.heap.size + 1 + 1) 29 (exC lostN (.slice none 0 0)) (0, 0) _ rfl F3 Try.underlying29 rfl (exC_info _ _)) rfl ?_
  exact ⟨rfl, below_setRow B5.out (by omega) _⟩
set_option maxHeartbeats 2000000 in
set_option maxRecDepth 100000 in
theorem double_2f (dr dc t n : Int) (nd : Nd) (a : Option Addr) (len cap : Nat) (w : World) (hr : mayB nd.ref.row nd.ref.col = true) (hs : mayB nd.to.row nd.to.col = true) (t0 : 0 ≤ t) (t1 : t < 65536) (hq : (outR t n nd.ref.row 65536 && outR t n nd.to.row 65536) = false) (hg : mayB { nd with ref := ⟨(endA t n nd.ref.row nd.to.row 65536), nd.ref.col, nd.ref.pr, nd.ref.pc⟩, to := ⟨(endA t n nd.to.row nd.ref.row 65536), nd.to.col, nd.to.pr, nd.to.pc⟩ }.ref.row { nd with ref := ⟨(endA t n nd.ref.row nd.to.row 65536), nd.ref.col, nd.ref.pr, nd.ref.pc⟩, to := ⟨(endA t n nd.to.row nd.ref.row 65536), nd.to.col, nd.to.pr, nd.to.pc⟩ }.ref.col = false) : Calls Try.prog 47 #[mvV 2 dr dc t n, exV nd (.slice a len cap)] w fun e w' => e = .returned (exV lostN (.slice none 0 0)) ∧ Below w.heap.size w w' := by
  have hr := mayB_iff.1 hr
  have hs := mayB_iff.1 hs
  have HE := hide (rends_no 2 dr dc t n nd.ref.row nd.to.row 65536 t0 t1 (by omega) (by omega) (by omega) (by omega) (by omega) (by omega) hq)
  have HG := hide (ron_any { nd with ref := ⟨(endA t n nd.ref.row nd.to.row 65536), nd.ref.col, nd.ref.pr, nd.ref.pc⟩, to := ⟨(endA t n nd.to.row nd.ref.row 65536), nd.to.col, nd.to.pr, nd.to.pc⟩ }.ref)
  rw [hg] at HG
  dsimp only at HG
  clear hr hs hq hg
  generalize endA t n nd.ref.row nd.to.row 65536 = L1 at *
  generalize endA t n nd.to.row nd.ref.row 65536 = L2 at *
  have MB0 := hide (((Blk.new w #[.int .i64 2, .int .i64 dr, .int .i64 dc, .int .i64 t, .int .i64 n] 64).alloc (exO nd (.slice a len cap))).alloc (exO nd0 (.slice none 0 0)))
  have NB0 := hide ((Blk.new1 w (.cells #[.int .i64 2, .int .i64 dr, .int .i64 dc, .int .i64 t, .int .i64 n] 64) (exC nd (.slice a len cap)) 29).alloc (exO nd0 (.slice none 0 0)))
  have RB0 := hide (Blk.new2 w (.cells #[.int .i64 2, .int .i64 dr, .int .i64 dc, .int .i64 t, .int .i64 n] 64) (exO nd (.slice a len cap)) (exC nd0 (.slice none 0 0)) 29)
  have B0 := hide (step (step (step (Below.refl w.heap.size w) (.cells #[.int .i64 2, .int .i64 dr, .int .i64 dc, .int .i64 t, .int .i64 n] 64)) (exO nd (.slice a len cap))) (exO nd0 (.slice none 0 0)))
  obtain ⟨w0, hw0⟩ : ∃ w0, ((w.alloc (.cells #[.int .i64 2, .int .i64 dr, .int .i64 dc, .int .i64 t, .int .i64 n] 64)).alloc (exO nd (.slice a len cap))).alloc (.cells #[.int .i64 0, .int .i64 0, .int .i64 0, .string { data := #[] }, .int .i64 0, .int .i64 0, .bool false, .bool false, .int .i64 0, .int .i64 0, .bool false, .bool false, .int .i64 0, .slice none 0 0] 29) = w0 := ⟨_, rfl⟩
  replace MB0 : Hid (Blk w0 w.heap.size #[.int .i64 2, .int .i64 dr, .int .i64 dc, .int .i64 t, .int .i64 n] 64) := by rw [← hw0]; exact MB0
  replace NB0 : Hid (Blk w0 (w.heap.size + 1) (exC nd (.slice a len cap)) 29) := by rw [← hw0]; exact NB0
  replace RB0 : Hid (Blk w0 (w.heap.size + 1 + 1) (exC nd0 (.slice none 0 0)) 29) := by rw [← hw0]; exact RB0
  replace B0 : Hid (Below w.heap.size w w0) := by rw [← hw0]; exact B0
  have m0 : w0.cell? ⟨w.heap.size, 0, none⟩ = some (.int .i64 2) := MB0.out.at' 0
  have m1 : w0.cell? ⟨w.heap.size, 1, none⟩ = some (.int .i64 dr) := MB0.out.at' 1
  have m2 : w0.cell? ⟨w.heap.size, 2, none⟩ = some (.int .i64 dc) := MB0.out.at' 2
  have m3 : w0.cell? ⟨w.heap.size, 3, none⟩ = some (.int .i64 t) := MB0.out.at' 3
  have m4 : w0.cell? ⟨w.heap.size, 4, none⟩ = some (.int .i64 n) := MB0.out.at' 4
  obtain ⟨z0, z1, z2, z3, z4, z5, z6, z7, z8, z9, z10, z11, z12, z13⟩ := NB0.out.c14
  try dsimp only at z0 z1 z2 z3 z4 z5 z6 z7 z8 z9 z10 z11 z12 z13
  go_enter Try.func47, Try.ntmps47
  go_wp2_with fail
  clear hw0
  refine (HE.out w0).mono ?_
  rintro e w1 ⟨rfl, hb⟩
  have B1 := hide (next B0.out hb)
  have MB1 := hide (MB0.out.keep hb)
  have NB1 := hide (NB0.out.keep hb)
  have RB1 := hide (RB0.out.keep hb)
  clear hb
  clear m0 m1 m2 m3 m4 z0 z1 z2 z3 z4 z5 z6 z7 z8 z9 z10 z11 z12 z13
  have m0 : w1.cell? ⟨w.heap.size, 0, none⟩ = some (.int .i64 2) := MB1.out.at' 0
  have m1 : w1.cell? ⟨w.heap.size, 1, none⟩ = some (.int .i64 dr) := MB1.out.at' 1
  have m2 : w1.cell? ⟨w.heap.size, 2, none⟩ = some (.int .i64 dc) := MB1.out.at' 2
  have m3 : w1.cell? ⟨w.heap.size, 3, none⟩ = some (.int .i64 t) := MB1.out.at' 3
  have m4 : w1.cell? ⟨w.heap.size, 4, none⟩ = some (.int .i64 n) := MB1.out.at' 4
  obtain ⟨z0, z1, z2, z3, z4, z5, z6, z7, z8, z9, z10, z11, z12, z13⟩ := NB1.out.c14
  try dsimp only at z0 z1 z2 z3 z4 z5 z6 z7 z8 z9 z10 z11 z12 z13
  have f4 := NB1.out.fr 4
  have f8 := NB1.out.fr 8
  go_wp2_with fail
  have B2 : Hid (Below w.heap.size w ((w1.setCell ⟨w.heap.size + 1, 4, none⟩ (.int .i64 L1)).setCell ⟨w.heap.size + 1, 8, none⟩ (.int .i64 L2))) := hide ((B1.out.setCell (p := ⟨w.heap.size + 1, 4, none⟩) (by simp) _).setCell (p := ⟨w.heap.size + 1, 8, none⟩) (by simp) _)
  have MB2 : Hid (Blk ((w1.setCell ⟨w.heap.size + 1, 4, none⟩ (.int .i64 L1)).setCell ⟨w.heap.size + 1, 8, none⟩ (.int .i64 L2)) w.heap.size #[.int .i64 2, .int .i64 dr, .int .i64 dc, .int .i64 t, .int .i64 n] 64) := hide (blk_other (blk_other MB1.out (by omega)) (by omega))
  have NB2 : Hid (Blk ((w1.setCell ⟨w.heap.size + 1, 4, none⟩ (.int .i64 L1)).setCell ⟨w.heap.size + 1, 8, none⟩ (.int .i64 L2)) (w.heap.size + 1) (exC { nd with ref := ⟨L1, nd.ref.col, nd.ref.pr, nd.ref.pc⟩, to := ⟨L2, nd.to.col, nd.to.pr, nd.to.pc⟩ } (.slice a len cap)) 29) := hide ((NB1.out.set 4 (.int .i64 L1)).set 8 (.int .i64 L2))
  have RB2 : Hid (Blk ((w1.setCell ⟨w.heap.size + 1, 4, none⟩ (.int .i64 L1)).setCell ⟨w.heap.size + 1, 8, none⟩ (.int .i64 L2)) (w.heap.size + 1 + 1) (exC nd0 (.slice none 0 0)) 29) := hide (blk_other (blk_other RB1.out (by omega)) (by omega))
  obtain ⟨w2, hw2⟩ : ∃ w2, ((w1.setCell ⟨w.heap.size + 1, 4, none⟩ (.int .i64 L1)).setCell ⟨w.heap.size + 1, 8, none⟩ (.int .i64 L2)) = w2 := ⟨_, rfl⟩
  rw [hw2] at B2 MB2 NB2 RB2 ⊢
  clear hw2
  clear f4 f8
  clear m0 m1 m2 m3 m4 z0 z1 z2 z3 z4 z5 z6 z7 z8 z9 z10 z11 z12 z13
  refine (HG.out w2).mono ?_
  rintro e w3 ⟨rfl, hb⟩
  have B3 := hide (next B2.out hb)
  have MB3 := hide (MB2.out.keep hb)
  have NB3 := hide (NB2.out.keep hb)
  have RB3 := hide (RB2.out.keep hb)
  clear hb
  go_wp2_with fail
  refine (rlost_any w3).mono ?_
  rintro e w4 ⟨rfl, hb⟩
  have B4 := hide (next B3.out hb)
  have MB4 := hide (MB3.out.keep hb)
  have NB4 := hide (NB3.out.keep hb)
  have RB4 := hide (RB3.out.keep hb)
  clear hb
  go_wp2_with (have hst := RB4.out; refine wpList_store_row rfl 29 _ _ rfl _ (exC lostN (.slice none 0 0)) rfl rfl 29 _ hst (exC_info _ _) (by rfl) (exC_one _ _ _ _) ?_)
  have F3 := RB4.out.setRow (cs := exC lostN (.slice none 0 0))
  refine bodyPost_ret (v := exV lostN (.slice none 0 0)) (results_cell_row Try.results47 _ _ (w.heap.size + 1 + 1) 29 (exC lostN (.slice none 0 0)) (0, 0) _ rfl F3 Try.underlying29 rfl (exC_info _ _)) rfl ?_
  exact ⟨rfl, below_setRow B4.out (by omega) _⟩
set_option maxHeartbeats 2000000 in
set_option maxRecDepth 100000 in
theorem double_3o (dr dc t n : Int) (nd : Nd) (a : Option Addr) (len cap : Nat) (w : World) (hr : mayB nd.ref.row nd.ref.col = true) (hs : mayB nd.to.row nd.to.col = true) (t0 : 0 ≤ t) (t1 : t < 702) (hq : (outR t n nd.ref.col 702 && outR t n nd.to.col 702) = true) : Calls Try.prog 47 #[mvV 3 dr dc t n, exV nd (.slice a len cap)] w fun e w' => e = .returned (exV lostN (.slice none 0 0)) ∧ Below w.heap.size w w' := by
  have hr := mayB_iff.1 hr
  have hs := mayB_iff.1 hs
  have HE := hide (rends_yes 3 dr dc t n nd.ref.col nd.to.col 702 t0 t1 (by omega) (by omega) (by omega) (by omega) (by omega) (by omega) hq)
  clear hr hs hq
  have MB0 := hide (((Blk.new w #[.int .i64 3, .int .i64 dr, .int .i64 dc, .int .i64 t, .int .i64 n] 64).alloc (exO nd (.slice a len cap))).alloc (exO nd0 (.slice none 0 0)))
  have NB0 := hide ((Blk.new1 w (.cells #[.int .i64 3, .int .i64 dr, .int .i64 dc, .int .i64 t, .int .i64 n] 64) (exC nd (.slice a len cap)) 29).alloc (exO nd0 (.slice none 0 0)))
  have RB0 := hide (Blk.new2 w (.cells #[.int .i64 3, .int .i64 dr, .int .i64 dc, .int .i64 t, .int .i64 n] 64) (exO nd (.slice a len cap)) (exC nd0 (.slice none 0 0)) 29)
  have B0 := hide (step (step (step (Below.refl w.heap.size w) (.cells #[.int .i64 3, .int .i64 dr, .int .i64 dc, .int .i64 t, .int .i64 n] 64)) (exO nd (.slice a len cap))) (exO nd0 (.slice none 0 0)))
  obtain ⟨w0, hw0⟩ : ∃ w0, ((w.alloc (.cells #[.int .i64 3, .int .i64 dr, .int .i64 dc, .int .i64 t, .int .i64 n] 64)).alloc (exO nd (.slice a len cap))).alloc (.cells #[.int .i64 0, .int .i64 0, .int .i64 0, .string { data := #[] }, .int .i64 0, .int .i64 0, .bool false, .bool false, .int .i64 0, .int .i64 0, .bool false, .bool false, .int .i64 0, .slice none 0 0] 29) = w0 := ⟨_, rfl⟩
  replace MB0 : Hid (Blk w0 w.heap.size #[.int .i64 3, .int .i64 dr, .int .i64 dc, .int .i64 t, .int .i64 n] 64) := by rw [← hw0]; exact MB0
  replace NB0 : Hid (Blk w0 (w.heap.size + 1) (exC nd (.slice a len cap)) 29) := by rw [← hw0]; exact NB0
  replace RB0 : Hid (Blk w0 (w.heap.size + 1 + 1) (exC nd0 (.slice none 0 0)) 29) := by rw [← hw0]; exact RB0
  replace B0 : Hid (Below w.heap.size w w0) := by rw [← hw0]; exact B0
  have m0 : w0.cell? ⟨w.heap.size, 0, none⟩ = some (.int .i64 3) := MB0.out.at' 0
  have m1 : w0.cell? ⟨w.heap.size, 1, none⟩ = some (.int .i64 dr) := MB0.out.at' 1
  have m2 : w0.cell? ⟨w.heap.size, 2, none⟩ = some (.int .i64 dc) := MB0.out.at' 2
  have m3 : w0.cell? ⟨w.heap.size, 3, none⟩ = some (.int .i64 t) := MB0.out.at' 3
  have m4 : w0.cell? ⟨w.heap.size, 4, none⟩ = some (.int .i64 n) := MB0.out.at' 4
  obtain ⟨z0, z1, z2, z3, z4, z5, z6, z7, z8, z9, z10, z11, z12, z13⟩ := NB0.out.c14
  try dsimp only at z0 z1 z2 z3 z4 z5 z6 z7 z8 z9 z10 z11 z12 z13
  go_enter Try.func47, Try.ntmps47
  go_wp2_with fail
  clear hw0
  refine (HE.out w0).mono ?_
  rintro e w1 ⟨rfl, hb⟩
  have B1 := hide (next B0.out hb)
  have MB1 := hide (MB0.out.keep hb)
  have NB1 := hide (NB0.out.keep hb)
  have RB1 := hide (RB0.out.keep hb)
  clear hb
  clear m0 m1 m2 m3 m4 z0 z1 z2 z3 z4 z5 z6 z7 z8 z9 z10 z11 z12 z13
  have m0 : w1.cell? ⟨w.heap.size, 0, none⟩ = some (.int .i64 3) := MB1.out.at' 0
  have m1 : w1.cell? ⟨w.heap.size, 1, none⟩ = some (.int .i64 dr) := MB1.out.at' 1
  have m2 : w1.cell? ⟨w.heap.size, 2, none⟩ = some (.int .i64 dc) := MB1.out.at' 2
  have m3 : w1.cell? ⟨w.heap.size, 3, none⟩ = some (.int .i64 t) := MB1.out.at' 3
  have m4 : w1.cell? ⟨w.heap.size, 4, none⟩ = some (.int .i64 n) := MB1.out.at' 4
  obtain ⟨z0, z1, z2, z3, z4, z5, z6, z7, z8, z9, z10, z11, z12, z13⟩ := NB1.out.c14
  try dsimp only at z0 z1 z2 z3 z4 z5 z6 z7 z8 z9 z10 z11 z12 z13
  have f4 := NB1.out.fr 5
  have f8 := NB1.out.fr 9
  go_wp2_with fail
  have B2 : Hid (Below w.heap.size w ((w1.setCell ⟨w.heap.size + 1, 5, none⟩ (.int .i64 0)).setCell ⟨w.heap.size + 1, 9, none⟩ (.int .i64 0))) := hide ((B1.out.setCell (p := ⟨w.heap.size + 1, 5, none⟩) (by simp) _).setCell (p := ⟨w.heap.size + 1, 9, none⟩) (by simp) _)
  have MB2 : Hid (Blk ((w1.setCell ⟨w.heap.size + 1, 5, none⟩ (.int .i64 0)).setCell ⟨w.heap.size + 1, 9, none⟩ (.int .i64 0)) w.heap.size #[.int .i64 3, .int .i64 dr, .int .i64 dc, .int .i64 t, .int .i64 n] 64) := hide (blk_other (blk_other MB1.out (by omega)) (by omega))
  have NB2 : Hid (Blk ((w1.setCell ⟨w.heap.size + 1, 5, none⟩ (.int .i64 0)).setCell ⟨w.heap.size + 1, 9, none⟩ (.int .i64 0)) (w.heap.size + 1) (exC { nd with ref := ⟨nd.ref.row, 0, nd.ref.pr, nd.ref.pc⟩, to := ⟨nd.to.row, 0, nd.to.pr, nd.to.pc⟩ } (.slice a len cap)) 29) := hide ((NB1.out.set 5 (.int .i64 0)).set 9 (.int .i64 0))
  have RB2 : Hid (Blk ((w1.setCell ⟨w.heap.size + 1, 5, none⟩ (.int .i64 0)).setCell ⟨w.heap.size + 1, 9, none⟩ (.int .i64 0)) (w.heap.size + 1 + 1) (exC nd0 (.slice none 0 0)) 29) := hide (blk_other (blk_other RB1.out (by omega)) (by omega))
  obtain ⟨w2, hw2⟩ : ∃ w2, ((w1.setCell ⟨w.heap.size + 1, 5, none⟩ (.int .i64 0)).setCell ⟨w.heap.size + 1, 9, none⟩ (.int .i64 0)) = w2 := ⟨_, rfl⟩
  rw [hw2] at B2 MB2 NB2 RB2 ⊢
  clear hw2
  clear f4 f8
  clear m0 m1 m2 m3 m4 z0 z1 z2 z3 z4 z5 z6 z7 z8 z9 z10 z11 z12 z13
  refine (rlost_any w2).mono ?_
  rintro e w3 ⟨rfl, hb⟩
  have B3 := hide (next B2.out hb)
  have MB3 := hide (MB2.out.keep hb)
  have NB3 := hide (NB2.out.keep hb)
  have RB3 := hide (RB2.out.keep hb)
  clear hb
  go_wp2_with (have hst := RB3.out; refine wpList_store_row rfl 29 _ _ rfl _ (exC lostN (.slice none 0 0)) rfl rfl 29 _ hst (exC_info _ _) (by rfl) (exC_one _ _ _ _) ?_)
  have F3 := RB3.out.setRow (cs := exC lostN (.slice none 0 0))
  refine bodyPost_ret (v := exV lostN (.slice none 0 0)) (results_cell_row Try.results47 _ _ (w.heap.size + 1 + 1) 29 (exC lostN (.slice none 0 0)) (0, 0) _ rfl F3 Try.underlying29 rfl (exC_info _ _)) rfl ?_
  exact ⟨rfl, below_setRow B3.out (by omega) _⟩
set_option maxHeartbeats 2000000 in
set_option maxRecDepth 100000 in
theorem double_3tt (dr dc t n : Int) (nd : Nd) (a : Option Addr) (len cap : Nat) (w : World) (hr : mayB nd.ref.row nd.ref.col = true) (hs : mayB nd.to.row nd.to.col = true) (t0 : 0 ≤ t) (t1 : t < 702) (hq : (outR t n nd.ref.col 702 && outR t n nd.to.col 702) = false) (hg : mayB { nd with ref := ⟨nd.ref.row, (endA t n nd.ref.col nd.to.col 702), nd.ref.pr, nd.ref.pc⟩, to := ⟨nd.to.row, (endA t n nd.to.col nd.ref.col 702), nd.to.pr, nd.to.pc⟩ }.ref.row { nd with ref := ⟨nd.ref.row, (endA t n nd.ref.col nd.to.col 702), nd.ref.pr, nd.ref.pc⟩, to := ⟨nd.to.row, (endA t n nd.to.col nd.ref.col 702), nd.to.pr, nd.to.pc⟩ }.ref.col = true) (hg2 : mayB { nd with ref := ⟨nd.ref.row, (endA t n nd.ref.col nd.to.col 702), nd.ref.pr, nd.ref.pc⟩, to := ⟨nd.to.row, (endA t n nd.to.col nd.ref.col 702), nd.to.pr, nd.to.pc⟩ }.to.row { nd with ref := ⟨nd.ref.row, (endA t n nd.ref.col nd.to.col 702), nd.ref.pr, nd.ref.pc⟩, to := ⟨nd.to.row, (endA t n nd.to.col nd.ref.col 702), nd.to.pr, nd.to.pc⟩ }.to.col = true) : Calls Try.prog 47 #[mvV 3 dr dc t n, exV nd (.slice a len cap)] w fun e w' => e = .returned (exV { nd with ref := ⟨nd.ref.row, (endA t n nd.ref.col nd.to.col 702), nd.ref.pr, nd.ref.pc⟩, to := ⟨nd.to.row, (endA t n nd.to.col nd.ref.col 702), nd.to.pr, nd.to.pc⟩ } (.slice a len cap)) ∧ Below w.heap.size w w' := by
  have hr := mayB_iff.1 hr
  have hs := mayB_iff.1 hs
  have HE := hide (rends_no 3 dr dc t n nd.ref.col nd.to.col 702 t0 t1 (by omega) (by omega) (by omega) (by omega) (by omega) (by omega) hq)
  have HG := hide (ron_any { nd with ref := ⟨nd.ref.row, (endA t n nd.ref.col nd.to.col 702), nd.ref.pr, nd.ref.pc⟩, to := ⟨nd.to.row, (endA t n nd.to.col nd.ref.col 702), nd.to.pr, nd.to.pc⟩ }.ref)
  rw [hg] at HG
  dsimp only at HG
  have HG2 := hide (ron_any { nd with ref := ⟨nd.ref.row, (endA t n nd.ref.col nd.to.col 702), nd.ref.pr, nd.ref.pc⟩, to := ⟨nd.to.row, (endA t n nd.to.col nd.ref.col 702), nd.to.pr, nd.to.pc⟩ }.to)
  rw [hg2] at HG2
  dsimp only at HG2
  clear hg2
  clear hr hs hq hg
  generalize endA t n nd.ref.col nd.to.col 702 = L1 at *
  generalize endA t n nd.to.col nd.ref.col 702 = L2 at *
  have MB0 := hide (((Blk.new w #[.int .i64 3, .int .i64 dr, .int .i64 dc, .int .i64 t, .int .i64 n] 64).alloc (exO nd (.slice a len cap))).alloc (exO nd0 (.slice none 0 0)))
  have NB0 := hide ((Blk.new1 w (.cells #[.int .i64 3, .int .i64 dr, .int .i64 dc, .int .i64 t, .int .i64 n] 64) (exC nd (.slice a len cap)) 29).alloc (exO nd0 (.slice none 0 0)))
  have RB0 := hide (Blk.new2 w (.cells #[.int .i64 3, .int .i64 dr, .int .i64 dc, .int .i64 t, .int .i64 n] 64) (exO nd (.slice a len cap)) (exC nd0 (.slice none 0 0)) 29)
  have B0 := hide (step (step (step (Below.refl w.heap.size w) (.cells #[.int .i64 3, .int .i64 dr, .int .i64 dc, .int .i64 t, .int .i64 n] 64)) (exO nd (.slice a len cap))) (exO nd0 (.slice none 0 0)))
  obtain ⟨w0, hw0⟩ : ∃ w0, ((w.alloc (.cells #[.int .i64 3, .int .i64 dr, .int .i64 dc, .int .i64 t, .int .i64 n] 64)).alloc (exO nd (.slice a len cap))).alloc (.cells #[.int .i64 0, .int .i64 0, .int .i64 0, .string { data := #[] }, .int .i64 0, .int .i64 0, .bool false, .bool false, .int .i64 0, .int .i64 0, .bool false, .bool false, .int .i64 0, .slice none 0 0] 29) = w0 := ⟨_, rfl⟩
  replace MB0 : Hid (Blk w0 w.heap.size #[.int .i64 3, .int .i64 dr, .int .i64 dc, .int .i64 t, .int .i64 n] 64) := by rw [← hw0]; exact MB0
  replace NB0 : Hid (Blk w0 (w.heap.size + 1) (exC nd (.slice a len cap)) 29) := by rw [← hw0]; exact NB0
  replace RB0 : Hid (Blk w0 (w.heap.size + 1 + 1) (exC nd0 (.slice none 0 0)) 29) := by rw [← hw0]; exact RB0
  replace B0 : Hid (Below w.heap.size w w0) := by rw [← hw0]; exact B0
  have m0 : w0.cell? ⟨w.heap.size, 0, none⟩ = some (.int .i64 3) := MB0.out.at' 0
  have m1 : w0.cell? ⟨w.heap.size, 1, none⟩ = some (.int .i64 dr) := MB0.out.at' 1
  have m2 : w0.cell? ⟨w.heap.size, 2, none⟩ = some (.int .i64 dc) := MB0.out.at' 2
  have m3 : w0.cell? ⟨w.heap.size, 3, none⟩ = some (.int .i64 t) := MB0.out.at' 3
  have m4 : w0.cell? ⟨w.heap.size, 4, none⟩ = some (.int .i64 n) := MB0.out.at' 4
  obtain ⟨z0, z1, z2, z3, z4, z5, z6, z7, z8, z9, z10, z11, z12, z13⟩ := NB0.out.c14
  try dsimp only at z0 z1 z2 z3 z4 z5 z6 z7 z8 z9 z10 z11 z12 z13
  go_enter Try.func47, Try.ntmps47
  go_wp2_with fail
  clear hw0
  refine (HE.out w0).mono ?_
  rintro e w1 ⟨rfl, hb⟩
  have B1 := hide (next B0.out hb)
  have MB1 := hide (MB0.out.keep hb)
  have NB1 := hide (NB0.out.keep hb)
  have RB1 := hide (RB0.out.keep hb)
  clear hb
  clear m0 m1 m2 m3 m4 z0 z1 z2 z3 z4 z5 z6 z7 z8 z9 z10 z11 z12 z13
  have m0 : w1.cell? ⟨w.heap.size, 0, none⟩ = some (.int .i64 3) := MB1.out.at' 0
  have m1 : w1.cell? ⟨w.heap.size, 1, none⟩ = some (.int .i64 dr) := MB1.out.at' 1
  have m2 : w1.cell? ⟨w.heap.size, 2, none⟩ = some (.int .i64 dc) := MB1.out.at' 2
  have m3 : w1.cell? ⟨w.heap.size, 3, none⟩ = some (.int .i64 t) := MB1.out.at' 3
  have m4 : w1.cell? ⟨w.heap.size, 4, none⟩ = some (.int .i64 n) := MB1.out.at' 4
  obtain ⟨z0, z1, z2, z3, z4, z5, z6, z7, z8, z9, z10, z11, z12, z13⟩ := NB1.out.c14
  try dsimp only at z0 z1 z2 z3 z4 z5 z6 z7 z8 z9 z10 z11 z12 z13
  have f4 := NB1.out.fr 5
  have f8 := NB1.out.fr 9
  go_wp2_with fail
  have B2 : Hid (Below w.heap.size w ((w1.setCell ⟨w.heap.size + 1, 5, none⟩ (.int .i64 L1)).setCell ⟨w.heap.size + 1, 9, none⟩ (.int .i64 L2))) := hide ((B1.out.setCell (p := ⟨w.heap.size + 1, 5, none⟩) (by simp) _).setCell (p := ⟨w.heap.size + 1, 9, none⟩) (by simp) _)
  have MB2 : Hid (Blk ((w1.setCell ⟨w.heap.size + 1, 5, none⟩ (.int .i64 L1)).setCell ⟨w.heap.size + 1, 9, none⟩ (.int .i64 L2)) w.heap.size #[.int .i64 3, .int .i64 dr, .int .i64 dc, .int .i64 t, .int .i64 n] 64) := hide (blk_other (blk_other MB1.out (by omega)) (by omega))
  have NB2 : Hid (Blk ((w1.setCell ⟨w.heap.size + 1, 5, none⟩ (.int .i64 L1)).setCell ⟨w.heap.size + 1, 9, none⟩ (.int .i64 L2)) (w.heap.size + 1) (exC { nd with ref := ⟨nd.ref.row, L1, nd.ref.pr, nd.ref.pc⟩, to := ⟨nd.to.row, L2, nd.to.pr, nd.to.pc⟩ } (.slice a len cap)) 29) := hide ((NB1.out.set 5 (.int .i64 L1)).set 9 (.int .i64 L2))
  have RB2 : Hid (Blk ((w1.setCell ⟨w.heap.size + 1, 5, none⟩ (.int .i64 L1)).setCell ⟨w.heap.size + 1, 9, none⟩ (.int .i64 L2)) (w.heap.size + 1 + 1) (exC nd0 (.slice none 0 0)) 29) := hide (blk_other (blk_other RB1.out (by omega)) (by omega))
  obtain ⟨w2, hw2⟩ : ∃ w2, ((w1.setCell ⟨w.heap.size + 1, 5, none⟩ (.int .i64 L1)).setCell ⟨w.heap.size + 1, 9, none⟩ (.int .i64 L2)) = w2 := ⟨_, rfl⟩
  rw [hw2] at B2 MB2 NB2 RB2 ⊢
  clear hw2
  clear f4 f8
  clear m0 m1 m2 m3 m4 z0 z1 z2 z3 z4 z5 z6 z7 z8 z9 z10 z11 z12 z13
  refine (HG.out w2).mono ?_
  rintro e w3 ⟨rfl, hb⟩
  have B3 := hide (next B2.out hb)
  have MB3 := hide (MB2.out.keep hb)
  have NB3 := hide (NB2.out.keep hb)
  have RB3 := hide (RB2.out.keep hb)
  clear hb
  obtain ⟨-, -, -, -, y4, y5, y6, y7, y8, y9, y10, y11, -, -⟩ := NB3.out.c14
  dsimp only at y4 y5 y6 y7 y8 y9 y10 y11
  go_wp2_with fail
  refine (HG2.out w3).mono ?_
  rintro e w4 ⟨rfl, hb⟩
  have B4 := hide (next B3.out hb)
  have MB4 := hide (MB3.out.keep hb)
  have NB4 := hide (NB3.out.keep hb)
  have RB4 := hide (RB3.out.keep hb)
  clear hb
  clear y4 y5 y6 y7 y8 y9 y10 y11
  go_wp2_with (first
    | (refine wpList_load_blk rfl 29 _ rfl _ rfl _ (by with_reducible exact NB4.out) _ Try.underlying29 rfl (exC_info _ _) ?_)
    | (have hst := RB4.out; refine wpList_store_row rfl 29 _ _ rfl _ (exC { nd with ref := ⟨nd.ref.row, L1, nd.ref.pr, nd.ref.pc⟩, to := ⟨nd.to.row, L2, nd.to.pr, nd.to.pc⟩ } (.slice a len cap)) rfl rfl 29 _ hst (exC_info _ _) (by rfl) (exC_one _ _ _ _) ?_))
  have F3 := RB4.out.setRow (cs := exC { nd with ref := ⟨nd.ref.row, L1, nd.ref.pr, nd.ref.pc⟩, to := ⟨nd.to.row, L2, nd.to.pr, nd.to.pc⟩ } (.slice a len cap))
  refine bodyPost_ret (v := exV { nd with ref := ⟨nd.ref.row, L1, nd.ref.pr, nd.ref.pc⟩, to := ⟨nd.to.row, L2, nd.to.pr, nd.to.pc⟩ } (.slice a len cap)) (results_cell_row Try.results47 _ _ (w.heap.size + 1 + 1) 29 (exC { nd with ref := ⟨nd.ref.row, L1, nd.ref.pr, nd.ref.pc⟩, to := ⟨nd.to.row, L2, nd.to.pr, nd.to.pc⟩ } (.slice a len cap)) (0, 0) _ rfl F3 Try.underlying29 rfl (exC_info _ _)) rfl ?_
  exact ⟨rfl, below_setRow B4.out (by omega) _⟩
set_option maxHeartbeats 2000000 in
set_option maxRecDepth 100000 in
theorem double_3tf (dr dc t n : Int) (nd : Nd) (a : Option Addr) (len cap : Nat) (w : World) (hr : mayB nd.ref.row nd.ref.col = true) (hs : mayB nd.to.row nd.to.col = true) (t0 : 0 ≤ t) (t1 : t < 702) (hq : (outR t n nd.ref.col 702 && outR t n nd.to.col 702) = false) (hg : mayB { nd with ref := ⟨nd.ref.row, (endA t n nd.ref.col nd.to.col 702), nd.ref.pr, nd.ref.pc⟩, to := ⟨nd.to.row, (endA t n nd.to.col nd.ref.col 702), nd.to.pr, nd.to.pc⟩ }.ref.row { nd with ref := ⟨nd.ref.row, (endA t n nd.ref.col nd.to.col 702), nd.ref.pr, nd.ref.pc⟩, to := ⟨nd.to.row, (endA t n nd.to.col nd.ref.col 702), nd.to.pr, nd.to.pc⟩ }.ref.col = true) (hg2 : mayB { nd with ref := ⟨nd.ref.row, (endA t n nd.ref.col nd.to.col 702), nd.ref.pr, nd.ref.pc⟩, to := ⟨nd.to.row, (endA t n nd.to.col nd.ref.col 702), nd.to.pr, nd.to.pc⟩ }.to.row { nd with ref := ⟨nd.ref.row, (endA t n nd.ref.col nd.to.col 702), nd.ref.pr, nd.ref.pc⟩, to := ⟨nd.to.row, (endA t n nd.to.col nd.ref.col 702), nd.to.pr, nd.to.pc⟩ }.to.col = false) : Calls Try.prog 47 #[mvV 3 dr dc t n, exV nd (.slice a len cap)] w fun e w' => e = .returned (exV lostN (.slice none 0 0)) ∧ Below w.heap.size w w' := by
  have hr := mayB_iff.1 hr
  have hs := mayB_iff.1 hs
  have HE := hide (rends_no 3 dr dc t n nd.ref.col nd.to.col 702 t0 t1 (by omega) (by omega) (by omega) (by omega) (by omega) (by omega) hq)
  have HG := hide (ron_any { nd with ref := ⟨nd.ref.row, (endA t n nd.ref.col nd.to.col 702), nd.ref.pr, nd.ref.pc⟩, to := ⟨nd.to.row, (endA t n nd.to.col nd.ref.col 702), nd.to.pr, nd.to.pc⟩ }.ref)
  rw [hg] at HG
  dsimp only at HG
  have HG2 := hide (ron_any { nd with ref := ⟨nd.ref.row, (endA t n nd.ref.col nd.to.col 702), nd.ref.pr, nd.ref.pc⟩, to := ⟨nd.to.row, (endA t n nd.to.col nd.ref.col 702), nd.to.pr, nd.to.pc⟩ }.to)
  rw [hg2] at HG2
  dsimp only at HG2
  clear hg2
  clear hr hs hq hg
  generalize endA t n nd.ref.col nd.to.col 702 = L1 at *
  generalize endA t n nd.to.col nd.ref.col 702 = L2 at *
  have MB0 := hide (((Blk.new w #[.int .i64 3, .int .i64 dr, .int .i64 dc, .int .i64 t, .int .i64 n] 64).alloc (exO nd (.slice a len cap))).alloc (exO nd0 (.slice none 0 0)))
  have NB0 := hide ((Blk.new1 w (.cells #[.int .i64 3, .int .i64 dr, .int .i64 dc, .int .i64 t, .int .i64 n] 64) (exC nd (.slice a len cap)) 29).alloc (exO nd0 (.slice none 0 0)))
  have RB0 := hide (Blk.new2 w (.cells #[.int .i64 3, .int .i64 dr, .int .i64 dc, .int .i64 t, .int .i64 n] 64) (exO nd (.slice a len cap)) (exC nd0 (.slice none 0 0)) 29)
  have B0 := hide (step (step (step (Below.refl w.heap.size w) (.cells #[.int .i64 3, .int .i64 dr, .int .i64 dc, .int .i64 t, .int .i64 n] 64)) (exO nd (.slice a len cap))) (exO nd0 (.slice none 0 0)))
  obtain ⟨w0, hw0⟩ : ∃ w0, ((w.alloc (.cells #[.int .i64 3, .int .i64 dr, .int .i64 dc, .int .i64 t, .int .i64 n] 64)).alloc (exO nd (.slice a len cap))).alloc (.cells #[.int .i64 0, .int .i64 0, .int .i64 0, .string { data := #[] }, .int .i64 0, .int .i64 0, .bool false, .bool false, .int .i64 0, .int .i64 0, .bool false, .bool false, .int .i64 0, .slice none 0 0] 29) = w0 := ⟨_, rfl⟩
  replace MB0 : Hid (Blk w0 w.heap.size #[.int .i64 3, .int .i64 dr, .int .i64 dc, .int .i64 t, .int .i64 n] 64) := by rw [← hw0]; exact MB0
  replace NB0 : Hid (Blk w0 (w.heap.size + 1) (exC nd (.slice a len cap)) 29) := by rw [← hw0]; exact NB0
  replace RB0 : Hid (Blk w0 (w.heap.size + 1 + 1) (exC nd0 (.slice none 0 0)) 29) := by rw [← hw0]; exact RB0
  replace B0 : Hid (Below w.heap.size w w0) := by rw [← hw0]; exact B0
  have m0 : w0.cell? ⟨w.heap.size, 0, none⟩ = some (.int .i64 3) := MB0.out.at' 0
  have m1 : w0.cell? ⟨w.heap.size, 1, none⟩ = some (.int .i64 dr) := MB0.out.at' 1
  have m2 : w0.cell? ⟨w.heap.size, 2, none⟩ = some (.int .i64 dc) := MB0.out.at' 2
  have m3 : w0.cell? ⟨w.heap.size, 3, none⟩ = some (.int .i64 t) := MB0.out.at' 3
  have m4 : w0.cell? ⟨w.heap.size, 4, none⟩ = some (.int .i64 n) := MB0.out.at' 4
  obtain ⟨z0, z1, z2, z3, z4, z5, z6, z7, z8, z9, z10, z11, z12, z13⟩ := NB0.out.c14
  try dsimp only at z0 z1 z2 z3 z4 z5 z6 z7 z8 z9 z10 z11 z12 z13
  go_enter Try.func47, Try.ntmps47
  go_wp2_with fail
  clear hw0
  refine (HE.out w0).mono ?_
  rintro e w1 ⟨rfl, hb⟩
  have B1 := hide (next B0.out hb)
  have MB1 := hide (MB0.out.keep hb)
  have NB1 := hide (NB0.out.keep hb)
  have RB1 := hide (RB0.out.keep hb)
  clear hb
  clear m0 m1 m2 m3 m4 z0 z1 z2 z3 z4 z5 z6 z7 z8 z9 z10 z11 z12 z13
  have m0 : w1.cell? ⟨w.heap.size, 0, none⟩ = some (.int .i64 3) := MB1.out.at' 0
  have m1 : w1.cell? ⟨w.heap.size, 1, none⟩ = some (.int .i64 dr) := MB1.out.at' 1
  have m2 : w1.cell? ⟨w.heap.size, 2, none⟩ = some (.int .i64 dc) := MB1.out.at' 2
  have m3 : w1.cell? ⟨w.heap.size, 3, none⟩ = some (.int .i64 t) := MB1.out.at' 3
  have m4 : w1.cell? ⟨w.heap.size, 4, none⟩ = some (.int .i64 n) := MB1.out.at' 4
  obtain ⟨z0, z1, z2, z3, z4, z5, z6, z7, z8, z9, z10, z11, z12, z13⟩ := NB1.out.c14
  try dsimp only at z0 z1 z2 z3 z4 z5 z6 z7 z8 z9 z10 z11 z12 z13
  have f4 := NB1.out.fr 5
  have f8 := NB1.out.fr 9
  go_wp2_with fail
  have B2 : Hid (Below w.heap.size w ((w1.setCell ⟨w.heap.size + 1, 5, none⟩ (.int .i64 L1)).setCell ⟨w.heap.size + 1, 9, none⟩ (.int .i64 L2))) := hide ((B1.out.setCell (p := ⟨w.heap.size + 1, 5, none⟩) (by simp) _).setCell (p := ⟨w.heap.size + 1, 9, none⟩) (by simp) _)
  have MB2 : Hid (Blk ((w1.setCell ⟨w.heap.size + 1, 5, none⟩ (.int .i64 L1)).setCell ⟨w.heap.size + 1, 9, none⟩ (.int .i64 L2)) w.heap.size #[.int .i64 3, .int .i64 dr, .int .i64 dc, .int .i64 t, .int .i64 n] 64) := hide (blk_other (blk_other MB1.out (by omega)) (by omega))
  have NB2 : Hid (Blk ((w1.setCell ⟨w.heap.size + 1, 5, none⟩ (.int .i64 L1)).setCell ⟨w.heap.size + 1, 9, none⟩ (.int .i64 L2)) (w.heap.size + 1) (exC { nd with ref := ⟨nd.ref.row, L1, nd.ref.pr, nd.ref.pc⟩, to := ⟨nd.to.row, L2, nd.to.pr, nd.to.pc⟩ } (.slice a len cap)) 29) := hide ((NB1.out.set 5 (.int .i64 L1)).set 9 (.int .i64 L2))
  have RB2 : Hid (Blk ((w1.setCell ⟨w.heap.size + 1, 5, none⟩ (.int .i64 L1)).setCell ⟨w.heap.size + 1, 9, none⟩ (.int .i64 L2)) (w.heap.size + 1 + 1) (exC nd0 (.slice none 0 0)) 29) := hide (blk_other (blk_other RB1.out (by omega)) (by omega))
  obtain ⟨w2, hw2⟩ : ∃ w2, ((w1.setCell ⟨w.heap.size + 1, 5, none⟩ (.int .i64 L1)).setCell ⟨w.heap.size + 1, 9, none⟩ (.int .i64 L2)) = w2 := ⟨_, rfl⟩
  rw [hw2] at B2 MB2 NB2 RB2 ⊢
  clear hw2
  clear f4 f8
  clear m0 m1 m2 m3 m4 z0 z1 z2 z3 z4 z5 z6 z7 z8 z9 z10 z11 z12 z13
  refine (HG.out w2).mono ?_
  rintro e w3 ⟨rfl, hb⟩
  have B3 := hide (next B2.out hb)
  have MB3 := hide (MB2.out.keep hb)
  have NB3 := hide (NB2.out.keep hb)
  have RB3 := hide (RB2.out.keep hb)
  clear hb
  obtain ⟨-, -, -, -, y4, y5, y6, y7, y8, y9, y10, y11, -, -⟩ := NB3.out.c14
  dsimp only at y4 y5 y6 y7 y8 y9 y10 y11
  go_wp2_with fail
  refine (HG2.out w3).mono ?_
  rintro e w4 ⟨rfl, hb⟩
  have B4 := hide (next B3.out hb)
  have MB4 := hide (MB3.out.keep hb)
  have NB4 := hide (NB3.out.keep hb)
  have RB4 := hide (RB3.out.keep hb)
  clear hb
  clear y4 y5 y6 y7 y8 y9 y10 y11
  go_wp2_with fail
  refine (rlost_any w4).mono ?_
  rintro e w5 ⟨rfl, hb⟩
  have B5 := hide (next B4.out hb)
  have MB5 := hide (MB4.out.keep hb)
  have NB5 := hide (NB4.out.keep hb)
  have RB5 := hide (RB4.out.keep hb)
  clear hb
  go_wp2_with (have hst := RB5.out; refine wpList_store_row rfl 29 _ _ rfl _ (exC lostN (.slice none 0 0)) rfl rfl 29 _ hst (exC_info _ _) (by rfl) (exC_one _ _ _ _) ?_)
  have F3 := RB5.out.setRow (cs := exC lostN (.slice none 0 0))
  refine bodyPost_ret (v := exV lostN (.slice none 0 0)) (results_cell_row Try.results47 _ _ (w.heap.size + 1 + 1) 29 (exC lostN (.slice none 0 0)) (0, 0) _ rfl F3 Try.underlying29 rfl (exC_info _ _)) rfl ?_
  exact ⟨rfl, below_setRow B5.out (by omega) _⟩
set_option maxHeartbeats 2000000 in
set_option maxRecDepth 100000 in
theorem double_3f (dr dc t n : Int) (nd : Nd) (a : Option Addr) (len cap : Nat) (w : World) (hr : mayB nd.ref.row nd.ref.col = true) (hs : mayB nd.to.row nd.to.col = true) (t0 : 0 ≤ t) (t1 : t < 702) (hq : (outR t n nd.ref.col 702 && outR t n nd.to.col 702) = false) (hg : mayB { nd with ref := ⟨nd.ref.row, (endA t n nd.ref.col nd.to.col 702), nd.ref.pr, nd.ref.pc⟩, to := ⟨nd.to.row, (endA t n nd.to.col nd.ref.col 702), nd.to.pr, nd.to.pc⟩ }.ref.row { nd with ref := ⟨nd.ref.row, (endA t n nd.ref.col nd.to.col 702), nd.ref.pr, nd.ref.pc⟩, to := ⟨nd.to.row, (endA t n nd.to.col nd.ref.col 702), nd.to.pr, nd.to.pc⟩ }.ref.col = false) : Calls Try.prog 47 #[mvV 3 dr dc t n, exV nd (.slice a len cap)] w fun e w' => e = .returned (exV lostN (.slice none 0 0)) ∧ Below w.heap.size w w' := by
  have hr := mayB_iff.1 hr
  have hs := mayB_iff.1 hs
  have HE := hide (rends_no 3 dr dc t n nd.ref.col nd.to.col 702 t0 t1 (by omega) (by omega) (by omega) (by omega) (by omega) (by omega) hq)
  have HG := hide (ron_any { nd with ref := ⟨nd.ref.row, (endA t n nd.ref.col nd.to.col 702), nd.ref.pr, nd.ref.pc⟩, to := ⟨nd.to.row, (endA t n nd.to.col nd.ref.col 702), nd.to.pr, nd.to.pc⟩ }.ref)
  rw [hg] at HG
  dsimp only at HG
  clear hr hs hq hg
  generalize endA t n nd.ref.col nd.to.col 702 = L1 at *
  generalize endA t n nd.to.col nd.ref.col 702 = L2 at *
  have MB0 := hide (((Blk.new w #[.int .i64 3, .int .i64 dr, .int .i64 dc, .int .i64 t, .int .i64 n] 64).alloc (exO nd (.slice a len cap))).alloc (exO nd0 (.slice none 0 0)))
  have NB0 := hide ((Blk.new1 w (.cells #[.int .i64 3, .int .i64 dr, .int .i64 dc, .int .i64 t, .int .i64 n] 64) (exC nd (.slice a len cap)) 29).alloc (exO nd0 (.slice none 0 0)))
  have RB0 := hide (Blk.new2 w (.cells #[.int .i64 3, .int .i64 dr, .int .i64 dc, .int .i64 t, .int .i64 n] 64) (exO nd (.slice a len cap)) (exC nd0 (.slice none 0 0)) 29)
  have B0 := hide (step (step (step (Below.refl w.heap.size w) (.cells #[.int .i64 3, .int .i64 dr, .int .i64 dc, .int .i64 t, .int .i64 n] 64)) (exO nd (.slice a len cap))) (exO nd0 (.slice none 0 0)))
  obtain ⟨w0, hw0⟩ : ∃ w0, ((w.alloc (.cells #[.int .i64 3, .int .i64 dr, .int .i64 dc, .int .i64 t, .int .i64 n] 64)).alloc (exO nd (.slice a len cap))).alloc (.cells #[.int .i64 0, .int .i64 0, .int .i64 0, .string { data := #[] }, .int .i64 0, .int .i64 0, .bool false, .bool false, .int .i64 0, .int .i64 0, .bool false, .bool false, .int .i64 0, .slice none 0 0] 29) = w0 := ⟨_, rfl⟩
  replace MB0 : Hid (Blk w0 w.heap.size #[.int .i64 3, .int .i64 dr, .int .i64 dc, .int .i64 t, .int .i64 n] 64) := by rw [← hw0]; exact MB0
  replace NB0 : Hid (Blk w0 (w.heap.size + 1) (exC nd (.slice a len cap)) 29) := by rw [← hw0]; exact NB0
  replace RB0 : Hid (Blk w0 (w.heap.size + 1 + 1) (exC nd0 (.slice none 0 0)) 29) := by rw [← hw0]; exact RB0
  replace B0 : Hid (Below w.heap.size w w0) := by rw [← hw0]; exact B0
  have m0 : w0.cell? ⟨w.heap.size, 0, none⟩ = some (.int .i64 3) := MB0.out.at' 0
  have m1 : w0.cell? ⟨w.heap.size, 1, none⟩ = some (.int .i64 dr) := MB0.out.at' 1
  have m2 : w0.cell? ⟨w.heap.size, 2, none⟩ = some (.int .i64 dc) := MB0.out.at' 2
  have m3 : w0.cell? ⟨w.heap.size, 3, none⟩ = some (.int .i64 t) := MB0.out.at' 3
  have m4 : w0.cell? ⟨w.heap.size, 4, none⟩ = some (.int .i64 n) := MB0.out.at' 4
  obtain ⟨z0, z1, z2, z3, z4, z5, z6, z7, z8, z9, z10, z11, z12, z13⟩ := NB0.out.c14
  try dsimp only at z0 z1 z2 z3 z4 z5 z6 z7 z8 z9 z10 z11 z12 z13
  go_enter Try.func47, Try.ntmps47
  go_wp2_with fail
  clear hw0
  refine (HE.out w0).mono ?_
  rintro e w1 ⟨rfl, hb⟩
  have B1 := hide (next B0.out hb)
  have MB1 := hide (MB0.out.keep hb)
  have NB1 := hide (NB0.out.keep hb)
  have RB1 := hide (RB0.out.keep hb)
  clear hb
  clear m0 m1 m2 m3 m4 z0 z1 z2 z3 z4 z5 z6 z7 z8 z9 z10 z11 z12 z13
  have m0 : w1.cell? ⟨w.heap.size, 0, none⟩ = some (.int .i64 3) := MB1.out.at' 0
  have m1 : w1.cell? ⟨w.heap.size, 1, none⟩ = some (.int .i64 dr) := MB1.out.at' 1
  have m2 : w1.cell? ⟨w.heap.size, 2, none⟩ = some (.int .i64 dc) := MB1.out.at' 2
  have m3 : w1.cell? ⟨w.heap.size, 3, none⟩ = some (.int .i64 t) := MB1.out.at' 3
  have m4 : w1.cell? ⟨w.heap.size, 4, none⟩ = some (.int .i64 n) := MB1.out.at' 4
  obtain ⟨z0, z1, z2, z3, z4, z5, z6, z7, z8, z9, z10, z11, z12, z13⟩ := NB1.out.c14
  try dsimp only at z0 z1 z2 z3 z4 z5 z6 z7 z8 z9 z10 z11 z12 z13
  have f4 := NB1.out.fr 5
  have f8 := NB1.out.fr 9
  go_wp2_with fail
  have B2 : Hid (Below w.heap.size w ((w1.setCell ⟨w.heap.size + 1, 5, none⟩ (.int .i64 L1)).setCell ⟨w.heap.size + 1, 9, none⟩ (.int .i64 L2))) := hide ((B1.out.setCell (p := ⟨w.heap.size + 1, 5, none⟩) (by simp) _).setCell (p := ⟨w.heap.size + 1, 9, none⟩) (by simp) _)
  have MB2 : Hid (Blk ((w1.setCell ⟨w.heap.size + 1, 5, none⟩ (.int .i64 L1)).setCell ⟨w.heap.size + 1, 9, none⟩ (.int .i64 L2)) w.heap.size #[.int .i64 3, .int .i64 dr, .int .i64 dc, .int .i64 t, .int .i64 n] 64) := hide (blk_other (blk_other MB1.out (by omega)) (by omega))
  have NB2 : Hid (Blk ((w1.setCell ⟨w.heap.size + 1, 5, none⟩ (.int .i64 L1)).setCell ⟨w.heap.size + 1, 9, none⟩ (.int .i64 L2)) (w.heap.size + 1) (exC { nd with ref := ⟨nd.ref.row, L1, nd.ref.pr, nd.ref.pc⟩, to := ⟨nd.to.row, L2, nd.to.pr, nd.to.pc⟩ } (.slice a len cap)) 29) := hide ((NB1.out.set 5 (.int .i64 L1)).set 9 (.int .i64 L2))
  have RB2 : Hid (Blk ((w1.setCell ⟨w.heap.size + 1, 5, none⟩ (.int .i64 L1)).setCell ⟨w.heap.size + 1, 9, none⟩ (.int .i64 L2)) (w.heap.size + 1 + 1) (exC nd0 (.slice none 0 0)) 29) := hide (blk_other (blk_other RB1.out (by omega)) (by omega))
  obtain ⟨w2, hw2⟩ : ∃ w2, ((w1.setCell ⟨w.heap.size + 1, 5, none⟩ (.int .i64 L1)).setCell ⟨w.heap.size + 1, 9, none⟩ (.int .i64 L2)) = w2 := ⟨_, rfl⟩
  rw [hw2] at B2 MB2 NB2 RB2 ⊢
  clear hw2
  clear f4 f8
  clear m0 m1 m2 m3 m4 z0 z1 z2 z3 z4 z5 z6 z7 z8 z9 z10 z11 z12 z13
  refine (HG.out w2).mono ?_
  rintro e w3 ⟨rfl, hb⟩
  have B3 := hide (next B2.out hb)
  have MB3 := hide (MB2.out.keep hb)
  have NB3 := hide (NB2.out.keep hb)
  have RB3 := hide (RB2.out.keep hb)
  clear hb
  go_wp2_with fail
  refine (rlost_any w3).mono ?_
  rintro e w4 ⟨rfl, hb⟩
  have B4 := hide (next B3.out hb)
  have MB4 := hide (MB3.out.keep hb)
  have NB4 := hide (NB3.out.keep hb)
  have RB4 := hide (RB3.out.keep hb)
  clear hb
  go_wp2_with (have hst := RB4.out; refine wpList_store_row rfl 29 _ _ rfl _ (exC lostN (.slice none 0 0)) rfl rfl 29 _ hst (exC_info _ _) (by rfl) (exC_one _ _ _ _) ?_)
  have F3 := RB4.out.setRow (cs := exC lostN (.slice none 0 0))
  refine bodyPost_ret (v := exV lostN (.slice none 0 0)) (results_cell_row Try.results47 _ _ (w.heap.size + 1 + 1) 29 (exC lostN (.slice none 0 0)) (0, 0) _ rfl F3 Try.underlying29 rfl (exC_info _ _)) rfl ?_
  exact ⟨rfl, below_setRow B4.out (by omega) _⟩
end Go.Proofs.Ytnikmbkkhfmbeaa
