/- Package fold's sumIf and sumProduct: their closures; likewise; pairs of areas. Proved of the Go text. -/
import Derived.Test.YtnpdkojhlgchlaaGreatDoorIfy15
import Derived.Test.YtnpdkojhlgchlaaGreatDoorSgt15
import Derived.Test.YtnpdkojhlgchlaaGreatDoorMat15
import Derived.Test.YtnpdkojhlgchlaaGreatDoorMak15
namespace Go.Proofs.YtnpdkojhlgchlaaGreatDoor
open Go.RowKit Go.Sort
open T9 (Blk Chg)
set_option linter.unusedVariables false

set_option maxHeartbeats 400000 in
theorem lines_is (t l b r : Int) (hl : 0 ≤ t) (hlr : t ≤ b) (hr : b < 65536) : CallIs 132 #[.agg #[.int .i64 t, .int .i64 l, .int .i64 b, .int .i64 r]] (.int .i64 (b - t + 1)) := by
  intro w
  have w1 := IntWalk.wrap64_in (b - t) ⟨by omega, by omega⟩
  have w2 := IntWalk.wrap64_in (b - t + 1) ⟨by omega, by omega⟩
  clear hl hlr hr
  go_enter Tryz.func132, Tryz.ntmps132
  go_wp2_with fail
  go_ret
  exact ⟨by show Ending.returned (.int .i64 (wrap64 (b - t + 1))) = _; rw [w2], by go_grown⟩
set_option maxHeartbeats 2000000 in
set_option maxRecDepth 100000 in
theorem amiss_pair (q l : Int) (h0 : 0 ≤ q) (h1 : q < 65536) (h2 : 0 ≤ l) (h3 : l < 702) : CallIs 134 #[agV ⟨true, 0, 0, q, 0, ⟨0, 0, no⟩⟩, agV ⟨true, 0, l, q, l, ⟨0, 0, no⟩⟩] (.int .i64 0) := by
  intro w
  have L1 : CallIs 132 #[.agg #[.int .i64 0, .int .i64 0, .int .i64 q, .int .i64 0]] (.int .i64 (q + 1)) := by have := lines_is 0 0 q 0 (by omega) h0 h1; simpa using this
  have L2 : CallIs 132 #[.agg #[.int .i64 0, .int .i64 l, .int .i64 q, .int .i64 l]] (.int .i64 (q + 1)) := by have := lines_is 0 l q l (by omega) h0 h1; simpa using this
  have C1 : CallIs 129 #[.agg #[.int .i64 0, .int .i64 0, .int .i64 q, .int .i64 0]] (.int .i64 1) := columns_is 0 0 q 0 (by omega) (by omega) (by omega)
  have C2 : CallIs 129 #[.agg #[.int .i64 0, .int .i64 l, .int .i64 q, .int .i64 l]] (.int .i64 1) := by have := columns_is 0 l q l h2 (by omega) h3; rw [show l - l + 1 = (1 : Int) by omega] at this; exact this
  generalize q + 1 = z at *
  obtain ⟨w1, hw1⟩ : ∃ w1, ((w.alloc (agO ⟨true, 0, 0, q, 0, ⟨0, 0, no⟩⟩)).alloc (agO ⟨true, 0, l, q, l, ⟨0, 0, no⟩⟩)) = w1 := ⟨_, rfl⟩
  have A0 : Blk w1 w.heap.size #[.bool true, .int .i64 0, .int .i64 0, .int .i64 q, .int .i64 0, .int .i64 0, .int .i64 0, .string no] 41 := by rw [← hw1]; exact (Blk.new w _ _).alloc _
  have B0 : Blk w1 (w.heap.size + 1) #[.bool true, .int .i64 0, .int .i64 l, .int .i64 q, .int .i64 l, .int .i64 0, .int .i64 0, .string no] 41 := by rw [← hw1]; exact T9.Blk.new1 w _ _ _
  have K1 := hide (show Below w.heap.size w w1 by rw [← hw1]; exact step (step (Below.refl _ _) _) _)
  have e0 := cell_regrown (show w1.cell? ⟨w.heap.size, 0, none⟩ = some (.bool true) from A0.at' 0)
  have e1 := cell_regrown (show w1.cell? ⟨w.heap.size, 1, none⟩ = some (.int .i64 0) from A0.at' 1)
  have e2 := cell_regrown (show w1.cell? ⟨w.heap.size, 2, none⟩ = some (.int .i64 0) from A0.at' 2)
  have e3 := cell_regrown (show w1.cell? ⟨w.heap.size, 3, none⟩ = some (.int .i64 q) from A0.at' 3)
  have e4 := cell_regrown (show w1.cell? ⟨w.heap.size, 4, none⟩ = some (.int .i64 0) from A0.at' 4)
  have e5 := cell_regrown (show w1.cell? ⟨w.heap.size, 5, none⟩ = some (.int .i64 0) from A0.at' 5)
  have e6 := cell_regrown (show w1.cell? ⟨w.heap.size, 6, none⟩ = some (.int .i64 0) from A0.at' 6)
  have e7 := cell_regrown (show w1.cell? ⟨w.heap.size, 7, none⟩ = some (.string no) from A0.at' 7)
  have f0 := cell_regrown (show w1.cell? ⟨w.heap.size + 1, 0, none⟩ = some (.bool true) from B0.at' 0)
  have f1 := cell_regrown (show w1.cell? ⟨w.heap.size + 1, 1, none⟩ = some (.int .i64 0) from B0.at' 1)
  have f2 := cell_regrown (show w1.cell? ⟨w.heap.size + 1, 2, none⟩ = some (.int .i64 l) from B0.at' 2)
  have f3 := cell_regrown (show w1.cell? ⟨w.heap.size + 1, 3, none⟩ = some (.int .i64 q) from B0.at' 3)
  have f4 := cell_regrown (show w1.cell? ⟨w.heap.size + 1, 4, none⟩ = some (.int .i64 l) from B0.at' 4)
  have f5 := cell_regrown (show w1.cell? ⟨w.heap.size + 1, 5, none⟩ = some (.int .i64 0) from B0.at' 5)
  have f6 := cell_regrown (show w1.cell? ⟨w.heap.size + 1, 6, none⟩ = some (.int .i64 0) from B0.at' 6)
  have f7 := cell_regrown (show w1.cell? ⟨w.heap.size + 1, 7, none⟩ = some (.string no) from B0.at' 7)
  have k0 := fun d' os => Calls.regrown_of (L1.out (grow (redrawn w1 d') os))
  have k1 := fun d' os => Calls.regrown_of (L2.out (grow (redrawn w1 d') os))
  have k2 := fun d' os => Calls.regrown_of (C1.out (grow (redrawn w1 d') os))
  have k3 := fun d' os => Calls.regrown_of (C2.out (grow (redrawn w1 d') os))
  clear h0 h1 h2 h3 A0 B0
  replace hw1 := hide hw1
  go_enter Tryz.func134, Tryz.ntmps134
  go_upto_region 1 with fail
  rw [hw1.out]
  clear hw1
  refine wp_region_quiet_below (by kernel_rfl) (by kernel_rfl) ?_
  repeat (go_big_quiet_step (first | (with_reducible exact k0 _ _) | (with_reducible exact k1 _ _) | (with_reducible exact k2 _ _) | (with_reducible exact k3 _ _)))
  refine wpQuiet_nil ?_
  intro w2 hw2
  have hb2 : Hid (Below w1.heap.size w1 w2) := hide (by obtain ⟨⟨dq, osq⟩, hq⟩ := hw2; rw [hq]; exact below_regrown _ dq osq)
  clear hw2 e0 e1 e2 e3 e4 e5 e6 e7 f0 f1 f2 f3 f4 f5 f6 f7 k0 k1 k2 k3
  go_wp2_with fail
  go_ret
  exact ⟨rfl, next K1.out hb2.out⟩
set_option maxHeartbeats 1000000 in
theorem likewise_is (t l b r t' l' b' r' : Int) (w : World) : Calls Tryz.prog 137 #[.agg #[.int .i64 t, .int .i64 l, .int .i64 b, .int .i64 r], .agg #[.int .i64 t', .int .i64 l', .int .i64 b', .int .i64 r']] w fun e w' => e = .returned (.func (.func 189) #[] #[.pointer (some ⟨w.heap.size, 0, none⟩), .pointer (some ⟨w.heap.size + 1, 0, none⟩)]) ∧ w' = (w.alloc (.cells #[.int .i64 t, .int .i64 l, .int .i64 b, .int .i64 r] 39)).alloc (.cells #[.int .i64 t', .int .i64 l', .int .i64 b', .int .i64 r'] 39) := by
  go_enter Tryz.func137, Tryz.ntmps137
  go_wp2_with fail
  go_ret
  exact ⟨rfl, rfl⟩
/-- The place that lies likewise. -/
def likB (t l t' l' r c : Int) : Int × Int := (wrap64 (wrap64 (r - t) + t'), wrap64 (wrap64 (c - l) + l'))
set_option maxHeartbeats 2000000 in
set_option maxRecDepth 100000 in
theorem lik1_bes {σ : Type} {S : σ → (Nat → Prop) → World → Prop} (t l b0 r0 t' l' b' r' : Int) (Bp Bq : Nat) (hp : ∀ s m w, S s m w → Blk w Bp #[.int .i64 t, .int .i64 l, .int .i64 b0, .int .i64 r0] 39 ∧ Blk w Bq #[.int .i64 t', .int .i64 l', .int .i64 b', .int .i64 r'] 39) : BesIs S (likB t l t' l') 189 #[.pointer (some ⟨Bp, 0, none⟩), .pointer (some ⟨Bq, 0, none⟩)] := by
  refine ⟨?_, ent_of Tryz.func189 (by kernel_rfl) (by kernel_rfl)⟩
  intro s m r c w hs
  obtain ⟨P0, Q0⟩ := hp s m w hs
  unfold likB
  have P1 := (P0.alloc (.cells #[.int .i64 r, .int .i64 c] 47)).alloc (.cells #[.int .i64 0, .int .i64 0] 47)
  have Q1 := (Q0.alloc (.cells #[.int .i64 r, .int .i64 c] 47)).alloc (.cells #[.int .i64 0, .int .i64 0] 47)
  have a0 : ((w.alloc (.cells #[.int .i64 r, .int .i64 c] 47)).alloc (.cells #[.int .i64 0, .int .i64 0] 47)).cell? ⟨Bp, 0, none⟩ = some (.int .i64 t) := P1.at' 0
  have b0 : ((w.alloc (.cells #[.int .i64 r, .int .i64 c] 47)).alloc (.cells #[.int .i64 0, .int .i64 0] 47)).cell? ⟨Bq, 0, none⟩ = some (.int .i64 t') := Q1.at' 0
  have a1 : ((w.alloc (.cells #[.int .i64 r, .int .i64 c] 47)).alloc (.cells #[.int .i64 0, .int .i64 0] 47)).cell? ⟨Bp, 1, none⟩ = some (.int .i64 l) := P1.at' 1
  have b1 : ((w.alloc (.cells #[.int .i64 r, .int .i64 c] 47)).alloc (.cells #[.int .i64 0, .int .i64 0] 47)).cell? ⟨Bq, 1, none⟩ = some (.int .i64 l') := Q1.at' 1
  clear P0 Q0 P1 Q1 hs hp
  go_enter Tryz.func189, Tryz.ntmps189
  go_wp2_with fail
  go_returns
  exact ⟨rfl, by go_grown⟩
set_option maxHeartbeats 1000000 in
theorem sif2_ends {σ : Type} {S : σ → (Nat → Prop) → World → Prop} (f : σ → Int) (Bt : Nat) (hbt : ∀ s m w, S s m w → Blk w Bt #[.int .i64 (f s)] 2) : Ends S (fun s => ⟨1, f s, no⟩) 138 #[.pointer (some ⟨Bt, 0, none⟩)] := by
  refine ⟨?_, ent_of Tryz.func138 (by kernel_rfl) (by kernel_rfl)⟩
  intro s m w hs
  have HN := fnum_is (f s)
  have bt : (w.alloc (vO 0 0 no)).cell? ⟨Bt, 0, none⟩ = some (.int .i64 (f s)) := ((hbt s m w hs).alloc _).at' 0
  show Calls _ _ _ _ fun e w' => e = .returned (vV 1 (f s) no) ∧ _
  generalize f s = n at *
  clear hs hbt
  go_enter Tryz.func138, Tryz.ntmps138
  go_wp2_with fail
  refine (HN.out _).mono ?_
  rintro e w1 ⟨rfl, hb1⟩
  have B1 := hide (next (step (Below.refl w.heap.size w) _) hb1)
  have cr := hide ((O3.new w (.int .i64 0) (.int .i64 0) (.string no) 31).keep hb1)
  have u0 := cr.out.1.1
  have u1 := cr.out.1.2.1
  have u2 := cr.out.1.2.2
  have uf := cr.out.2
  have Bq := hide (below_put3 (b := w.heap.size) B1.out (Nat.le_refl _) (.int .i64 1) (.int .i64 n) (.string no))
  replace cr := hide (cr.out.put (.int .i64 1) (.int .i64 n) (.string no))
  obtain ⟨wq, hwq⟩ : ∃ wq, put3 w1 w.heap.size (.int .i64 1) (.int .i64 n) (.string no) = wq := ⟨_, rfl⟩
  rw [hwq] at Bq cr
  unfold put3 at hwq
  have v0 := cr.out.1.1
  have v1 := cr.out.1.2.1
  have v2 := cr.out.1.2.2
  clear hb1 bt
  go_wp2_with fail
  refine bodyPost_ret (by simp [results, Tryz.results138, go_sem, v0, v1, v2]; try rfl) rfl ?_
  exact ⟨rfl, Chg.of_below Bq.out⟩
set_option maxHeartbeats 1000000 in
theorem spr3_ends {σ : Type} {S : σ → (Nat → Prop) → World → Prop} (f : σ → Int) (Bt : Nat) (hbt : ∀ s m w, S s m w → Blk w Bt #[.int .i64 (f s)] 2) : Ends S (fun s => ⟨1, f s, no⟩) 142 #[.pointer (some ⟨Bt, 0, none⟩)] := by
  refine ⟨?_, ent_of Tryz.func142 (by kernel_rfl) (by kernel_rfl)⟩
  intro s m w hs
  have HN := fnum_is (f s)
  have bt : (w.alloc (vO 0 0 no)).cell? ⟨Bt, 0, none⟩ = some (.int .i64 (f s)) := ((hbt s m w hs).alloc _).at' 0
  show Calls _ _ _ _ fun e w' => e = .returned (vV 1 (f s) no) ∧ _
  generalize f s = n at *
  clear hs hbt
  go_enter Tryz.func142, Tryz.ntmps142
  go_wp2_with fail
  refine (HN.out _).mono ?_
  rintro e w1 ⟨rfl, hb1⟩
  have B1 := hide (next (step (Below.refl w.heap.size w) _) hb1)
  have cr := hide ((O3.new w (.int .i64 0) (.int .i64 0) (.string no) 31).keep hb1)
  have u0 := cr.out.1.1
  have u1 := cr.out.1.2.1
  have u2 := cr.out.1.2.2
  have uf := cr.out.2
  have Bq := hide (below_put3 (b := w.heap.size) B1.out (Nat.le_refl _) (.int .i64 1) (.int .i64 n) (.string no))
  replace cr := hide (cr.out.put (.int .i64 1) (.int .i64 n) (.string no))
  obtain ⟨wq, hwq⟩ : ∃ wq, put3 w1 w.heap.size (.int .i64 1) (.int .i64 n) (.string no) = wq := ⟨_, rfl⟩
  rw [hwq] at Bq cr
  unfold put3 at hwq
  have v0 := cr.out.1.1
  have v1 := cr.out.1.2.1
  have v2 := cr.out.1.2.2
  clear hb1 bt
  go_wp2_with fail
  refine bodyPost_ret (by simp [results, Tryz.results142, go_sem, v0, v1, v2]; try rfl) rfl ?_
  exact ⟨rfl, Chg.of_below Bq.out⟩
def sif3 {σ : Type} (x : Int) (s : σ) (v : Va) : Stp × σ := (if v.i == x then .bes else .on, s)
set_option maxHeartbeats 2000000 in
set_option maxRecDepth 100000 in
theorem sif1_three {σ : Type} {S : σ → (Nat → Prop) → World → Prop} (hS : Stay S) (x : Int) (Bx Bg Ba : Nat) (ga : Option Addr) (gc : Nat) (hbx : ∀ s m w, S s m w → Blk w Bx #[.bool false, .int .i64 0, .int .i64 0, .int .i64 0, .int .i64 0, .int .i64 1, .int .i64 x, .string no] 41) (hbg : ∀ s m w, S s m w → Blk w Bg #[.slice ga 3 gc] 29) : DoesQ (fun _ v => isI v) S (sif3 x) 136 #[.pointer (some ⟨Bx, 0, none⟩), .pointer (some ⟨Bg, 0, none⟩), .pointer (some ⟨Ba, 0, none⟩)] := by
  refine ⟨?_, ent_of Tryz.func136 (by kernel_rfl) (by kernel_rfl)⟩
  intro s m v w hs hv hq
  rw [no_of_int hv hq]
  generalize v.i = i
  clear hv hq v
  have K1 := hide (step (step (Below.refl w.heap.size w) (vO 1 i no)) (stO false false 0 0 no))
  have X1 : Hid (Blk ((w.alloc (vO 1 i no)).alloc (stO false false 0 0 no)) (w.heap.size + 1) #[.bool false, .bool false, .int .i64 0, .int .i64 0, .string no] 82) := hide (T9.Blk.new1 w (vO 1 i no) _ _)
  have A1 := ((hbx s m w hs).alloc (vO 1 i no)).alloc (stO false false 0 0 no)
  have G1 := hide (((hbg s m w hs).alloc (vO 1 i no)).alloc (stO false false 0 0 no))
  have b0 : ((w.alloc (vO 1 i no)).alloc (stO false false 0 0 no)).cell? ⟨Bx, 0, none⟩ = some (.bool false) := A1.at' 0
  have b1 : ((w.alloc (vO 1 i no)).alloc (stO false false 0 0 no)).cell? ⟨Bx, 1, none⟩ = some (.int .i64 0) := A1.at' 1
  have b2 : ((w.alloc (vO 1 i no)).alloc (stO false false 0 0 no)).cell? ⟨Bx, 2, none⟩ = some (.int .i64 0) := A1.at' 2
  have b3 : ((w.alloc (vO 1 i no)).alloc (stO false false 0 0 no)).cell? ⟨Bx, 3, none⟩ = some (.int .i64 0) := A1.at' 3
  have b4 : ((w.alloc (vO 1 i no)).alloc (stO false false 0 0 no)).cell? ⟨Bx, 4, none⟩ = some (.int .i64 0) := A1.at' 4
  have b5 : ((w.alloc (vO 1 i no)).alloc (stO false false 0 0 no)).cell? ⟨Bx, 5, none⟩ = some (.int .i64 1) := A1.at' 5
  have b6 : ((w.alloc (vO 1 i no)).alloc (stO false false 0 0 no)).cell? ⟨Bx, 6, none⟩ = some (.int .i64 x) := A1.at' 6
  have b7 : ((w.alloc (vO 1 i no)).alloc (stO false false 0 0 no)).cell? ⟨Bx, 7, none⟩ = some (.string no) := A1.at' 7
  have HS := sought_int i x
  obtain ⟨r, hr⟩ : ∃ r, (i == x) = r := ⟨_, rfl⟩
  rw [hr] at HS
  unfold sif3
  simp only
  rw [hr]
  replace hs := hide hs
  replace hS := hide hS
  clear A1 hr hbx hbg
  cases r
  · go_enter Tryz.func136, Tryz.ntmps136
    go_wp2_with fail
    refine (HS.out _).mono ?_
    rintro e w5 ⟨rfl, hb5⟩
    have K5 := hide (next K1.out hb5)
    clear b0 b1 b2 b3 b4 b5 b6 b7
    have hX2 := hide (X1.out.keep hb5)
    have z0 : w5.cell? ⟨w.heap.size + 1, 0, none⟩ = some (.bool false) := hX2.out.at' 0
    have z1 : w5.cell? ⟨w.heap.size + 1, 1, none⟩ = some (.bool false) := hX2.out.at' 1
    have z2 : w5.cell? ⟨w.heap.size + 1, 2, none⟩ = some (.int .i64 0) := hX2.out.at' 2
    have z3 : w5.cell? ⟨w.heap.size + 1, 3, none⟩ = some (.int .i64 0) := hX2.out.at' 3
    have z4 : w5.cell? ⟨w.heap.size + 1, 4, none⟩ = some (.string no) := hX2.out.at' 4
    have zf := hX2.out.fr
    have h3 := blk5 hX2.out (.bool false) (.bool false) (.int .i64 0) (.int .i64 0) (.string no)
    have c3 := hide (chg5 w5 (w.heap.size + 1) (.bool false) (.bool false) (.int .i64 0) (.int .i64 0) (.string no))
    obtain ⟨w9, hw9⟩ : ∃ w9, put5 w5 (w.heap.size + 1) (.bool false) (.bool false) (.int .i64 0) (.int .i64 0) (.string no) = w9 := ⟨_, rfl⟩
    rw [hw9] at h3 c3
    unfold put5 at hw9
    have y0 : w9.cell? ⟨w.heap.size + 1, 0, none⟩ = some (.bool false) := h3.at' 0
    have y1 : w9.cell? ⟨w.heap.size + 1, 1, none⟩ = some (.bool false) := h3.at' 1
    have y2 : w9.cell? ⟨w.heap.size + 1, 2, none⟩ = some (.int .i64 0) := h3.at' 2
    have y3 : w9.cell? ⟨w.heap.size + 1, 3, none⟩ = some (.int .i64 0) := h3.at' 3
    have y4 : w9.cell? ⟨w.heap.size + 1, 4, none⟩ = some (.string no) := h3.at' 4
    replace h3 := hide h3
    go_wp2_with fail
    refine bodyPost_ret (by simp [results, Tryz.results136, go_sem, y0, y1, y2, y3, y4]; try rfl) rfl ?_
    exact ⟨rfl, end5 hS.out (Nat.le_succ _) (bel5 hS.out hs.out K5.out (Nat.le_succ _)) c3.out⟩
  · go_enter Tryz.func136, Tryz.ntmps136
    go_wp2_with fail
    refine (HS.out _).mono ?_
    rintro e w5 ⟨rfl, hb5⟩
    have K5 := hide (next K1.out hb5)
    have g0 : w5.cell? ⟨Bg, 0, none⟩ = some (.slice ga 3 gc) := (G1.out.keep hb5).at' 0
    clear b0 b1 b2 b3 b4 b5 b6 b7
    have hX2 := hide (X1.out.keep hb5)
    have z0 : w5.cell? ⟨w.heap.size + 1, 0, none⟩ = some (.bool false) := hX2.out.at' 0
    have z1 : w5.cell? ⟨w.heap.size + 1, 1, none⟩ = some (.bool false) := hX2.out.at' 1
    have z2 : w5.cell? ⟨w.heap.size + 1, 2, none⟩ = some (.int .i64 0) := hX2.out.at' 2
    have z3 : w5.cell? ⟨w.heap.size + 1, 3, none⟩ = some (.int .i64 0) := hX2.out.at' 3
    have z4 : w5.cell? ⟨w.heap.size + 1, 4, none⟩ = some (.string no) := hX2.out.at' 4
    have zf := hX2.out.fr
    have h3 := blk5 hX2.out (.bool true) (.bool false) (.int .i64 0) (.int .i64 0) (.string no)
    have c3 := hide (chg5 w5 (w.heap.size + 1) (.bool true) (.bool false) (.int .i64 0) (.int .i64 0) (.string no))
    obtain ⟨w9, hw9⟩ : ∃ w9, put5 w5 (w.heap.size + 1) (.bool true) (.bool false) (.int .i64 0) (.int .i64 0) (.string no) = w9 := ⟨_, rfl⟩
    rw [hw9] at h3 c3
    unfold put5 at hw9
    have y0 : w9.cell? ⟨w.heap.size + 1, 0, none⟩ = some (.bool true) := h3.at' 0
    have y1 : w9.cell? ⟨w.heap.size + 1, 1, none⟩ = some (.bool false) := h3.at' 1
    have y2 : w9.cell? ⟨w.heap.size + 1, 2, none⟩ = some (.int .i64 0) := h3.at' 2
    have y3 : w9.cell? ⟨w.heap.size + 1, 3, none⟩ = some (.int .i64 0) := h3.at' 3
    have y4 : w9.cell? ⟨w.heap.size + 1, 4, none⟩ = some (.string no) := h3.at' 4
    replace h3 := hide h3
    go_wp2_with fail
    refine bodyPost_ret (by simp [results, Tryz.results136, go_sem, y0, y1, y2, y3, y4]; try rfl) rfl ?_
    exact ⟨rfl, end5 hS.out (Nat.le_succ _) (bel5 hS.out hs.out K5.out (Nat.le_succ _)) c3.out⟩
def sif2 {σ : Type} (x : Int) (stA : σ → Va → Stp × σ) (s : σ) (v : Va) : Stp × σ := if v.i == x then stA s v else (.on, s)
set_option maxHeartbeats 2000000 in
set_option maxRecDepth 100000 in
theorem sif1_two {σ : Type} {S : σ → (Nat → Prop) → World → Prop} (hS : Stay S) (x : Int) (Bx Bg Ba : Nat) (ga : Option Addr) (gc : Nat) (hbx : ∀ s m w, S s m w → Blk w Bx #[.bool false, .int .i64 0, .int .i64 0, .int .i64 0, .int .i64 0, .int .i64 1, .int .i64 x, .string no] 41) (hbg : ∀ s m w, S s m w → Blk w Bg #[.slice ga 2 gc] 29) (stA : σ → Va → Stp × σ) (nA : Nat) (cA : Array Value) (HA : Does S stA nA cA) (hba : ∀ s m w, S s m w → Blk w Ba #[.func (.func nA) #[] cA] 70) (hnb : ∀ s x, (stA s x).1 ≠ .bes) : DoesQ (fun _ v => True ∧ isI v) S (sif2 x stA) 136 #[.pointer (some ⟨Bx, 0, none⟩), .pointer (some ⟨Bg, 0, none⟩), .pointer (some ⟨Ba, 0, none⟩)] := by
  refine ⟨?_, ent_of Tryz.func136 (by kernel_rfl) (by kernel_rfl)⟩
  intro s m v w hs hv hq
  have hv0 := hide hv
  rw [no_of_int hv hq.2] at hv0 ⊢
  generalize v.i = i at *
  clear hv hq v
  have K1 := hide (step (step (Below.refl w.heap.size w) (vO 1 i no)) (stO false false 0 0 no))
  have X1 : Hid (Blk ((w.alloc (vO 1 i no)).alloc (stO false false 0 0 no)) (w.heap.size + 1) #[.bool false, .bool false, .int .i64 0, .int .i64 0, .string no] 82) := hide (T9.Blk.new1 w (vO 1 i no) _ _)
  have V1 : Hid (Blk ((w.alloc (vO 1 i no)).alloc (stO false false 0 0 no)) w.heap.size #[.int .i64 1, .int .i64 i, .string no] 31) := hide ((Blk.new w _ _).alloc _)
  have A1 := ((hbx s m w hs).alloc (vO 1 i no)).alloc (stO false false 0 0 no)
  have G1 := hide (((hbg s m w hs).alloc (vO 1 i no)).alloc (stO false false 0 0 no))
  have b0 : ((w.alloc (vO 1 i no)).alloc (stO false false 0 0 no)).cell? ⟨Bx, 0, none⟩ = some (.bool false) := A1.at' 0
  have b1 : ((w.alloc (vO 1 i no)).alloc (stO false false 0 0 no)).cell? ⟨Bx, 1, none⟩ = some (.int .i64 0) := A1.at' 1
  have b2 : ((w.alloc (vO 1 i no)).alloc (stO false false 0 0 no)).cell? ⟨Bx, 2, none⟩ = some (.int .i64 0) := A1.at' 2
  have b3 : ((w.alloc (vO 1 i no)).alloc (stO false false 0 0 no)).cell? ⟨Bx, 3, none⟩ = some (.int .i64 0) := A1.at' 3
  have b4 : ((w.alloc (vO 1 i no)).alloc (stO false false 0 0 no)).cell? ⟨Bx, 4, none⟩ = some (.int .i64 0) := A1.at' 4
  have b5 : ((w.alloc (vO 1 i no)).alloc (stO false false 0 0 no)).cell? ⟨Bx, 5, none⟩ = some (.int .i64 1) := A1.at' 5
  have b6 : ((w.alloc (vO 1 i no)).alloc (stO false false 0 0 no)).cell? ⟨Bx, 6, none⟩ = some (.int .i64 x) := A1.at' 6
  have b7 : ((w.alloc (vO 1 i no)).alloc (stO false false 0 0 no)).cell? ⟨Bx, 7, none⟩ = some (.string no) := A1.at' 7
  have HS := sought_int i x
  obtain ⟨r, hr⟩ : ∃ r, (i == x) = r := ⟨_, rfl⟩
  rw [hr] at HS
  have F1 := hide (((hba s m w hs).alloc (vO 1 i no)).alloc (stO false false 0 0 no))
  unfold sif2
  simp only
  rw [hr]
  have hent := HA.ent
  replace HA := hide HA
  replace hs := hide hs
  replace hS := hide hS
  clear A1 hr hbx hbg hba
  cases r
  · go_enter Tryz.func136, Tryz.ntmps136
    go_wp2_with fail
    refine (HS.out _).mono ?_
    rintro e w5 ⟨rfl, hb5⟩
    have K5 := hide (next K1.out hb5)
    clear b0 b1 b2 b3 b4 b5 b6 b7
    have hX2 := hide (X1.out.keep hb5)
    have z0 : w5.cell? ⟨w.heap.size + 1, 0, none⟩ = some (.bool false) := hX2.out.at' 0
    have z1 : w5.cell? ⟨w.heap.size + 1, 1, none⟩ = some (.bool false) := hX2.out.at' 1
    have z2 : w5.cell? ⟨w.heap.size + 1, 2, none⟩ = some (.int .i64 0) := hX2.out.at' 2
    have z3 : w5.cell? ⟨w.heap.size + 1, 3, none⟩ = some (.int .i64 0) := hX2.out.at' 3
    have z4 : w5.cell? ⟨w.heap.size + 1, 4, none⟩ = some (.string no) := hX2.out.at' 4
    have zf := hX2.out.fr
    have h3 := blk5 hX2.out (.bool false) (.bool false) (.int .i64 0) (.int .i64 0) (.string no)
    have c3 := hide (chg5 w5 (w.heap.size + 1) (.bool false) (.bool false) (.int .i64 0) (.int .i64 0) (.string no))
    obtain ⟨w9, hw9⟩ : ∃ w9, put5 w5 (w.heap.size + 1) (.bool false) (.bool false) (.int .i64 0) (.int .i64 0) (.string no) = w9 := ⟨_, rfl⟩
    rw [hw9] at h3 c3
    unfold put5 at hw9
    have y0 : w9.cell? ⟨w.heap.size + 1, 0, none⟩ = some (.bool false) := h3.at' 0
    have y1 : w9.cell? ⟨w.heap.size + 1, 1, none⟩ = some (.bool false) := h3.at' 1
    have y2 : w9.cell? ⟨w.heap.size + 1, 2, none⟩ = some (.int .i64 0) := h3.at' 2
    have y3 : w9.cell? ⟨w.heap.size + 1, 3, none⟩ = some (.int .i64 0) := h3.at' 3
    have y4 : w9.cell? ⟨w.heap.size + 1, 4, none⟩ = some (.string no) := h3.at' 4
    replace h3 := hide h3
    go_wp2_with fail
    refine bodyPost_ret (by simp [results, Tryz.results136, go_sem, y0, y1, y2, y3, y4]; try rfl) rfl ?_
    exact ⟨rfl, end5 hS.out (Nat.le_succ _) (bel5 hS.out hs.out K5.out (Nat.le_succ _)) c3.out⟩
  · have HC0 := hide (fun w5 hw => HA.out.call s m ⟨1, i, no⟩ w5 hw hv0.out)
    have hb := hnb s ⟨1, i, no⟩
    rw [if_pos rfl]
    generalize stA s ⟨1, i, no⟩ = p at *
    go_enter Tryz.func136, Tryz.ntmps136
    go_wp2_with fail
    refine (HS.out _).mono ?_
    rintro e w5 ⟨rfl, hb5⟩
    have K5 := hide (next K1.out hb5)
    have g0 : w5.cell? ⟨Bg, 0, none⟩ = some (.slice ga 2 gc) := (G1.out.keep hb5).at' 0
    have f0 : w5.cell? ⟨Ba, 0, none⟩ = some (.func (.func nA) #[] cA) := (F1.out.keep hb5).at' 0
    have V5 := V1.out.keep hb5
    have v0 : w5.cell? ⟨w.heap.size, 0, none⟩ = some (.int .i64 1) := V5.at' 0
    have v1 : w5.cell? ⟨w.heap.size, 1, none⟩ = some (.int .i64 i) := V5.at' 1
    have v2 : w5.cell? ⟨w.heap.size, 2, none⟩ = some (.string no) := V5.at' 2
    have X5 := hide (X1.out.keep hb5)
    have HC := hide (HC0.out w5 (sm_of hS.out hs.out K5.out))
    clear b0 b1 b2 b3 b4 b5 b6 b7 V5
    obtain ⟨p1, s2⟩ := p
    cases p1 with
    | bes => exact absurd rfl hb
    | on =>
      go_wp2_with fail
      refine HC.out.mono ?_
      rintro e w6 ⟨rfl, hg⟩
      have hg := hide hg
      simp only [stV]
      have hX2 := hide (zero5 X5.out (blk_low hS.out hs.out (Nat.le_succ _)) hg.out)
      clear g0 f0 v0 v1 v2
      have z0 : w6.cell? ⟨w.heap.size + 1, 0, none⟩ = some (.bool false) := hX2.out.at' 0
      have z1 : w6.cell? ⟨w.heap.size + 1, 1, none⟩ = some (.bool false) := hX2.out.at' 1
      have z2 : w6.cell? ⟨w.heap.size + 1, 2, none⟩ = some (.int .i64 0) := hX2.out.at' 2
      have z3 : w6.cell? ⟨w.heap.size + 1, 3, none⟩ = some (.int .i64 0) := hX2.out.at' 3
      have z4 : w6.cell? ⟨w.heap.size + 1, 4, none⟩ = some (.string no) := hX2.out.at' 4
      have zf := hX2.out.fr
      have h3 := blk5 hX2.out (.bool false) (.bool false) (.int .i64 0) (.int .i64 0) (.string no)
      have c3 := hide (chg5 w6 (w.heap.size + 1) (.bool false) (.bool false) (.int .i64 0) (.int .i64 0) (.string no))
      obtain ⟨w9, hw9⟩ : ∃ w9, put5 w6 (w.heap.size + 1) (.bool false) (.bool false) (.int .i64 0) (.int .i64 0) (.string no) = w9 := ⟨_, rfl⟩
      rw [hw9] at h3 c3
      unfold put5 at hw9
      have y0 : w9.cell? ⟨w.heap.size + 1, 0, none⟩ = some (.bool false) := h3.at' 0
      have y1 : w9.cell? ⟨w.heap.size + 1, 1, none⟩ = some (.bool false) := h3.at' 1
      have y2 : w9.cell? ⟨w.heap.size + 1, 2, none⟩ = some (.int .i64 0) := h3.at' 2
      have y3 : w9.cell? ⟨w.heap.size + 1, 3, none⟩ = some (.int .i64 0) := h3.at' 3
      have y4 : w9.cell? ⟨w.heap.size + 1, 4, none⟩ = some (.string no) := h3.at' 4
      replace h3 := hide h3
      go_wp2_with fail
      refine bodyPost_ret (by simp [results, Tryz.results136, go_sem, y0, y1, y2, y3, y4]; try rfl) rfl ?_
      exact ⟨rfl, end5 hS.out (Nat.le_succ _) (mid5 hS.out hs.out K5.out (Nat.le_succ _) X5.out.lt hg.out) c3.out⟩
    | ends y =>
      obtain ⟨y0', y1', y2'⟩ := y
      go_wp2_with fail
      refine HC.out.mono ?_
      rintro e w6 ⟨rfl, hg⟩
      have hg := hide hg
      simp only [stV]
      have hX2 := hide (zero5 X5.out (blk_low hS.out hs.out (Nat.le_succ _)) hg.out)
      clear g0 f0 v0 v1 v2
      have z0 : w6.cell? ⟨w.heap.size + 1, 0, none⟩ = some (.bool false) := hX2.out.at' 0
      have z1 : w6.cell? ⟨w.heap.size + 1, 1, none⟩ = some (.bool false) := hX2.out.at' 1
      have z2 : w6.cell? ⟨w.heap.size + 1, 2, none⟩ = some (.int .i64 0) := hX2.out.at' 2
      have z3 : w6.cell? ⟨w.heap.size + 1, 3, none⟩ = some (.int .i64 0) := hX2.out.at' 3
      have z4 : w6.cell? ⟨w.heap.size + 1, 4, none⟩ = some (.string no) := hX2.out.at' 4
      have zf := hX2.out.fr
      have h3 := blk5 hX2.out (.bool false) (.bool true) (.int .i64 y0') (.int .i64 y1') (.string y2')
      have c3 := hide (chg5 w6 (w.heap.size + 1) (.bool false) (.bool true) (.int .i64 y0') (.int .i64 y1') (.string y2'))
      obtain ⟨w9, hw9⟩ : ∃ w9, put5 w6 (w.heap.size + 1) (.bool false) (.bool true) (.int .i64 y0') (.int .i64 y1') (.string y2') = w9 := ⟨_, rfl⟩
      rw [hw9] at h3 c3
      unfold put5 at hw9
      have y0 : w9.cell? ⟨w.heap.size + 1, 0, none⟩ = some (.bool false) := h3.at' 0
      have y1 : w9.cell? ⟨w.heap.size + 1, 1, none⟩ = some (.bool true) := h3.at' 1
      have y2 : w9.cell? ⟨w.heap.size + 1, 2, none⟩ = some (.int .i64 y0') := h3.at' 2
      have y3 : w9.cell? ⟨w.heap.size + 1, 3, none⟩ = some (.int .i64 y1') := h3.at' 3
      have y4 : w9.cell? ⟨w.heap.size + 1, 4, none⟩ = some (.string y2') := h3.at' 4
      replace h3 := hide h3
      go_wp2_with fail
      refine bodyPost_ret (by simp [results, Tryz.results136, go_sem, y0, y1, y2, y3, y4]; try rfl) rfl ?_
      exact ⟨rfl, end5 hS.out (Nat.le_succ _) (mid5 hS.out hs.out K5.out (Nat.le_succ _) X5.out.lt hg.out) c3.out⟩
/-- Where sumProduct's variables lie. -/
def SprS (Bt Bs Br Ba Bv : Nat) (mk : Nat → Prop) (K : World → Prop) (s : Int × Va) (m : Nat → Prop) (w : World) : Prop := Wth (SumS Bt Bs Br Ba Ba) (fun k => k = Bv ∨ mk k) (fun w => Blk w Bv #[.int .i64 s.2.k, .int .i64 s.2.i, .string s.2.t] 31 ∧ K w) s.1 m w ∧ ¬ mk Bv ∧ -9223372036854775808 ≤ s.2.i ∧ s.2.i ≤ 9223372036854775807
theorem spr_keep {mk : Nat → Prop} {K : World → Prop} (hK : KeepK mk K) (Bv : Nat) (cs : Array Value) (t : TypeId) : KeepK (fun k => k = Bv ∨ mk k) (fun w => Blk w Bv cs t ∧ K w) := by
  constructor
  · intro w h k hk
    rcases hk with rfl | hk
    · exact h.1.lt
    · exact hK.lt h.2 k hk
  · intro w w' h hb
    exact ⟨(hb Bv (.inl rfl)).trans h.1, hK.same h.2 (fun k hk => hb k (.inr hk))⟩
theorem spr_stay (Bt Bs Br Ba Bv : Nat) {mk : Nat → Prop} {K : World → Prop} (hK : KeepK mk K) : Stay (SprS Bt Bs Br Ba Bv mk K) := by
  constructor
  · intro s m w h
    exact (wth_stay (sum_stay Bt Bs Br Ba Ba) (spr_keep hK Bv _ _)).lt h.1
  · intro s m w w' h hb
    exact ⟨(wth_stay (sum_stay Bt Bs Br Ba Ba) (spr_keep hK Bv _ _)).same h.1 hb, h.2⟩
def sprC (s : Int × Va) (v : Va) : Stp × (Int × Va) := if v.k = 4 then (.ends v, s) else (.bes, (s.1, v))
def sprT (s : Int × Va) (x : Int) : Stp × (Int × Va) := if s.2.k = 1 then (if -9223372036854775808 ≤ s.2.i * x ∧ s.2.i * x ≤ 9223372036854775807 then ((sumT s.1 (s.2.i * x)).1, ((sumT s.1 (s.2.i * x)).2, s.2)) else (.ends ⟨4, 2, no⟩, s)) else (.on, s)
theorem sprT_nb (s : Int × Va) (x : Int) : (sprT s x).1 ≠ .bes := by
  unfold sprT
  split
  · split
    · exact sumT_nb _ _
    · simp
  · simp
theorem spr_put {Bt Bs Br Ba Bv : Nat} {mk : Nat → Prop} {K : World → Prop} (hK : KeepK mk K) {n : Int} {lv v : Va} {m : Nat → Prop} {w w1 w2 : World} {X : Nat} (hs : SprS Bt Bs Br Ba Bv mk K (n, lv) m w) (hb : Below w.heap.size w w1) (hX : w.heap.size ≤ X) (h2 : Blk w2 Bv #[.int .i64 v.k, .int .i64 v.i, .string v.t] 31) (c2 : Chg (· = Bv) w1 w2) (hv : -9223372036854775808 ≤ v.i ∧ v.i ≤ 9223372036854775807) : ∃ m', SprS Bt Bs Br Ba Bv mk K (n, v) m' w2 ∧ Grw m m' w ∧ Chg m w w2 ∧ ¬ m' X := by
  have hl := blk_low (spr_stay Bt Bs Br Ba Bv hK) hs hX
  obtain ⟨⟨m1, h1, ⟨h3, h4⟩, h5, rfl⟩, h6, h7⟩ := hs
  have hS := sum_stay Bt Bs Br Ba Ba
  refine ⟨_, ⟨⟨m1, hS.same (sm_of hS h1 hb) (fun k hk => c2.block k (Nat.lt_of_lt_of_le (hS.lt h1 k hk) hb.size) (fun e => h5 Bv (.inl rfl) (e ▸ hk))), ⟨h2, hK.same (hK.same h4 (fun k hk => hb.block k (hK.lt h4 k hk))) (fun k hk => c2.block k (Nat.lt_of_lt_of_le (hK.lt h4 k hk) hb.size) (fun e => h6 (e ▸ hk)))⟩, h5, rfl⟩, h6, hv⟩, Grw.refl _ _, (Chg.of_below hb : Chg _ w w1).trans (chg_of c2 (fun k e => .inr (.inl e))), hl⟩
set_option maxHeartbeats 2000000 in
set_option maxRecDepth 100000 in
theorem spr1_does (Bt Bs Br Ba Bv : Nat) {mk : Nat → Prop} {K : World → Prop} (hK : KeepK mk K) : DoesQ (fun _ _ => True) (SprS Bt Bs Br Ba Bv mk K) sprC 140 #[.pointer (some ⟨Bv, 0, none⟩)] := by
  refine ⟨?_, ent_of Tryz.func140 (by kernel_rfl) (by kernel_rfl)⟩
  intro s m x w hs hx _
  obtain ⟨k, i, t⟩ := x
  obtain ⟨n, lv⟩ := s
  have hi := hide hx.2
  clear hx
  have hS := hide (spr_stay Bt Bs Br Ba Bv hK)
  have K1 := hide (step (step (Below.refl w.heap.size w) (vO k i t)) (stO false false 0 0 no))
  have X1 : Hid (Blk ((w.alloc (vO k i t)).alloc (stO false false 0 0 no)) (w.heap.size + 1) #[.bool false, .bool false, .int .i64 0, .int .i64 0, .string no] 82) := hide (T9.Blk.new1 w (vO k i t) _ _)
  have L1 := hide (((by obtain ⟨⟨m1, _, ⟨h, _⟩, _, _⟩, _⟩ := hs; exact h : Blk w Bv #[.int .i64 lv.k, .int .i64 lv.i, .string lv.t] 31).alloc (vO k i t)).alloc (stO false false 0 0 no))
  have hne : Hid (Bv ≠ w.heap.size + 1) := hide (by obtain ⟨⟨m1, _, ⟨h, _⟩, _, _⟩, _⟩ := hs; have := h.lt; omega)
  replace hs := hide hs
  replace hK := hide hK
  by_cases k4 : k = 4
  · subst k4
    have he : sprC (n, lv) ⟨4, i, t⟩ = (.ends ⟨4, i, t⟩, (n, lv)) := if_pos rfl
    rw [he]
    have HE := endWith_is 4 i t
    go_enter Tryz.func140, Tryz.ntmps140
    go_wp2_with fail
    refine (HE.out _).mono ?_
    rintro e w2 ⟨rfl, hb2⟩
    have K2 := hide (next K1.out hb2)
    have hX2 := hide (X1.out.keep hb2)
    have z0 : w2.cell? ⟨w.heap.size + 1, 0, none⟩ = some (.bool false) := hX2.out.at' 0
    have z1 : w2.cell? ⟨w.heap.size + 1, 1, none⟩ = some (.bool false) := hX2.out.at' 1
    have z2 : w2.cell? ⟨w.heap.size + 1, 2, none⟩ = some (.int .i64 0) := hX2.out.at' 2
    have z3 : w2.cell? ⟨w.heap.size + 1, 3, none⟩ = some (.int .i64 0) := hX2.out.at' 3
    have z4 : w2.cell? ⟨w.heap.size + 1, 4, none⟩ = some (.string no) := hX2.out.at' 4
    have zf := hX2.out.fr
    have h3 := blk5 hX2.out (.bool false) (.bool true) (.int .i64 4) (.int .i64 i) (.string t)
    have c3 := hide (chg5 w2 (w.heap.size + 1) (.bool false) (.bool true) (.int .i64 4) (.int .i64 i) (.string t))
    obtain ⟨w9, hw9⟩ : ∃ w9, put5 w2 (w.heap.size + 1) (.bool false) (.bool true) (.int .i64 4) (.int .i64 i) (.string t) = w9 := ⟨_, rfl⟩
    rw [hw9] at h3 c3
    unfold put5 at hw9
    have y0 : w9.cell? ⟨w.heap.size + 1, 0, none⟩ = some (.bool false) := h3.at' 0
    have y1 : w9.cell? ⟨w.heap.size + 1, 1, none⟩ = some (.bool true) := h3.at' 1
    have y2 : w9.cell? ⟨w.heap.size + 1, 2, none⟩ = some (.int .i64 4) := h3.at' 2
    have y3 : w9.cell? ⟨w.heap.size + 1, 3, none⟩ = some (.int .i64 i) := h3.at' 3
    have y4 : w9.cell? ⟨w.heap.size + 1, 4, none⟩ = some (.string t) := h3.at' 4
    replace h3 := hide h3
    go_wp2_with fail
    refine bodyPost_ret (by simp [results, Tryz.results140, go_sem, y0, y1, y2, y3, y4]; try rfl) rfl ?_
    exact ⟨rfl, end5 hS.out (Nat.le_succ _) (bel5 hS.out hs.out K2.out (Nat.le_succ _)) c3.out⟩
  · have q4 : (k == 4) = false := by simp [k4]
    have he : sprC (n, lv) ⟨k, i, t⟩ = (.bes, (n, ⟨k, i, t⟩)) := if_neg k4
    rw [he]
    clear k4 he
    have l0 : ((w.alloc (vO k i t)).alloc (stO false false 0 0 no)).cell? ⟨Bv, 0, none⟩ = some (.int .i64 lv.k) := L1.out.at' 0
    have l1 : ((w.alloc (vO k i t)).alloc (stO false false 0 0 no)).cell? ⟨Bv, 1, none⟩ = some (.int .i64 lv.i) := L1.out.at' 1
    have l2 : ((w.alloc (vO k i t)).alloc (stO false false 0 0 no)).cell? ⟨Bv, 2, none⟩ = some (.string lv.t) := L1.out.at' 2
    have lf := L1.out.fr
    have L4 := hide (((L1.out.set 0 (.int .i64 k)).set 1 (.int .i64 i)).set 2 (.string t))
    have C4 := hide ((((Chg.refl (· = Bv) ((w.alloc (vO k i t)).alloc (stO false false 0 0 no))).set Bv 0 (.int .i64 k) rfl).set Bv 1 (.int .i64 i) rfl).set Bv 2 (.string t) rfl)
    have X4 := hide (C4.out.blk X1.out (Ne.symm hne.out))
    obtain ⟨w4, hw4⟩ : ∃ w4, put3 ((w.alloc (vO k i t)).alloc (stO false false 0 0 no)) Bv (.int .i64 k) (.int .i64 i) (.string t) = w4 := ⟨_, rfl⟩
    unfold put3 at hw4
    rw [hw4] at L4 C4 X4
    have hX2 := hide X4.out
    go_enter Tryz.func140, Tryz.ntmps140
    have z0 : w4.cell? ⟨w.heap.size + 1, 0, none⟩ = some (.bool false) := hX2.out.at' 0
    have z1 : w4.cell? ⟨w.heap.size + 1, 1, none⟩ = some (.bool false) := hX2.out.at' 1
    have z2 : w4.cell? ⟨w.heap.size + 1, 2, none⟩ = some (.int .i64 0) := hX2.out.at' 2
    have z3 : w4.cell? ⟨w.heap.size + 1, 3, none⟩ = some (.int .i64 0) := hX2.out.at' 3
    have z4 : w4.cell? ⟨w.heap.size + 1, 4, none⟩ = some (.string no) := hX2.out.at' 4
    have zf := hX2.out.fr
    have h3 := blk5 hX2.out (.bool true) (.bool false) (.int .i64 0) (.int .i64 0) (.string no)
    have c3 := hide (chg5 w4 (w.heap.size + 1) (.bool true) (.bool false) (.int .i64 0) (.int .i64 0) (.string no))
    obtain ⟨w9, hw9⟩ : ∃ w9, put5 w4 (w.heap.size + 1) (.bool true) (.bool false) (.int .i64 0) (.int .i64 0) (.string no) = w9 := ⟨_, rfl⟩
    rw [hw9] at h3 c3
    unfold put5 at hw9
    have y0 : w9.cell? ⟨w.heap.size + 1, 0, none⟩ = some (.bool true) := h3.at' 0
    have y1 : w9.cell? ⟨w.heap.size + 1, 1, none⟩ = some (.bool false) := h3.at' 1
    have y2 : w9.cell? ⟨w.heap.size + 1, 2, none⟩ = some (.int .i64 0) := h3.at' 2
    have y3 : w9.cell? ⟨w.heap.size + 1, 3, none⟩ = some (.int .i64 0) := h3.at' 3
    have y4 : w9.cell? ⟨w.heap.size + 1, 4, none⟩ = some (.string no) := h3.at' 4
    replace h3 := hide h3
    go_wp2_with fail
    refine bodyPost_ret (by simp [results, Tryz.results140, go_sem, y0, y1, y2, y3, y4]; try rfl) rfl ?_
    exact ⟨rfl, end5 hS.out (Nat.le_succ _) (spr_put hK.out hs.out K1.out (Nat.le_succ _) L4.out C4.out hi.out) c3.out⟩
theorem spr_tk {Bt Bs Br Ba Bv : Nat} {mk : Nat → Prop} {K : World → Prop} {n n2 : Int} {lv : Va} {m : Nat → Prop} {w w' : World} (hK : KeepK mk K) (hs : SprS Bt Bs Br Ba Bv mk K (n, lv) m w) (h : ∀ m1, SumS Bt Bs Br Ba Ba n m1 w → ∃ m', SumS Bt Bs Br Ba Ba n2 m' w' ∧ Grw m1 m' w ∧ Chg m1 w w') : ∃ m', SprS Bt Bs Br Ba Bv mk K (n2, lv) m' w' ∧ Grw m m' w ∧ Chg m w w' := by
  obtain ⟨⟨m1, h1, h2, h5, rfl⟩, h6⟩ := hs
  obtain ⟨m', g1, g2, g3⟩ := wth_on (spr_keep hK Bv _ _) (h m1 h1) h2 h5
  exact ⟨m', ⟨g1, h6⟩, g2, g3⟩
set_option maxHeartbeats 4000000 in
set_option maxRecDepth 100000 in
theorem spr2_tak (Bt Bs Br Ba Bv : Nat) {mk : Nat → Prop} {K : World → Prop} (hK : KeepK mk K) : Tak (SprS Bt Bs Br Ba Bv mk K) sprT 141 #[.pointer (some ⟨Bv, 0, none⟩), .pointer (some ⟨Ba, 0, none⟩)] := by
  refine ⟨?_, ent_of Tryz.func141 (by kernel_rfl) (by kernel_rfl)⟩
  intro s m x w hs hx1 hx2
  obtain ⟨n, ⟨k, i, t⟩⟩ := s
  have hS := hide (spr_stay Bt Bs Br Ba Bv hK)
  have K1 := hide (step (Below.refl w.heap.size w) (stO false false 0 0 no))
  have X1 : Hid (Blk (w.alloc (stO false false 0 0 no)) w.heap.size #[.bool false, .bool false, .int .i64 0, .int .i64 0, .string no] 82) := hide (Blk.new w _ _)
  have L1 := (by obtain ⟨⟨m1, _, ⟨h, _⟩, _, _⟩, _⟩ := hs; exact h : Blk w Bv #[.int .i64 k, .int .i64 i, .string t] 31).alloc (stO false false 0 0 no)
  have F1 := (by obtain ⟨⟨m1, h, _⟩, _⟩ := hs; exact h.2.2.2.1 : Blk w Ba #[tkV Br Bs] 114).alloc (stO false false 0 0 no)
  have hi := hs.2.2
  have l0 : (w.alloc (stO false false 0 0 no)).cell? ⟨Bv, 0, none⟩ = some (.int .i64 k) := L1.at' 0
  have l1 : (w.alloc (stO false false 0 0 no)).cell? ⟨Bv, 1, none⟩ = some (.int .i64 i) := L1.at' 1
  have f0 : (w.alloc (stO false false 0 0 no)).cell? ⟨Ba, 0, none⟩ = some (tkV Br Bs) := F1.at' 0
  clear L1 F1
  simp only at hi
  by_cases k1 : k = 1
  · subst k1
    by_cases hf : -9223372036854775808 ≤ i * x ∧ i * x ≤ 9223372036854775807
    · have he : sprT (n, ⟨1, i, t⟩) x = ((sumT n (i * x)).1, ((sumT n (i * x)).2, ⟨1, i, t⟩)) := by unfold sprT; rw [if_pos rfl, if_pos hf]
      rw [he]
      have HM := hide (fun w => mul64_yes i x w hi.1 hi.2 hx1 hx2 hf.1 hf.2)
      have HT := into_tak Bt Bs Br Ba Ba
      have hent := HT.ent
      have hnb := sumT_nb n (i * x)
      have HC : Hid (Calls Tryz.prog 159 (#[.int .i64 (i * x)] ++ #[.pointer (some ⟨Br, 0, none⟩), .pointer (some ⟨Bs, 0, none⟩)]) (w.alloc (stO false false 0 0 no)) fun e w' => e = .returned (stV (sumT n (i * x)).1) ∧ ∃ m', SprS Bt Bs Br Ba Bv mk K ((sumT n (i * x)).2, ⟨1, i, t⟩) m' w' ∧ Grw m m' (w.alloc (stO false false 0 0 no)) ∧ Chg m (w.alloc (stO false false 0 0 no)) w') := hide (by
        have hs1 := sm_of hS.out hs K1.out
        obtain ⟨⟨m1, h1, h2, h5, rfl⟩, h6⟩ := hs1
        exact (HT.call n m1 (i * x) _ h1 hf.1 hf.2).mono fun e w' ⟨g1, g2⟩ => ⟨g1, by
          obtain ⟨m', q1, q2, q3⟩ := wth_on (spr_keep hK Bv _ _) g2 h2 h5
          exact ⟨m', ⟨q1, h6⟩, q2, q3⟩⟩)
      replace hs := hide hs
      generalize sumT n (i * x) = p at *
      generalize i * x = z at *
      clear hf hi hx1 hx2 he HT
      obtain ⟨p1, n2⟩ := p
      cases p1 with
      | bes => exact absurd rfl hnb
      | on =>
        go_enter Tryz.func141, Tryz.ntmps141
        go_wp2_with fail
        refine (HM.out _).mono ?_
        rintro e w2 ⟨rfl, rfl⟩
        go_wp2_with fail
        refine HC.out.mono ?_
        rintro e w6 ⟨rfl, hg⟩
        have hg := hide hg
        simp only [stV]
        have hX2 := hide (zero5 X1.out (blk_low hS.out hs.out (Nat.le_refl _)) hg.out)
        clear l0 l1 f0
        have z0 : w6.cell? ⟨w.heap.size, 0, none⟩ = some (.bool false) := hX2.out.at' 0
        have z1 : w6.cell? ⟨w.heap.size, 1, none⟩ = some (.bool false) := hX2.out.at' 1
        have z2 : w6.cell? ⟨w.heap.size, 2, none⟩ = some (.int .i64 0) := hX2.out.at' 2
        have z3 : w6.cell? ⟨w.heap.size, 3, none⟩ = some (.int .i64 0) := hX2.out.at' 3
        have z4 : w6.cell? ⟨w.heap.size, 4, none⟩ = some (.string no) := hX2.out.at' 4
        have zf := hX2.out.fr
        have h3 := blk5 hX2.out (.bool false) (.bool false) (.int .i64 0) (.int .i64 0) (.string no)
        have c3 := hide (chg5 w6 (w.heap.size) (.bool false) (.bool false) (.int .i64 0) (.int .i64 0) (.string no))
        obtain ⟨w9, hw9⟩ : ∃ w9, put5 w6 (w.heap.size) (.bool false) (.bool false) (.int .i64 0) (.int .i64 0) (.string no) = w9 := ⟨_, rfl⟩
        rw [hw9] at h3 c3
        unfold put5 at hw9
        have y0 : w9.cell? ⟨w.heap.size, 0, none⟩ = some (.bool false) := h3.at' 0
        have y1 : w9.cell? ⟨w.heap.size, 1, none⟩ = some (.bool false) := h3.at' 1
        have y2 : w9.cell? ⟨w.heap.size, 2, none⟩ = some (.int .i64 0) := h3.at' 2
        have y3 : w9.cell? ⟨w.heap.size, 3, none⟩ = some (.int .i64 0) := h3.at' 3
        have y4 : w9.cell? ⟨w.heap.size, 4, none⟩ = some (.string no) := h3.at' 4
        replace h3 := hide h3
        go_wp2_with fail
        refine bodyPost_ret (by simp [results, Tryz.results141, go_sem, y0, y1, y2, y3, y4]; try rfl) rfl ?_
        exact ⟨rfl, end5 hS.out (Nat.le_refl _) (mid5 hS.out hs.out K1.out (Nat.le_refl _) X1.out.lt hg.out) c3.out⟩
      | ends y =>
        obtain ⟨y0', y1', y2'⟩ := y
        go_enter Tryz.func141, Tryz.ntmps141
        go_wp2_with fail
        refine (HM.out _).mono ?_
        rintro e w2 ⟨rfl, rfl⟩
        go_wp2_with fail
        refine HC.out.mono ?_
        rintro e w6 ⟨rfl, hg⟩
        have hg := hide hg
        simp only [stV]
        have hX2 := hide (zero5 X1.out (blk_low hS.out hs.out (Nat.le_refl _)) hg.out)
        clear l0 l1 f0
        have z0 : w6.cell? ⟨w.heap.size, 0, none⟩ = some (.bool false) := hX2.out.at' 0
        have z1 : w6.cell? ⟨w.heap.size, 1, none⟩ = some (.bool false) := hX2.out.at' 1
        have z2 : w6.cell? ⟨w.heap.size, 2, none⟩ = some (.int .i64 0) := hX2.out.at' 2
        have z3 : w6.cell? ⟨w.heap.size, 3, none⟩ = some (.int .i64 0) := hX2.out.at' 3
        have z4 : w6.cell? ⟨w.heap.size, 4, none⟩ = some (.string no) := hX2.out.at' 4
        have zf := hX2.out.fr
        have h3 := blk5 hX2.out (.bool false) (.bool true) (.int .i64 y0') (.int .i64 y1') (.string y2')
        have c3 := hide (chg5 w6 (w.heap.size) (.bool false) (.bool true) (.int .i64 y0') (.int .i64 y1') (.string y2'))
        obtain ⟨w9, hw9⟩ : ∃ w9, put5 w6 (w.heap.size) (.bool false) (.bool true) (.int .i64 y0') (.int .i64 y1') (.string y2') = w9 := ⟨_, rfl⟩
        rw [hw9] at h3 c3
        unfold put5 at hw9
        have y0 : w9.cell? ⟨w.heap.size, 0, none⟩ = some (.bool false) := h3.at' 0
        have y1 : w9.cell? ⟨w.heap.size, 1, none⟩ = some (.bool true) := h3.at' 1
        have y2 : w9.cell? ⟨w.heap.size, 2, none⟩ = some (.int .i64 y0') := h3.at' 2
        have y3 : w9.cell? ⟨w.heap.size, 3, none⟩ = some (.int .i64 y1') := h3.at' 3
        have y4 : w9.cell? ⟨w.heap.size, 4, none⟩ = some (.string y2') := h3.at' 4
        replace h3 := hide h3
        go_wp2_with fail
        refine bodyPost_ret (by simp [results, Tryz.results141, go_sem, y0, y1, y2, y3, y4]; try rfl) rfl ?_
        exact ⟨rfl, end5 hS.out (Nat.le_refl _) (mid5 hS.out hs.out K1.out (Nat.le_refl _) X1.out.lt hg.out) c3.out⟩
    · have he : sprT (n, ⟨1, i, t⟩) x = (.ends ⟨4, 2, no⟩, (n, ⟨1, i, t⟩)) := by unfold sprT; rw [if_pos rfl, if_neg hf]
      rw [he]
      have HM := hide (fun w => mul64_no i x w hi.1 hi.2 hx1 hx2 (by generalize i * x = z at *; omega))
      have HF := ffault_is 2
      have HE := endWith_is 4 2 no
      replace hs := hide hs
      clear hf hi hx1 hx2 he f0
      go_enter Tryz.func141, Tryz.ntmps141
      go_wp2_with fail
      refine (HM.out _).mono ?_
      rintro e w2 ⟨rfl, rfl⟩
      go_wp2_with fail
      refine (HF.out _).mono ?_
      rintro e w2 ⟨rfl, hb2⟩
      have K2 := hide (next K1.out hb2)
      have X2 := hide (X1.out.keep hb2)
      clear hb2 l0 l1
      go_wp2_with fail
      refine (HE.out _).mono ?_
      rintro e w3 ⟨rfl, hb3⟩
      have K3 := hide (next K2.out hb3)
      have hX2 := hide (X2.out.keep hb3)
      have z0 : w3.cell? ⟨w.heap.size, 0, none⟩ = some (.bool false) := hX2.out.at' 0
      have z1 : w3.cell? ⟨w.heap.size, 1, none⟩ = some (.bool false) := hX2.out.at' 1
      have z2 : w3.cell? ⟨w.heap.size, 2, none⟩ = some (.int .i64 0) := hX2.out.at' 2
      have z3 : w3.cell? ⟨w.heap.size, 3, none⟩ = some (.int .i64 0) := hX2.out.at' 3
      have z4 : w3.cell? ⟨w.heap.size, 4, none⟩ = some (.string no) := hX2.out.at' 4
      have zf := hX2.out.fr
      have h3 := blk5 hX2.out (.bool false) (.bool true) (.int .i64 4) (.int .i64 2) (.string no)
      have c3 := hide (chg5 w3 (w.heap.size) (.bool false) (.bool true) (.int .i64 4) (.int .i64 2) (.string no))
      obtain ⟨w9, hw9⟩ : ∃ w9, put5 w3 (w.heap.size) (.bool false) (.bool true) (.int .i64 4) (.int .i64 2) (.string no) = w9 := ⟨_, rfl⟩
      rw [hw9] at h3 c3
      unfold put5 at hw9
      have y0 : w9.cell? ⟨w.heap.size, 0, none⟩ = some (.bool false) := h3.at' 0
      have y1 : w9.cell? ⟨w.heap.size, 1, none⟩ = some (.bool true) := h3.at' 1
      have y2 : w9.cell? ⟨w.heap.size, 2, none⟩ = some (.int .i64 4) := h3.at' 2
      have y3 : w9.cell? ⟨w.heap.size, 3, none⟩ = some (.int .i64 2) := h3.at' 3
      have y4 : w9.cell? ⟨w.heap.size, 4, none⟩ = some (.string no) := h3.at' 4
      replace h3 := hide h3
      go_wp2_with fail
      refine bodyPost_ret (by simp [results, Tryz.results141, go_sem, y0, y1, y2, y3, y4]; try rfl) rfl ?_
      exact ⟨rfl, end5 hS.out (Nat.le_refl _) (bel5 hS.out hs.out K3.out (Nat.le_refl _)) c3.out⟩
  · have q1 : (k != 1) = true := by simp [k1]
    have he : sprT (n, ⟨k, i, t⟩) x = (.on, (n, ⟨k, i, t⟩)) := if_neg k1
    rw [he]
    replace hs := hide hs
    clear k1 he hi hx1 hx2 f0
    go_enter Tryz.func141, Tryz.ntmps141
    go_wp2_with fail
    refine bodyPost_ret (by simp [results, Tryz.results141, go_sem]; try rfl) rfl ?_
    exact ⟨rfl, m, sm_of hS.out hs.out K1.out, Grw.refl _ _, Chg.of_below K1.out⟩
end Go.Proofs.YtnpdkojhlgchlaaGreatDoor
