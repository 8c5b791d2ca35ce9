/- Package fold's sorting: what it does with a number, and at the end. Proved of the Go text. -/
import Derived.Test.YtchphbclaapfhaaGreatDoorSrt15
namespace Go.Proofs.YtchphbclaapfhaaGreatDoor
open Go.RowKit Go.Sort
open T9 (Blk Chg)
set_option linter.unusedVariables false

theorem grown_blk {w w' : World} {ob : Option Nat} {B : Nat} {cs : Array Value} {t : TypeId} (h : w.grownBy w' ob) (hb : Blk w B cs t) (hn : some B ≠ ob) : Blk w' B cs t := (h.block B hb.lt hn).trans hb
set_option maxHeartbeats 4000000 in
set_option maxRecDepth 100000 in
theorem srt_tak (mt : Nat → Prop) (TW : World → Prop) (nT : Nat) (cT : Array Value) (Bt Ba Bk Bl : Nat) (hk : KeepK mt TW) : TakQ (fun L => L.length ≤ 1000) (SrtS mt TW nT cT Bt Ba Bk Bl) srtT 126 #[.pointer (some ⟨Ba, 0, none⟩)] := by
  refine ⟨?_, ent_of Tryz.func126 (by kernel_rfl) (by kernel_rfl)⟩
  intro L m x w hs hR hx1 hx2
  have hS := hide (srt_stay mt TW nT cT Bt Ba Bk Bl hk)
  obtain ⟨v, h1, h2, h3, h4, h5, h6, h7, h8, h9, h10, h11⟩ := hs
  obtain ⟨av, nv, cv, rfl, hnv⟩ := h5.shapeN
  clear hnv
  have K2 := hide (step (step (Below.refl w.heap.size w) (stO false false 0 0 no)) (.cells #[.int .i64 x] 2))
  have X2 : Hid (Blk ((w.alloc (stO false false 0 0 no)).alloc (.cells #[.int .i64 x] 2)) w.heap.size #[.bool false, .bool false, .int .i64 0, .int .i64 0, .string no] 79) := hide ((Blk.new w _ _).alloc _)
  have A2 := hide ((h1.alloc (stO false false 0 0 no)).alloc (.cells #[.int .i64 x] 2))
  have a1 : (w.alloc (stO false false 0 0 no)).cell? ⟨Ba, 0, none⟩ = some (.slice av nv cv) := (h1.alloc _).at' 0
  have hrow : Hid (RowI ((w.alloc (stO false false 0 0 no)).alloc (.cells #[.int .i64 x] 2)) (.slice av nv cv) L) := hide (h5.keep K2.out)
  have hcx : Hid (((w.alloc (stO false false 0 0 no)).alloc (.cells #[.int .i64 x] 2)).cell? ⟨w.heap.size + 1, 0, none⟩ = some (.int .i64 x)) := hide ((T9.Blk.new1 w (stO false false 0 0 no) #[.int .i64 x] 2).at' 0)
  have hle : Hid (L.length < 1000000) := hide (by omega)
  have nown := hide h9
  have lown : Hid (∀ k, (Value.slice av nv cv).ownBlock = some k → k < w.heap.size) := hide (fun k hk' => (owns_lt h5 k hk').2)
  have nXa : Hid (w.heap.size ≠ Ba) := hide (Nat.ne_of_gt h1.lt)
  have hmid := hide (fun v' w2 w3 (g1 : RowI w2 v' (L ++ [x])) g2 g3 hB hc => srt_mid (X := w.heap.size) (w1 := ((w.alloc (stO false false 0 0 no)).alloc (.cells #[.int .i64 x] 2))) (w2 := w2) (w3 := w3) (v' := v') hk h1 h2 h3 h4 h6 h7 h8 h9 hR h11 hx1 hx2 K2.out (Nat.le_refl _) (by simp; omega) g1 g2 g3 hB hc lown.out)
  have he : srtT L x = (.on, L ++ [x]) := rfl
  rw [he]
  clear h1 h2 h3 h4 h5 h6 h7 h8 h9 h10 h11 hx1 hx2 hR he
  go_enter Tryz.func126, Tryz.ntmps126
  go_wp2_with (refine wpList_appI rfl _ _ rfl rfl rfl hrow.out x hcx.out hle.out ?_; intro v5 w5 q1 q2 q3; obtain ⟨a5, n5, c5, rfl, hn5⟩ := q1.shapeN; clear hn5; have G1 := hide q1; have G2 := hide q2; have G3 := hide q3; have A5 := hide (grown_blk q2 A2.out (fun e => (nown.out _ e.symm).1 rfl)); have X5 := hide (grown_blk q2 X2.out (fun e => by have := lown.out _ e.symm; omega)); have a5c : w5.cell? ⟨Ba, 0, none⟩ = some (.slice av nv cv) := A5.out.at' 0; have a5f := A5.out.fr 0; have A6 := hide (A5.out.set 0 (.slice a5 n5 c5)); have C6 := hide ((Chg.refl (· = Ba) w5).set Ba 0 (.slice a5 n5 c5) rfl); have X6 := hide (C6.out.blk X5.out nXa.out); obtain ⟨w6, hw6⟩ : ∃ w6, w5.setCell ⟨Ba, 0, none⟩ (.slice a5 n5 c5) = w6 := ⟨_, rfl⟩; rw [hw6] at A6 C6 X6; clear q1 q2 q3; have hX2 := hide (X6.out); have z0 : w6.cell? ⟨w.heap.size, 0, none⟩ = some (.bool false) := hX2.out.at' 0; have z1 : w6.cell? ⟨w.heap.size, 1, none⟩ = some (.bool false) := hX2.out.at' 1; have z2 : w6.cell? ⟨w.heap.size, 2, none⟩ = some (.int .i64 0) := hX2.out.at' 2; have z3 : w6.cell? ⟨w.heap.size, 3, none⟩ = some (.int .i64 0) := hX2.out.at' 3; have z4 : w6.cell? ⟨w.heap.size, 4, none⟩ = some (.string no) := hX2.out.at' 4; have zf := hX2.out.fr; have h3 := blk5 hX2.out (.bool false) (.bool false) (.int .i64 0) (.int .i64 0) (.string no); have c3 := hide (chg5 w6 (w.heap.size) (.bool false) (.bool false) (.int .i64 0) (.int .i64 0) (.string no)); obtain ⟨w9, hw9⟩ : ∃ w9, put5 w6 (w.heap.size) (.bool false) (.bool false) (.int .i64 0) (.int .i64 0) (.string no) = w9 := ⟨_, rfl⟩; rw [hw9] at h3 c3; unfold put5 at hw9; have y0 : w9.cell? ⟨w.heap.size, 0, none⟩ = some (.bool false) := h3.at' 0; have y1 : w9.cell? ⟨w.heap.size, 1, none⟩ = some (.bool false) := h3.at' 1; have y2 : w9.cell? ⟨w.heap.size, 2, none⟩ = some (.int .i64 0) := h3.at' 2; have y3 : w9.cell? ⟨w.heap.size, 3, none⟩ = some (.int .i64 0) := h3.at' 3; have y4 : w9.cell? ⟨w.heap.size, 4, none⟩ = some (.string no) := h3.at' 4; replace h3 := hide h3)
  refine bodyPost_ret (by simp [results, Tryz.results126, go_sem, y0, y1, y2, y3, y4]; try rfl) rfl ?_
  exact ⟨rfl, end5 hS.out (Nat.le_refl _) (hmid.out _ _ _ G1.out G2.out G3.out A6.out C6.out) c3.out⟩
end Go.Proofs.YtchphbclaapfhaaGreatDoor
