/- Package fold's sumProduct: what makes its rule. Proved of the Go text. -/
import Derived.Test.YtnpdkojhlgchlaaGreatDoorSfm15
namespace Go.Proofs.YtnpdkojhlgchlaaGreatDoor
open Go.RowKit Go.Sort
open T9 (Blk Chg)
set_option linter.unusedVariables false

theorem cell_of_block {w w' : World} {b i : Nat} {v : Value} (h : w.cell? ⟨b, i, none⟩ = some v) (e : w'.heap[b]? = w.heap[b]?) : w'.cell? ⟨b, i, none⟩ = some v := by
  have := T9.range_of_block (w := w) (w' := w') (b := b) (o := i) (cs := [v]) (fun j u hu => by
    match j, hu with
    | 0, hu => rw [Nat.add_zero]; exact h.trans (by simpa using hu)
    | j + 1, hu => simp at hu) e 0 v rfl
  simpa using this
/-- What sumProduct's closures read. -/
def sprM (Bk Bp : Nat) (k : Nat) : Prop := k = Bk ∨ k = Bp ∨ k = Bp + 1
def sprK (m : Nat) (Bv Ba Bk Bp : Nat) (w : World) : Prop := Blk w Bk #[.func (.func 141) #[] #[.pointer (some ⟨Bv, 0, none⟩), .pointer (some ⟨Ba, 0, none⟩)]] 114 ∧ Blk w Bp #[.int .i64 0, .int .i64 0, .int .i64 ((m : Int) - 1), .int .i64 0] 39 ∧ Blk w (Bp + 1) #[.int .i64 0, .int .i64 1, .int .i64 ((m : Int) - 1), .int .i64 1] 39
theorem sprK_keep (m : Nat) (Bv Ba Bk Bp : Nat) : KeepK (sprM Bk Bp) (sprK m Bv Ba Bk Bp) := by
  constructor
  · intro w h k hk
    rcases hk with rfl | rfl | rfl
    · exact h.1.lt
    · exact h.2.1.lt
    · exact h.2.2.lt
  · intro w w' h hb
    exact ⟨(hb _ (.inl rfl)).trans h.1, (hb _ (.inr (.inl rfl))).trans h.2.1, (hb _ (.inr (.inr rfl))).trans h.2.2⟩
set_option maxHeartbeats 8000000 in
set_option maxRecDepth 100000 in
theorem sumProduct_mk (m : Nat) (h1 : 1 ≤ m) (h3 : m ≤ 300) : MkX 61 [agC (m : Nat), agB m] [agC (m : Nat)] ((0, ⟨0, 0, no⟩) : Int × Va) dG (fun s => ⟨1, s.1, no⟩) (BesX (fun _ => True) sprC (celN sprT) (likB 0 0 0 1) (fun s => ⟨1, s.1, no⟩)) := by
  refine ⟨?_, ent_of Tryz.func61 (by kernel_rfl) (by kernel_rfl), (fun s v e => by cases e), (fun a ha => by rcases List.mem_cons.1 ha with rfl | ha; exact agC_ok _ (by omega) (by omega); cases ha), by simp⟩
  intro w g cap hg hcap hrow
  have R0 := hrow 0 _ rfl
  have R1 := hrow 1 _ rfl
  have hsl := fun w => slice01 g 0 2 cap (by decide) (by simpa using hcap) w
  have hc1 : (1 : Int) ≤ (cap : Int) := by simp only [List.length_cons, List.length_nil] at hcap; omega
  have hgl : Hid (g < w.heap.size) := hide hg
  have hrw : Hid (w.rangeAt g (0 + 0 * 8) (agL (agC (m : Nat)))) := hide R0
  simp only [List.length_cons, List.length_nil]
  obtain ⟨w0, hw0⟩ : ∃ w0, w.alloc (.cells #[.slice none 0 0, .nilFunc, .nilFunc, .nilFunc, .nilFunc, .nilFunc] 74) = w0 := ⟨_, rfl⟩
  have K0 : Below w.heap.size w w0 := by rw [← hw0]; exact step (Below.refl _ _) _
  have B0 : Hid (Blk w0 w.heap.size #[.slice none 0 0, .nilFunc, .nilFunc, .nilFunc, .nilFunc, .nilFunc] 74) := hide (by rw [← hw0]; exact Blk.new w _ _)
  have hz0 : Hid (w0.heap.size = w.heap.size + 1) := hide (by rw [← hw0]; simp)
  have d0 : w.cell? ⟨g, 0, none⟩ = some (.bool true) := by have := R0 0 _ rfl; simpa using this
  have d1 : w.cell? ⟨g, 1, none⟩ = some (.int .i64 0) := by have := R0 1 _ rfl; simpa using this
  have d2 : w.cell? ⟨g, 2, none⟩ = some (.int .i64 0) := by have := R0 2 _ rfl; simpa using this
  have d3 : w.cell? ⟨g, 3, none⟩ = some (.int .i64 ((m : Int) - 1)) := by have := R0 3 _ rfl; simpa using this
  have d4 : w.cell? ⟨g, 4, none⟩ = some (.int .i64 0) := by have := R0 4 _ rfl; simpa using this
  have d5 : w.cell? ⟨g, 5, none⟩ = some (.int .i64 0) := by have := R0 5 _ rfl; simpa using this
  have d6 : w.cell? ⟨g, 6, none⟩ = some (.int .i64 0) := by have := R0 6 _ rfl; simpa using this
  have d7 : w.cell? ⟨g, 7, none⟩ = some (.string no) := by have := R0 7 _ rfl; simpa using this
  have t0 : w.cell? ⟨g, 8, none⟩ = some (.bool true) := by have := R1 0 _ rfl; simpa using this
  have t1 : w.cell? ⟨g, 9, none⟩ = some (.int .i64 0) := by have := R1 1 _ rfl; simpa using this
  have t2 : w.cell? ⟨g, 10, none⟩ = some (.int .i64 1) := by have := R1 2 _ rfl; simpa using this
  have t3 : w.cell? ⟨g, 11, none⟩ = some (.int .i64 ((m : Int) - 1)) := by have := R1 3 _ rfl; simpa using this
  have t4 : w.cell? ⟨g, 12, none⟩ = some (.int .i64 1) := by have := R1 4 _ rfl; simpa using this
  have t5 : w.cell? ⟨g, 13, none⟩ = some (.int .i64 0) := by have := R1 5 _ rfl; simpa using this
  have t6 : w.cell? ⟨g, 14, none⟩ = some (.int .i64 0) := by have := R1 6 _ rfl; simpa using this
  have t7 : w.cell? ⟨g, 15, none⟩ = some (.string no) := by have := R1 7 _ rfl; simpa using this
  have e0 := cell_regrown (show w0.cell? ⟨g, 0, none⟩ = some (.bool true) from keep1 K0 d0)
  have e1 := cell_regrown (show w0.cell? ⟨g, 1, none⟩ = some (.int .i64 0) from keep1 K0 d1)
  have e2 := cell_regrown (show w0.cell? ⟨g, 2, none⟩ = some (.int .i64 0) from keep1 K0 d2)
  have e3 := cell_regrown (show w0.cell? ⟨g, 3, none⟩ = some (.int .i64 ((m : Int) - 1)) from keep1 K0 d3)
  have e4 := cell_regrown (show w0.cell? ⟨g, 4, none⟩ = some (.int .i64 0) from keep1 K0 d4)
  have e5 := cell_regrown (show w0.cell? ⟨g, 5, none⟩ = some (.int .i64 0) from keep1 K0 d5)
  have e6 := cell_regrown (show w0.cell? ⟨g, 6, none⟩ = some (.int .i64 0) from keep1 K0 d6)
  have e7 := cell_regrown (show w0.cell? ⟨g, 7, none⟩ = some (.string no) from keep1 K0 d7)
  have f0 := cell_regrown (show w0.cell? ⟨g, 8, none⟩ = some (.bool true) from keep1 K0 t0)
  have f1 := cell_regrown (show w0.cell? ⟨g, 9, none⟩ = some (.int .i64 0) from keep1 K0 t1)
  have f2 := cell_regrown (show w0.cell? ⟨g, 10, none⟩ = some (.int .i64 1) from keep1 K0 t2)
  have f3 := cell_regrown (show w0.cell? ⟨g, 11, none⟩ = some (.int .i64 ((m : Int) - 1)) from keep1 K0 t3)
  have f4 := cell_regrown (show w0.cell? ⟨g, 12, none⟩ = some (.int .i64 1) from keep1 K0 t4)
  have f5 := cell_regrown (show w0.cell? ⟨g, 13, none⟩ = some (.int .i64 0) from keep1 K0 t5)
  have f6 := cell_regrown (show w0.cell? ⟨g, 14, none⟩ = some (.int .i64 0) from keep1 K0 t6)
  have f7 := cell_regrown (show w0.cell? ⟨g, 15, none⟩ = some (.string no) from keep1 K0 t7)
  have dd := hide (And.intro d1 (And.intro d2 (And.intro d3 (And.intro d4 (And.intro t1 (And.intro t2 (And.intro t3 t4)))))))
  have kq2 := fun d' os => Calls.regrown_of ((amiss_pair ((m : Int) - 1) 1 (by omega) (by omega) (by decide) (by decide)).out (grow (redrawn w0 d') os))
  replace K0 := hide K0
  replace hw0 := hide hw0
  replace hrow := hide hrow
  replace hg := hide hg
  clear R0 R1 d0 d1 d2 d3 d4 d5 d6 d7 t0 t1 t2 t3 t4 t5 t6 t7
  go_enter Tryz.func61, Tryz.ntmps61
  go_upto_region 1 with fail
  rw [hw0.out]
  clear hw0
  refine wp_region_quiet_below (by kernel_rfl) (by kernel_rfl) ?_
  repeat (go_big_quiet_step (first | (with_reducible exact kq2 _ _)))
  refine wpQuiet_nil ?_
  intro wq hwq
  have hbq : Hid (Below w0.heap.size w0 wq) := hide (by obtain ⟨⟨dq, osq⟩, hq⟩ := hwq; rw [hq]; exact below_regrown _ dq osq)
  clear hwq e0 e1 e2 e3 e4 e5 e6 e7 f0 f1 f2 f3 f4 f5 f6 f7 kq2
  go_wp2_with fail
  refine (into_is _ _ _).mono ?_
  rintro e w3 ⟨rfl, rfl⟩
  go_wp2_with fail
  refine (ofn_is _ _ _).mono ?_
  rintro e w3 ⟨rfl, rfl⟩
  go_upto_region 9 with fail
  obtain ⟨Bn, hBn⟩ : ∃ Bn, wq.heap.size = Bn := ⟨_, rfl⟩
  have nB : Hid (w0.heap.size ≤ Bn) := hide (by rw [← hBn]; exact hbq.out.size)
  obtain ⟨wy, hwy⟩ : ∃ wy, (((((wq.alloc (.cells #[.int .i64 0, .int .i64 0, .string no] 31)).alloc (.cells #[.int .i64 0] 2)).alloc (.cells #[.pointer (some ⟨wq.heap.size + 1, 0, none⟩)] 116)).alloc (.cells #[.func (.func 89) #[] #[]] 117)).alloc (.cells #[tkV (wq.heap.size + 1 + 1 + 1) (wq.heap.size + 1 + 1)] 114)).alloc (.cells #[.func (.func 141) #[] #[.pointer (some ⟨wq.heap.size, 0, none⟩), .pointer (some ⟨wq.heap.size + 1 + 1 + 1 + 1, 0, none⟩)]] 114) = wy := ⟨_, rfl⟩
  have S0 : Hid (SumS (Bn + 1) (Bn + 2) (Bn + 3) (Bn + 4) (Bn + 4) 0 (fun k => k = Bn + 1 ∨ k = Bn + 2 ∨ k = Bn + 3 ∨ k = Bn + 4 ∨ k = Bn + 4) wy) := hide (by
    rw [← hBn, ← hwy]
    exact ⟨((((blk_at _ _ (by simp) _ _).alloc _).alloc _).alloc _).alloc _, (((blk_at _ _ (by simp) _ _).alloc _).alloc _).alloc _, ((blk_at _ _ (by simp) _ _).alloc _).alloc _, (blk_at _ _ (by simp) _ _).alloc _, (blk_at _ _ (by simp) _ _).alloc _, rfl, by omega, by decide, by decide⟩)
  have L0 : Hid (Blk wy Bn #[.int .i64 0, .int .i64 0, .string no] 31) := hide (by rw [← hBn, ← hwy]; exact (((((blk_at _ _ (by simp) _ _).alloc _).alloc _).alloc _).alloc _).alloc _)
  have F0 : Hid (Blk wy (Bn + 5) #[.func (.func 141) #[] #[.pointer (some ⟨Bn, 0, none⟩), .pointer (some ⟨Bn + 4, 0, none⟩)]] 114) := hide (by rw [← hBn, ← hwy]; exact blk_at _ _ (by simp) _ _)
  have KY : Hid (Below wq.heap.size wq wy) := hide (by rw [← hwy]; exact step (step (step (step (step (step (Below.refl _ _) _) _) _) _) _) _)
  have hzy : Hid (wy.heap.size = Bn + 6) := hide (by rw [← hwy, ← hBn]; simp)
  unfold tkV at hwy
  rw [hwy]
  try rw [hBn]
  clear hwy
  have BY := hide (B0.out.keep (next hbq.out KY.out))
  have KK := hide (next K0.out (next hbq.out KY.out))
  clear KY hBn B0 hbq
  have p0 : wy.cell? ⟨g, 1, none⟩ = some (.int .i64 0) := keep1 KK.out dd.out.1
  have p1 : wy.cell? ⟨g, 2, none⟩ = some (.int .i64 0) := keep1 KK.out dd.out.2.1
  have p2 : wy.cell? ⟨g, 3, none⟩ = some (.int .i64 ((m : Int) - 1)) := keep1 KK.out dd.out.2.2.1
  have p3 : wy.cell? ⟨g, 4, none⟩ = some (.int .i64 0) := keep1 KK.out dd.out.2.2.2.1
  have p4 : wy.cell? ⟨g, 9, none⟩ = some (.int .i64 0) := keep1 KK.out dd.out.2.2.2.2.1
  have p5 : wy.cell? ⟨g, 10, none⟩ = some (.int .i64 1) := keep1 KK.out dd.out.2.2.2.2.2.1
  have p6 : wy.cell? ⟨g, 11, none⟩ = some (.int .i64 ((m : Int) - 1)) := keep1 KK.out dd.out.2.2.2.2.2.2.1
  have p7 : wy.cell? ⟨g, 12, none⟩ = some (.int .i64 1) := keep1 KK.out dd.out.2.2.2.2.2.2.2
  have HL := hide (fun w' (hw' : Below wy.heap.size wy w') => lik_c m 1 wy w' hw')
  have HS2 := hide (fun w' (hb : Below wy.heap.size wy w') => (show w'.cell? ⟨g, 1, none⟩ = some (.int .i64 0) ∧ w'.cell? ⟨g, 2, none⟩ = some (.int .i64 0) ∧ w'.cell? ⟨g, 3, none⟩ = some (.int .i64 ((m : Int) - 1)) ∧ w'.cell? ⟨g, 4, none⟩ = some (.int .i64 0) ∧ w'.cell? ⟨g, 9, none⟩ = some (.int .i64 0) ∧ w'.cell? ⟨g, 10, none⟩ = some (.int .i64 1) ∧ w'.cell? ⟨g, 11, none⟩ = some (.int .i64 ((m : Int) - 1)) ∧ w'.cell? ⟨g, 12, none⟩ = some (.int .i64 1) from ⟨keep1 hb p0, keep1 hb p1, keep1 hb p2, keep1 hb p3, keep1 hb p4, keep1 hb p5, keep1 hb p6, keep1 hb p7⟩))
  go_region_held (fun w' => w'.cell? ⟨g, 1, none⟩ = some (.int .i64 0) ∧ w'.cell? ⟨g, 2, none⟩ = some (.int .i64 0) ∧ w'.cell? ⟨g, 3, none⟩ = some (.int .i64 ((m : Int) - 1)) ∧ w'.cell? ⟨g, 4, none⟩ = some (.int .i64 0) ∧ w'.cell? ⟨g, 9, none⟩ = some (.int .i64 0) ∧ w'.cell? ⟨g, 10, none⟩ = some (.int .i64 1) ∧ w'.cell? ⟨g, 11, none⟩ = some (.int .i64 ((m : Int) - 1)) ∧ w'.cell? ⟨g, 12, none⟩ = some (.int .i64 1)) (first | exact HS2.out _ (Below.refl _ _).drew | exact HS2.out _ hX.out.2.2.2 | exact S9.out | (simp only [hw9]; exact S9.out)) (first | (refine (HL.out _ (by first | exact (Below.refl _ _).drew | exact Below.refl _ _)).mono ?_; rintro e wx ⟨Bp, rfl, hX⟩; have BD := BY.out.keep hX.out.2.2.2; have z0 : wx.cell? ⟨w.heap.size, 0, none⟩ = some (.slice none 0 0) := BD.at' 0; have z1 : wx.cell? ⟨w.heap.size, 1, none⟩ = some (.nilFunc) := BD.at' 1; have z2 : wx.cell? ⟨w.heap.size, 2, none⟩ = some (.nilFunc) := BD.at' 2; have z3 : wx.cell? ⟨w.heap.size, 3, none⟩ = some (.nilFunc) := BD.at' 3; have z4 : wx.cell? ⟨w.heap.size, 4, none⟩ = some (.nilFunc) := BD.at' 4; have z5 : wx.cell? ⟨w.heap.size, 5, none⟩ = some (.nilFunc) := BD.at' 5; have zf := BD.fr; have h9 := ((((((BD.set 0 (.slice (some ⟨g, 0, none⟩) 1 cap)).set 1 (.nilFunc)).set 2 (.func (.func 140) #[] #[.pointer (some ⟨Bn, 0, none⟩)])).set 3 (.func (.func 189) #[] #[.pointer (some ⟨Bp, 0, none⟩), .pointer (some ⟨Bp + 1, 0, none⟩)])).set 4 (.func (.func 188) #[] #[.pointer (some ⟨Bn + 1 + 1 + 1 + 1 + 1, 0, none⟩)])).set 5 (.func (.func 142) #[] #[.pointer (some ⟨Bn + 1, 0, none⟩)])); have c9 := hide (((((((Chg.refl (· = w.heap.size) wx).set (w.heap.size) 0 (.slice (some ⟨g, 0, none⟩) 1 cap) rfl).set (w.heap.size) 1 (.nilFunc) rfl).set (w.heap.size) 2 (.func (.func 140) #[] #[.pointer (some ⟨Bn, 0, none⟩)]) rfl).set (w.heap.size) 3 (.func (.func 189) #[] #[.pointer (some ⟨Bp, 0, none⟩), .pointer (some ⟨Bp + 1, 0, none⟩)]) rfl).set (w.heap.size) 4 (.func (.func 188) #[] #[.pointer (some ⟨Bn + 1 + 1 + 1 + 1 + 1, 0, none⟩)]) rfl).set (w.heap.size) 5 (.func (.func 142) #[] #[.pointer (some ⟨Bn + 1, 0, none⟩)]) rfl); obtain ⟨w9, hw9⟩ : ∃ w9, ((((((wx.setCell ⟨w.heap.size, 0, none⟩ (.slice (some ⟨g, 0, none⟩) 1 cap)).setCell ⟨w.heap.size, 1, none⟩ (.nilFunc)).setCell ⟨w.heap.size, 2, none⟩ (.func (.func 140) #[] #[.pointer (some ⟨Bn, 0, none⟩)])).setCell ⟨w.heap.size, 3, none⟩ (.func (.func 189) #[] #[.pointer (some ⟨Bp, 0, none⟩), .pointer (some ⟨Bp + 1, 0, none⟩)])).setCell ⟨w.heap.size, 4, none⟩ (.func (.func 188) #[] #[.pointer (some ⟨Bn + 1 + 1 + 1 + 1 + 1, 0, none⟩)])).setCell ⟨w.heap.size, 5, none⟩ (.func (.func 142) #[] #[.pointer (some ⟨Bn + 1, 0, none⟩)])) = w9 := ⟨_, rfl⟩; rw [hw9] at h9 c9; have y0 : w9.cell? ⟨w.heap.size, 0, none⟩ = some (.slice (some ⟨g, 0, none⟩) 1 cap) := h9.at' 0; have y1 : w9.cell? ⟨w.heap.size, 1, none⟩ = some (.nilFunc) := h9.at' 1; have y2 : w9.cell? ⟨w.heap.size, 2, none⟩ = some (.func (.func 140) #[] #[.pointer (some ⟨Bn, 0, none⟩)]) := h9.at' 2; have y3 : w9.cell? ⟨w.heap.size, 3, none⟩ = some (.func (.func 189) #[] #[.pointer (some ⟨Bp, 0, none⟩), .pointer (some ⟨Bp + 1, 0, none⟩)]) := h9.at' 3; have y4 : w9.cell? ⟨w.heap.size, 4, none⟩ = some (.func (.func 188) #[] #[.pointer (some ⟨Bn + 1 + 1 + 1 + 1 + 1, 0, none⟩)]) := h9.at' 4; have y5 : w9.cell? ⟨w.heap.size, 5, none⟩ = some (.func (.func 142) #[] #[.pointer (some ⟨Bn + 1, 0, none⟩)]) := h9.at' 5; have hgw : w9.heap[g]? = wy.heap[g]? := (c9.out.block g (Nat.lt_of_lt_of_le hgl.out (next KK.out hX.out.2.2.2).size) (Nat.ne_of_lt hgl.out)).trans (hX.out.2.2.2.block g (Nat.lt_of_lt_of_le hgl.out KK.out.size)); have S9 := hide (show w9.cell? ⟨g, 1, none⟩ = some (.int .i64 0) ∧ w9.cell? ⟨g, 2, none⟩ = some (.int .i64 0) ∧ w9.cell? ⟨g, 3, none⟩ = some (.int .i64 ((m : Int) - 1)) ∧ w9.cell? ⟨g, 4, none⟩ = some (.int .i64 0) ∧ w9.cell? ⟨g, 9, none⟩ = some (.int .i64 0) ∧ w9.cell? ⟨g, 10, none⟩ = some (.int .i64 1) ∧ w9.cell? ⟨g, 11, none⟩ = some (.int .i64 ((m : Int) - 1)) ∧ w9.cell? ⟨g, 12, none⟩ = some (.int .i64 1) from ⟨cell_of_block p0 hgw, cell_of_block p1 hgw, cell_of_block p2 hgw, cell_of_block p3 hgw, cell_of_block p4 hgw, cell_of_block p5 hgw, cell_of_block p6 hgw, cell_of_block p7 hgw⟩); replace h9 := hide h9; replace hgw := hide hgw; clear BD))
  all_goals
    go_wp2_with fail
    refine bodyPost_ret (v := .agg #[.slice (some ⟨g, 0, none⟩) 1 cap, .nilFunc, .func (.func 140) #[] #[.pointer (some ⟨Bn, 0, none⟩)], .func (.func 189) #[] #[.pointer (some ⟨Bp, 0, none⟩), .pointer (some ⟨Bp + 1, 0, none⟩)], .func (.func 188) #[] #[.pointer (some ⟨Bn + 1 + 1 + 1 + 1 + 1, 0, none⟩)], .func (.func 142) #[] #[.pointer (some ⟨Bn + 1, 0, none⟩)]]) (by simp [results, Tryz.results61, go_sem, y0, y1, y2, y3, y4, y5]; try rfl) rfl ?_
    obtain ⟨x1, x2, x3, x4⟩ := hX.out
    have b1 := hz0.out
    have b4 := hzy.out
    have b5 := hgl.out
    have b6 := nB.out
    have hkp := sprK_keep m Bn (Bn + 4) (Bn + 5) Bp
    have hS := spr_stay (Bn + 1) (Bn + 2) (Bn + 3) (Bn + 4) Bn hkp
    have hbt : ∀ s mm ww, SprS (Bn + 1) (Bn + 2) (Bn + 3) (Bn + 4) Bn (sprM (Bn + 5) Bp) (sprK m Bn (Bn + 4) (Bn + 5) Bp) s mm ww → Blk ww (Bn + 1) #[.int .i64 s.1] 2 := fun s mm ww ⟨⟨_, h, _⟩, _⟩ => h.1
    have hca := ofn_does hS sprT _ _ (spr2_tak (Bn + 1) (Bn + 2) (Bn + 3) (Bn + 4) Bn hkp) (Bn + 5) (fun s mm ww ⟨⟨_, _, ⟨_, h⟩, _⟩, _⟩ => h.1) sprT_nb
    have hen := spr3_ends (fun s : Int × Va => s.1) (Bn + 1) hbt
    have hsum : SumS (Bn + 1) (Bn + 2) (Bn + 3) (Bn + 4) (Bn + 4) 0 (fun k => k = Bn + 1 ∨ k = Bn + 2 ∨ k = Bn + 3 ∨ k = Bn + 4 ∨ k = Bn + 4) w9 := by
      have hss := sum_stay (Bn + 1) (Bn + 2) (Bn + 3) (Bn + 4) (Bn + 4)
      exact hss.same (sm_of hss S0.out x4) (fun k hk => c9.out.block k (Nat.lt_of_lt_of_le (hss.lt S0.out k hk) x4.size) (by omega))
    have hgb : w9.heap[g]? = w.heap[g]? := hgw.out.trans (KK.out.block g hgl.out)
    have hkk : sprK m Bn (Bn + 4) (Bn + 5) Bp w9 := ⟨c9.out.blk (F0.out.keep x4) (by omega), c9.out.blk x1 (by omega), c9.out.blk x2 (by omega)⟩
    refine ⟨⟨.nilFunc, _, _, _, _⟩, SprS (Bn + 1) (Bn + 2) (Bn + 3) (Bn + 4) Bn (sprM (Bn + 5) Bp) (sprK m Bn (Bn + 4) (Bn + 5) Bp), _, some ⟨g, 0, none⟩, cap, rfl, ⟨hS, ⟨_, _, rfl, hen⟩, .inl (agC_isC m), ⟨rfl, rfl, rfl, rfl, rfl⟩⟩, ⟨hS, ⟨_, _, rfl, hen⟩, ⟨_, _, rfl, spr1_does (Bn + 1) (Bn + 2) (Bn + 3) (Bn + 4) Bn hkp⟩, ⟨_, _, rfl, lik1_bes 0 0 ((m : Int) - 1) 0 0 1 ((m : Int) - 1) 1 Bp (Bp + 1) (fun s mm ww ⟨⟨_, _, ⟨_, h⟩, _⟩, _⟩ => h.2)⟩, ⟨_, _, rfl, hca.q _⟩⟩, ⟨⟨_, hsum, ⟨c9.out.blk (L0.out.keep x4) (by omega), hkk⟩, (fun k hk e => by unfold sprM at hk; omega), rfl⟩, (fun hk => by unfold sprM at hk; omega), by decide, by decide⟩, (fun k hk => by unfold sprM at hk; omega), .inr ⟨g, 0, rfl, ⟨.inl rfl, fun e => by unfold sprM at e; omega, Nat.lt_of_lt_of_le hgl.out (Nat.le_trans (next KK.out x4).size c9.out.size)⟩, fun j y hy => ?_⟩, by simp only [List.length_cons, List.length_nil] at hcap ⊢; omega, bel_chg (next KK.out x4) (by omega) c9.out⟩
    have hj : j = 0 := by have := (List.getElem?_eq_some_iff.1 hy).1; simp at this; omega
    subst hj
    obtain rfl : agC (m : Nat) = y := by simpa using hy
    exact T9.range_of_block hrw.out hgb
end Go.Proofs.YtnpdkojhlgchlaaGreatDoor
