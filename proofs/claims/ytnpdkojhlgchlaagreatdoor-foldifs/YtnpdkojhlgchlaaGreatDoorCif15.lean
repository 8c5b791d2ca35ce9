/- Package fold's countIf of a number: what makes its rule. Proved of the Go text. -/
import Derived.Test.YtnpdkojhlgchlaaGreatDoorMat15
import Derived.Test.YtnpdkojhlgchlaaGreatDoorCnt15
namespace Go.Proofs.YtnpdkojhlgchlaaGreatDoor
open Go.RowKit Go.Sort
open T9 (Blk Chg)
set_option linter.unusedVariables false

theorem slice01 (b o len cap : Nat) (hl : 1 ≤ len) (hc : len ≤ cap) (w : World) : (Instr.slice 29 (.slice (some ⟨b, o, none⟩) len cap) none (some (.int .i64 1)) none).run Tryz.prog w = .ok (.slice (some ⟨b, o, none⟩) 1 cap) w := by
  have hu := Tryz.underlying29
  have h1 : (1 : Int) ≤ (cap : Int) := by omega
  go_simp
  try (intro h; omega)
  try (rw [if_pos (by omega)])
set_option maxHeartbeats 1000000 in
set_option maxRecDepth 100000 in
theorem cif1_is (x : Int) (Bx : Nat) : PredK isI (· = Bx) (fun w => Blk w Bx #[.bool false, .int .i64 0, .int .i64 0, .int .i64 0, .int .i64 0, .int .i64 1, .int .i64 x, .string no] 41) (fun v => v.i == x) 139 #[.pointer (some ⟨Bx, 0, none⟩)] := by
  refine ⟨?_, ent_of Tryz.func139 (by kernel_rfl) (by kernel_rfl), (fun h k hk => hk ▸ Blk.lt h), fun h hb => (hb Bx rfl).trans h⟩
  intro v w hK hv hq
  rw [no_of_int hv hq]
  generalize v.i = i
  clear hv hq v
  have A1 := Blk.alloc hK (vO 1 i no)
  have b0 : (w.alloc (vO 1 i no)).cell? ⟨Bx, 0, none⟩ = some (.bool false) := A1.at' 0
  have b1 : (w.alloc (vO 1 i no)).cell? ⟨Bx, 1, none⟩ = some (.int .i64 0) := A1.at' 1
  have b2 : (w.alloc (vO 1 i no)).cell? ⟨Bx, 2, none⟩ = some (.int .i64 0) := A1.at' 2
  have b3 : (w.alloc (vO 1 i no)).cell? ⟨Bx, 3, none⟩ = some (.int .i64 0) := A1.at' 3
  have b4 : (w.alloc (vO 1 i no)).cell? ⟨Bx, 4, none⟩ = some (.int .i64 0) := A1.at' 4
  have b5 : (w.alloc (vO 1 i no)).cell? ⟨Bx, 5, none⟩ = some (.int .i64 1) := A1.at' 5
  have b6 : (w.alloc (vO 1 i no)).cell? ⟨Bx, 6, none⟩ = some (.int .i64 x) := A1.at' 6
  have b7 : (w.alloc (vO 1 i no)).cell? ⟨Bx, 7, none⟩ = some (.string no) := A1.at' 7
  have HS := sought_int i x
  try simp only
  generalize (i == x) = r at *
  clear A1
  go_enter Tryz.func139, Tryz.ntmps139
  go_wp2_with fail
  refine (HS.out _).mono ?_
  rintro e w5 ⟨rfl, hb5⟩
  have K5 := hide (next (step (Below.refl w.heap.size w) (vO 1 i no)) hb5)
  go_wp2_with fail
  go_ret
  exact ⟨rfl, K5.out⟩
theorem counting_c (a : Option Addr) (len cap nG : Nat) (cG : Array Value) (nC : Nat) (cC : Array Value) (w : World) : Calls Tryz.prog 96 #[.slice a len cap, .func (.func nG) #[] cG, .func (.func nC) #[] cC] w fun e w' => e = .returned (.agg #[.slice a len cap, .func (.func 163) #[] #[.pointer (some ⟨w.heap.size + 2, 0, none⟩), .pointer (some ⟨w.heap.size + 1, 0, none⟩)], .func (.func 163) #[] #[.pointer (some ⟨w.heap.size + 3, 0, none⟩), .pointer (some ⟨w.heap.size + 1, 0, none⟩)], .nilFunc, .nilFunc, .func (.func 164) #[] #[.pointer (some ⟨w.heap.size + 1, 0, none⟩)]]) ∧ (Blk w' (w.heap.size + 1) #[.int .i64 0] 2 ∧ Blk w' (w.heap.size + 2) #[.func (.func nG) #[] cG] 80 ∧ Blk w' (w.heap.size + 3) #[.func (.func nC) #[] cC] 80) ∧ Below w.heap.size w w' := by
  refine (counting_is a len cap nG cG nC cC w).mono ?_
  rintro e w' ⟨rfl, rfl⟩
  exact ⟨rfl, ⟨((blk_at _ _ (by simp) _ _).alloc _).alloc _, (blk_at _ _ (by simp) _ _).alloc _, blk_at _ _ (by simp) _ _⟩, by go_grown⟩
set_option maxHeartbeats 4000000 in
set_option maxRecDepth 100000 in
theorem countIf_mk (x : Int) (m : Nat) (h1 : 1 ≤ m) (h3 : m ≤ 300) : MkX 60 [agC (m : Nat), agN x] [agC (m : Nat)] (0 : Int) dG (fun n => ⟨1, n, no⟩) (PlainX isI (fun _ => True) (cntT (fun v => v.i == x)) (fun n => ⟨1, n, no⟩)) := by
  refine ⟨?_, ent_of Tryz.func60 (by kernel_rfl) (by kernel_rfl), (fun s v e => by cases e), (fun a ha => by rcases List.mem_cons.1 ha with rfl | ha; exact agC_ok _ (by omega) (by omega); cases ha), by simp⟩
  intro w g cap hg hcap hrow
  have Rx := hrow 1 _ rfl
  have Rc := hrow 0 _ rfl
  have hsl := fun w => slice01 g 0 2 cap (by decide) (by simpa using hcap) w
  simp only [List.length_cons, List.length_nil]
  have H1 := amiss_sought x
  have H2 := amiss_area 0 0 ((m : Int) - 1) 0 ⟨0, 0, no⟩
  have B0 := hide (Blk.new w #[.slice none 0 0, .nilFunc, .nilFunc, .nilFunc, .nilFunc, .nilFunc] 74)
  have hgl : Hid (g < w.heap.size) := hide hg
  obtain ⟨wa, hwa⟩ : ∃ wa, (w.alloc (.cells #[.slice none 0 0, .nilFunc, .nilFunc, .nilFunc, .nilFunc, .nilFunc] 74)).alloc (.cells #[.bool false, .int .i64 0, .int .i64 0, .int .i64 0, .int .i64 0, .int .i64 1, .int .i64 x, .string no] 41) = wa := ⟨_, rfl⟩
  have KA : Below w.heap.size w wa := by rw [← hwa]; exact step (step (Below.refl _ _) _) _
  have BA : Hid (Blk wa w.heap.size #[.slice none 0 0, .nilFunc, .nilFunc, .nilFunc, .nilFunc, .nilFunc] 74) := hide (by rw [← hwa]; exact (Blk.new w _ _).alloc _)
  have XA : Blk wa (w.heap.size + 1) #[.bool false, .int .i64 0, .int .i64 0, .int .i64 0, .int .i64 0, .int .i64 1, .int .i64 x, .string no] 41 := by rw [← hwa]; exact T9.Blk.new1 w _ _ _
  have hza : Hid (wa.heap.size = w.heap.size + 2) := hide (by rw [← hwa]; simp)
  have d0 : ∀ oo, (w.alloc oo).cell? ⟨g, 8, none⟩ = some (.bool false) := fun oo => keep1 (step (Below.refl w.heap.size w) oo) (by have := Rx 0 _ rfl; simpa using this)
  have d1 : ∀ oo, (w.alloc oo).cell? ⟨g, 9, none⟩ = some (.int .i64 0) := fun oo => keep1 (step (Below.refl w.heap.size w) oo) (by have := Rx 1 _ rfl; simpa using this)
  have d2 : ∀ oo, (w.alloc oo).cell? ⟨g, 10, none⟩ = some (.int .i64 0) := fun oo => keep1 (step (Below.refl w.heap.size w) oo) (by have := Rx 2 _ rfl; simpa using this)
  have d3 : ∀ oo, (w.alloc oo).cell? ⟨g, 11, none⟩ = some (.int .i64 0) := fun oo => keep1 (step (Below.refl w.heap.size w) oo) (by have := Rx 3 _ rfl; simpa using this)
  have d4 : ∀ oo, (w.alloc oo).cell? ⟨g, 12, none⟩ = some (.int .i64 0) := fun oo => keep1 (step (Below.refl w.heap.size w) oo) (by have := Rx 4 _ rfl; simpa using this)
  have d5 : ∀ oo, (w.alloc oo).cell? ⟨g, 13, none⟩ = some (.int .i64 1) := fun oo => keep1 (step (Below.refl w.heap.size w) oo) (by have := Rx 5 _ rfl; simpa using this)
  have d6 : ∀ oo, (w.alloc oo).cell? ⟨g, 14, none⟩ = some (.int .i64 x) := fun oo => keep1 (step (Below.refl w.heap.size w) oo) (by have := Rx 6 _ rfl; simpa using this)
  have d7 : ∀ oo, (w.alloc oo).cell? ⟨g, 15, none⟩ = some (.string no) := fun oo => keep1 (step (Below.refl w.heap.size w) oo) (by have := Rx 7 _ rfl; simpa using this)
  have e0 : wa.cell? ⟨w.heap.size + 1, 0, none⟩ = some (.bool false) := XA.at' 0
  have e1 : wa.cell? ⟨w.heap.size + 1, 1, none⟩ = some (.int .i64 0) := XA.at' 1
  have e2 : wa.cell? ⟨w.heap.size + 1, 2, none⟩ = some (.int .i64 0) := XA.at' 2
  have e3 : wa.cell? ⟨w.heap.size + 1, 3, none⟩ = some (.int .i64 0) := XA.at' 3
  have e4 : wa.cell? ⟨w.heap.size + 1, 4, none⟩ = some (.int .i64 0) := XA.at' 4
  have e5 : wa.cell? ⟨w.heap.size + 1, 5, none⟩ = some (.int .i64 1) := XA.at' 5
  have e6 : wa.cell? ⟨w.heap.size + 1, 6, none⟩ = some (.int .i64 x) := XA.at' 6
  have e7 : wa.cell? ⟨w.heap.size + 1, 7, none⟩ = some (.string no) := XA.at' 7
  have f0 : wa.cell? ⟨g, 0, none⟩ = some (.bool true) := keep1 KA (by have := Rc 0 _ rfl; simpa using this)
  have f1 : wa.cell? ⟨g, 1, none⟩ = some (.int .i64 0) := keep1 KA (by have := Rc 1 _ rfl; simpa using this)
  have f2 : wa.cell? ⟨g, 2, none⟩ = some (.int .i64 0) := keep1 KA (by have := Rc 2 _ rfl; simpa using this)
  have f3 : wa.cell? ⟨g, 3, none⟩ = some (.int .i64 ((m : Int) - 1)) := keep1 KA (by have := Rc 3 _ rfl; simpa using this)
  have f4 : wa.cell? ⟨g, 4, none⟩ = some (.int .i64 0) := keep1 KA (by have := Rc 4 _ rfl; simpa using this)
  have f5 : wa.cell? ⟨g, 5, none⟩ = some (.int .i64 0) := keep1 KA (by have := Rc 5 _ rfl; simpa using this)
  have f6 : wa.cell? ⟨g, 6, none⟩ = some (.int .i64 0) := keep1 KA (by have := Rc 6 _ rfl; simpa using this)
  have f7 : wa.cell? ⟨g, 7, none⟩ = some (.string no) := keep1 KA (by have := Rc 7 _ rfl; simpa using this)
  replace KA := hide KA
  replace XA := hide XA
  replace hrow := hide hrow
  clear Rx Rc
  replace hwa := hide hwa
  go_enter Tryz.func60, Tryz.ntmps60
  go_upto_region 2 with fail
  rw [hwa.out]
  clear hwa
  replace e0 := cell_regrown e0
  replace e1 := cell_regrown e1
  replace e2 := cell_regrown e2
  replace e3 := cell_regrown e3
  replace e4 := cell_regrown e4
  replace e5 := cell_regrown e5
  replace e6 := cell_regrown e6
  replace e7 := cell_regrown e7
  replace f0 := cell_regrown f0
  replace f1 := cell_regrown f1
  replace f2 := cell_regrown f2
  replace f3 := cell_regrown f3
  replace f4 := cell_regrown f4
  replace f5 := cell_regrown f5
  replace f6 := cell_regrown f6
  replace f7 := cell_regrown f7
  have kq0 := fun d' os => Calls.regrown_of (H1.out (grow (redrawn wa d') os))
  have kq1 := fun d' os => Calls.regrown_of (H2.out (grow (redrawn wa d') os))
  refine quiet_tail 6 (by kernel_rfl) (by kernel_rfl) ?_
  simp only [List.take_succ_cons, List.take_zero, List.drop_succ_cons, List.drop_zero]
  repeat (go_big_quiet_step (first | (with_reducible exact kq0 _ _) | (with_reducible exact kq1 _ _)))
  refine wpQuiet_nil ?_
  intro wq hwq
  have hbq : Hid (Below wa.heap.size wa wq) := hide (by obtain ⟨⟨dq, osq⟩, hq⟩ := hwq; rw [hq]; exact below_regrown _ dq osq)
  clear hwq e0 e1 e2 e3 e4 e5 e6 e7 f0 f1 f2 f3 f4 f5 f6 f7 kq0 kq1 d0 d1 d2 d3 d4 d5 d6 d7
  go_wp2_with fail
  refine (or_zero 2 (by decide) _ _ _ (fun j hj => ?_)).mono ?_
  · have hb := Blk.new wq #[.int .i64 0, .int .i64 0] 3
    rw [hb.at']
    match j, hj with
    | 0, _ => rfl
    | 1, _ => rfl
  rintro e w3 ⟨rfl, rfl⟩
  have HCt := hide (counting_c (some ⟨g, 0, none⟩) 1 cap 139 #[.pointer (some ⟨w.heap.size + 1, 0, none⟩)] 139 #[.pointer (some ⟨w.heap.size + 1, 0, none⟩)] (wq.alloc (.cells #[.int .i64 0, .int .i64 0] 3)))
  have XQ := hide ((XA.out.keep hbq.out).alloc (.cells #[.int .i64 0, .int .i64 0] 3))
  have BQ := hide ((BA.out.keep hbq.out).alloc (.cells #[.int .i64 0, .int .i64 0] 3))
  have KQ := hide (step (next KA.out hbq.out) (.cells #[.int .i64 0, .int .i64 0] 3))
  obtain ⟨Bn, hBn⟩ : ∃ Bn, (wq.alloc (.cells #[.int .i64 0, .int .i64 0] 3)).heap.size = Bn := ⟨_, rfl⟩
  have nB : Hid (w.heap.size + 2 < Bn) := hide (by have := hbq.out.size; have := hza.out; rw [← hBn]; simp; omega)
  rw [hBn] at HCt
  obtain ⟨wz, hwz⟩ : ∃ wz, wq.alloc (.cells #[.int .i64 0, .int .i64 0] 3) = wz := ⟨_, rfl⟩
  rw [hwz] at HCt XQ BQ KQ hBn
  go_upto_region 6 with fail
  try rw [hwz]
  clear hwz
  go_wp2_with fail
  refine HCt.out.mono ?_
  rintro e wd ⟨rfl, ⟨g1, g2, g3⟩, gb'⟩
  have gb : Below wz.heap.size wz wd := by rw [hBn]; exact gb'
  clear gb'
  replace g1 := hide g1
  replace g2 := hide g2
  replace g3 := hide g3
  have KD := hide (next KQ.out gb)
  have XD := hide (XQ.out.keep gb)
  have BD := BQ.out.keep gb
  clear gb hBn
  have z0 : wd.cell? ⟨w.heap.size, 0, none⟩ = some (.slice none 0 0) := BD.at' 0
  have z1 : wd.cell? ⟨w.heap.size, 1, none⟩ = some (.nilFunc) := BD.at' 1
  have z2 : wd.cell? ⟨w.heap.size, 2, none⟩ = some (.nilFunc) := BD.at' 2
  have z3 : wd.cell? ⟨w.heap.size, 3, none⟩ = some (.nilFunc) := BD.at' 3
  have z4 : wd.cell? ⟨w.heap.size, 4, none⟩ = some (.nilFunc) := BD.at' 4
  have z5 : wd.cell? ⟨w.heap.size, 5, none⟩ = some (.nilFunc) := BD.at' 5
  have zf := BD.fr
  have h9 := ((((((BD.set 0 (.slice (some ⟨g, 0, none⟩) 1 cap)).set 1 (.func (.func 163) #[] #[.pointer (some ⟨Bn + 2, 0, none⟩), .pointer (some ⟨Bn + 1, 0, none⟩)])).set 2 (.func (.func 163) #[] #[.pointer (some ⟨Bn + 3, 0, none⟩), .pointer (some ⟨Bn + 1, 0, none⟩)])).set 3 .nilFunc).set 4 .nilFunc).set 5 (.func (.func 164) #[] #[.pointer (some ⟨Bn + 1, 0, none⟩)]))
  have c9 := hide (((((((Chg.refl (· = w.heap.size) wd).set w.heap.size 0 (.slice (some ⟨g, 0, none⟩) 1 cap) rfl).set w.heap.size 1 (.func (.func 163) #[] #[.pointer (some ⟨Bn + 2, 0, none⟩), .pointer (some ⟨Bn + 1, 0, none⟩)]) rfl).set w.heap.size 2 (.func (.func 163) #[] #[.pointer (some ⟨Bn + 3, 0, none⟩), .pointer (some ⟨Bn + 1, 0, none⟩)]) rfl).set w.heap.size 3 .nilFunc rfl).set w.heap.size 4 .nilFunc rfl).set w.heap.size 5 (.func (.func 164) #[] #[.pointer (some ⟨Bn + 1, 0, none⟩)]) rfl)
  obtain ⟨w9, hw9⟩ : ∃ w9, ((((((wd.setCell ⟨w.heap.size, 0, none⟩ (.slice (some ⟨g, 0, none⟩) 1 cap)).setCell ⟨w.heap.size, 1, none⟩ (.func (.func 163) #[] #[.pointer (some ⟨Bn + 2, 0, none⟩), .pointer (some ⟨Bn + 1, 0, none⟩)])).setCell ⟨w.heap.size, 2, none⟩ (.func (.func 163) #[] #[.pointer (some ⟨Bn + 3, 0, none⟩), .pointer (some ⟨Bn + 1, 0, none⟩)])).setCell ⟨w.heap.size, 3, none⟩ .nilFunc).setCell ⟨w.heap.size, 4, none⟩ .nilFunc).setCell ⟨w.heap.size, 5, none⟩ (.func (.func 164) #[] #[.pointer (some ⟨Bn + 1, 0, none⟩)])) = w9 := ⟨_, rfl⟩
  rw [hw9] at h9 c9
  have y0 : w9.cell? ⟨w.heap.size, 0, none⟩ = some (.slice (some ⟨g, 0, none⟩) 1 cap) := h9.at' 0
  have y1 : w9.cell? ⟨w.heap.size, 1, none⟩ = some (.func (.func 163) #[] #[.pointer (some ⟨Bn + 2, 0, none⟩), .pointer (some ⟨Bn + 1, 0, none⟩)]) := h9.at' 1
  have y2 : w9.cell? ⟨w.heap.size, 2, none⟩ = some (.func (.func 163) #[] #[.pointer (some ⟨Bn + 3, 0, none⟩), .pointer (some ⟨Bn + 1, 0, none⟩)]) := h9.at' 2
  have y3 : w9.cell? ⟨w.heap.size, 3, none⟩ = some .nilFunc := h9.at' 3
  have y4 : w9.cell? ⟨w.heap.size, 4, none⟩ = some .nilFunc := h9.at' 4
  have y5 : w9.cell? ⟨w.heap.size, 5, none⟩ = some (.func (.func 164) #[] #[.pointer (some ⟨Bn + 1, 0, none⟩)]) := h9.at' 5
  replace h9 := hide h9
  clear BD
  go_wp2_with fail
  refine bodyPost_ret (v := .agg #[.slice (some ⟨g, 0, none⟩) 1 cap, .func (.func 163) #[] #[.pointer (some ⟨Bn + 2, 0, none⟩), .pointer (some ⟨Bn + 1, 0, none⟩)], .func (.func 163) #[] #[.pointer (some ⟨Bn + 3, 0, none⟩), .pointer (some ⟨Bn + 1, 0, none⟩)], .nilFunc, .nilFunc, .func (.func 164) #[] #[.pointer (some ⟨Bn + 1, 0, none⟩)]]) (by simp [results, Tryz.results60, go_sem, y0, y1, y2, y3, y4, y5]; try rfl) rfl ?_
  have hgb : w9.heap[g]? = w.heap[g]? := (c9.out.block g (Nat.lt_of_lt_of_le hgl.out KD.out.size) (Nat.ne_of_lt hgl.out)).trans (KD.out.block g hgl.out)
  have hkk := (cif1_is x (w.heap.size + 1)).kk
  refine ⟨⟨_, _, .nilFunc, .nilFunc, _⟩, CntS (· = w.heap.size + 1) (fun w' => Blk w' (w.heap.size + 1) #[.bool false, .int .i64 0, .int .i64 0, .int .i64 0, .int .i64 0, .int .i64 1, .int .i64 x, .string no] 41) (Bn + 1) (Bn + 2) (Bn + 3) 139 #[.pointer (some ⟨w.heap.size + 1, 0, none⟩)] 139 #[.pointer (some ⟨w.heap.size + 1, 0, none⟩)], (fun k => k = Bn + 1 ∨ k = Bn + 2 ∨ k = Bn + 3 ∨ k = w.heap.size + 1), some ⟨g, 0, none⟩, cap, rfl, ⟨cnt_stay _ _ _ _ _ _ _ _ _ hkk, ⟨_, _, rfl, cntL_ends _ _ _ _ _ _ _ _ _⟩, .inl (agC_isC m), ⟨rfl, rfl, rfl, rfl, rfl⟩⟩, ⟨cnt_stay _ _ _ _ _ _ _ _ _ hkk, ⟨_, _, rfl, cntL_ends _ _ _ _ _ _ _ _ _⟩, ⟨_, _, rfl, ?_⟩⟩, ⟨c9.out.blk g1.out (by have := nB.out; omega), c9.out.blk g2.out (by have := nB.out; omega), c9.out.blk g3.out (by have := nB.out; omega), c9.out.blk XD.out (by omega), rfl, by omega, by omega, by have := nB.out; omega⟩, (fun k hk => by have := nB.out; omega), .inr ⟨g, 0, rfl, ⟨.inl rfl, fun e => by have := nB.out; have := hgl.out; omega, Nat.lt_of_lt_of_le (Nat.lt_of_lt_of_le hgl.out KD.out.size) c9.out.size⟩, fun j y hy => ?_⟩, by simp only [List.length_cons, List.length_nil] at hcap ⊢; omega, bel_chg KD.out (Nat.le_refl _) c9.out⟩
  · have := cnt1_does isI (· = w.heap.size + 1) (fun w' => Blk w' (w.heap.size + 1) #[.bool false, .int .i64 0, .int .i64 0, .int .i64 0, .int .i64 0, .int .i64 1, .int .i64 x, .string no] 41) (Bn + 1) (Bn + 2) (Bn + 3) 139 #[.pointer (some ⟨w.heap.size + 1, 0, none⟩)] 139 #[.pointer (some ⟨w.heap.size + 1, 0, none⟩)] (fun v => v.i == x) _ _ (cif1_is x (w.heap.size + 1)) (Bn + 3) (fun s m w h => h.2.2.1)
    exact ⟨fun s m v w a b c => this.call s m v w a b c.2, this.ent⟩
  · have hj : j = 0 := by have := (List.getElem?_eq_some_iff.1 hy).1; simp at this; omega
    subst hj
    obtain rfl : agC (m : Nat) = y := by simpa using hy
    exact T9.range_of_block (hrow.out 0 _ rfl) hgb
end Go.Proofs.YtnpdkojhlgchlaaGreatDoor
