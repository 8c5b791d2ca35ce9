/- parse: the reader refuses; words that must stand there. parse: brackets are opened and closed. parse.mistakeNumber: the number of an error's text. -/
import Derived.Test.YtdlomdbmmhjppaaGreatDoorPr10a
import Derived.StillTail
import Derived.StillTailTactics
import Derived.Great.Walk
namespace Go.Proofs.YtdlomdbmmhjppaaGreatDoor
open Go.RowKit Go.Sort
set_option linter.unusedVariables false

theorem tail10 {P : Program} {id : Nat} {Q : Exit → Act → World → Prop} {a : Act} {w : World} {l : List Oper} (n : Nat) (hm : P.follows .mixedOrders = true) (hB : Region.lexTailB .any l.toArray n = true)
    (h : wpStill P l.toArray w.drew (fun a' => wpList P l.toArray Q (l.drop n) a' w.drew) (l.take n) a) : (Code.region id l.toArray true).wp P Q a w := wp_region_still_tail n hm hB h
theorem all10 {P : Program} {id : Nat} {Q : Exit → Act → World → Prop} {a : Act} {w : World} {l : List Oper} (hm : P.follows .mixedOrders = true) (hB : Region.lexB .any l.toArray = true)
    (h : wpStill P l.toArray w.drew (fun a' => Q .normal a' w.drew) l a) : (Code.region id l.toArray true).wp P Q a w := wp_region_still_lit hm hB h
theorem grown_drew10 {w w' : World} {row : Option Nat} (h : w.drew.grownBy w' row) : w.grownBy w' row := ⟨h.os, h.tape, h.output, h.size, h.block⟩
/-- What was told is laid into the box of the result. -/
theorem On.box {w w1 : World} {ob : Obj} {B g c mB i o : Nat} {l : List Wd} (h : On (w.alloc ob).drew w1 B g c mB l i o) (hB : B < w.heap.size) (hg : g < w.heap.size) (u0 u1 u2 : Value) : On w (put3 w1 w.heap.size u0 u1 u2) B g c mB l i o := by
  have G := grown_put3 w1 w.heap.size u0 u1 u2
  have hz : w.heap.size + 1 ≤ w1.heap.size := by have := h.gr.size; simpa [World.drew] using this
  refine ⟨⟨h.rd.blk.kept G (fun e => by have := Option.some.inj e; omega), h.rd.words.same (G.block g (by omega) (fun e => by have := Option.some.inj e; omega)), h.rd.len, h.rd.ne⟩, ?_⟩
  refine ⟨G.os.trans h.gr.os, G.tape.trans h.gr.tape, G.output.trans h.gr.output, by have := G.size; omega, fun k hk hne => ?_⟩
  exact (G.block k (by omega) (fun e => by have := Option.some.inj e; omega)).trans ((h.gr.block k (by show k < (w.alloc ob).heap.size; simp; omega) hne).trans (Below.heap_alloc w ob k hk))
theorem On.box2 {w w0 w1 : World} {B g c mB i o : Nat} {l : List Wd} (h : On w0 w1 B g c mB l i o) (hb : Below w.heap.size w w0) (hB : B < w.heap.size) (hg : g < w.heap.size) (u0 u1 u2 : Value) : On w (put3 w1 w.heap.size u0 u1 u2) B g c mB l i o := by
  have G := grown_put3 w1 w.heap.size u0 u1 u2
  have hs := hb.size
  have hs1 := h.gr.size
  refine ⟨⟨h.rd.blk.kept G (fun e => by have := Option.some.inj e; omega), h.rd.words.same (G.block g (by omega) (fun e => by have := Option.some.inj e; omega)), h.rd.len, h.rd.ne⟩, ?_⟩
  refine ⟨G.os.trans (h.gr.os.trans hb.os), G.tape.trans (h.gr.tape.trans hb.tape), G.output.trans (h.gr.output.trans hb.output), by have := G.size; omega, fun k hk hne => ?_⟩
  exact (G.block k (by omega) (fun e => by have := Option.some.inj e; omega)).trans ((h.gr.block k (by omega) hne).trans (hb.block k hk))
/-- The first fault, as it is told. -/
abbrev flt (e a : Nat) : List PanicEntry := [{ v := .iface 65 (.agg #[.int .i64 (e : Int), .int .i64 (a : Int)]), recovered := false }]
set_option maxHeartbeats 1000000 in
set_option maxRecDepth 100000 in
theorem refuse_any {w : World} {B g c mB i o : Nat} {l : List Wd} (h : Rdr w B g c mB l i o) (hi : i < l.length) : Calls Tryz.prog 105 #[.pointer (some ⟨B, 0, none⟩)] w fun e w' => e = .panicked (flt 20 (plAt l i)) ∧ Below w.heap.size w w' := by
  obtain ⟨k0, k1, k2⟩ := h.wd hi
  have b0 : w.cell? ⟨B, 0, none⟩ = some (.slice (some ⟨g, 0, none⟩) l.length c) := h.blk.at' 0
  have b1 : w.cell? ⟨B, 1, none⟩ = some (.int .i64 (i : Int)) := h.blk.at' 1
  have p1 : (i : Int) < (l.length : Int) := by omega
  have p2 : (l.length : Int) ≤ (c : Int) := by have := h.len; omega
  unfold plAt
  generalize wdAt l i = x at *
  obtain ⟨xk, xt, xa⟩ := x
  simp only at k0 k1 k2 ⊢
  clear h
  go_enter Tryz.func105, Tryz.ntmps105
  go_wp2_with fail
  refine tail10 13 (by kernel_rfl) (by kernel_rfl) ?_
  simp only [List.take_succ_cons, List.take_zero, List.drop_succ_cons, List.drop_zero]
  repeat still_step
  refine wpStill_nil ?_
  go_wp2_with fail
  exact ⟨rfl, rfl, (Below.refl _ _).drew⟩
set_option maxHeartbeats 1000000 in
set_option maxRecDepth 100000 in
theorem takeKind_no {w : World} {B g c mB i o k : Nat} {l : List Wd} (h : Rdr w B g c mB l i o) (hi : i < l.length) (hk : (wdAt l i).kind ≠ k) : Calls Tryz.prog 80 #[.pointer (some ⟨B, 0, none⟩), .int .i64 (k : Int)] w fun e w' => e = .panicked (flt 20 (plAt l i)) ∧ w.grownBy w' (some B) := by
  have st := step (Below.refl w.heap.size w) (.cells #[.int .i64 0, .string no, .int .i64 0] 44)
  have hr := h.keep st
  obtain ⟨k0, k1, k2⟩ := hr.wd hi
  have b0 : (w.alloc (.cells #[.int .i64 0, .string no, .int .i64 0] 44)).cell? ⟨B, 0, none⟩ = some (.slice (some ⟨g, 0, none⟩) l.length c) := hr.blk.at' 0
  have b1 : (w.alloc (.cells #[.int .i64 0, .string no, .int .i64 0] 44)).cell? ⟨B, 1, none⟩ = some (.int .i64 (i : Int)) := hr.blk.at' 1
  have p1 : (i : Int) < (l.length : Int) := by omega
  have p2 : (l.length : Int) ≤ (c : Int) := by have := h.len; omega
  have hq : (((wdAt l i).kind : Int) == (k : Int)) = false := by rw [beq_eq_false_iff_ne]; omega
  have hq' : (((wdAt l i).kind : Int) != (k : Int)) = true := by rw [bne, hq]; rfl
  have HR := hide (refuse_any (hr.keep ((Below.refl _ _).drew)) hi)
  replace st := hide st
  generalize wdAt l i = x at *
  obtain ⟨xk, xt, xa⟩ := x
  simp only at k0 k1 k2 hk hq hq' ⊢
  clear h hr
  go_enter Tryz.func80, Tryz.ntmps80
  go_wp2_with fail
  refine all10 (by kernel_rfl) (by kernel_rfl) ?_
  repeat still_step
  refine wpStill_nil ?_
  go_wp2_with (first
    | (go_at_call 105; refine HR.out.mono ?_; rintro e w1 ⟨rfl, hb⟩; replace hb := hide hb))
  exact ⟨rfl, rfl, grown_of (next st.out.drew hb.out) _⟩
set_option maxHeartbeats 1000000 in
set_option maxRecDepth 100000 in
theorem takeKind_yes {w : World} {B g c mB i o k : Nat} {l : List Wd} (h : Rdr w B g c mB l i o) (hi : i < l.length) (hk : (wdAt l i).kind = k) : Calls Tryz.prog 80 #[.pointer (some ⟨B, 0, none⟩), .int .i64 (k : Int)] w fun e w' => e = .returned (wdV (wdAt l i).kind (ba (wdAt l i).text) (wdAt l i).at') ∧ On w w' B g c mB l (i + 1) o := by
  have st := step (Below.refl w.heap.size w) (.cells #[.int .i64 0, .string no, .int .i64 0] 44)
  have hr := h.keep st
  obtain ⟨k0, k1, k2⟩ := hr.wd hi
  have b0 : (w.alloc (.cells #[.int .i64 0, .string no, .int .i64 0] 44)).cell? ⟨B, 0, none⟩ = some (.slice (some ⟨g, 0, none⟩) l.length c) := hr.blk.at' 0
  have b1 : (w.alloc (.cells #[.int .i64 0, .string no, .int .i64 0] 44)).cell? ⟨B, 1, none⟩ = some (.int .i64 (i : Int)) := hr.blk.at' 1
  have p1 : (i : Int) < (l.length : Int) := by omega
  have p2 : (l.length : Int) ≤ (c : Int) := by have := h.len; omega
  have hq : (((wdAt l i).kind : Int) == (k : Int)) = true := by rw [hk]; exact beq_self_eq_true _
  have hq' : (((wdAt l i).kind : Int) != (k : Int)) = false := by rw [bne, hq]; rfl
  have HT := hide (take_any (hr.keep ((Below.refl _ _).drew)) hi)
  have hlt : Hid (B < w.heap.size ∧ g < w.heap.size) := hide ⟨h.blk.lt, h.glt hi⟩
  have hne : Hid (w.heap.size ≠ B) := hide (fun e => by have := h.blk.lt; omega)
  replace st := hide st
  generalize wdAt l i = x at *
  obtain ⟨xk, xt, xa⟩ := x
  simp only at k0 k1 k2 hk hq hq' ⊢
  clear h hr
  go_enter Tryz.func80, Tryz.ntmps80
  go_wp2_with fail
  refine all10 (by kernel_rfl) (by kernel_rfl) ?_
  repeat still_step
  refine wpStill_nil ?_
  have ZB := hide (Blk.new w #[.int .i64 0, .string no, .int .i64 0] 44)
  go_wp2_with (first
    | (go_at_call 106; refine HT.out.mono ?_; rintro e w1 ⟨rfl, hon⟩; have Z1 := ZB.out.kept (W' := w1) (grown_drew10 hon.gr) (fun e => hne.out (Option.some.inj e)); have z0 := Z1.at' 0; have z1 := Z1.at' 1; have z2 := Z1.at' 2; have y0 := Z1.fr 0; have y1 := Z1.fr 1; have y2 := Z1.fr 2; have zl := Z1.lt; simp only [List.getElem?_toArray, List.getElem?_cons_zero, List.getElem?_cons_succ] at z0 z1 z2; replace hon := hide hon; replace Z1 := hide Z1))
  have hx : xk = k := hk
  subst hx
  refine bodyPost_ret (v := wdV xk (ba xt) xa) (by simp [results, Tryz.results80, go_sem, z0, z1, z2]; try rfl) rfl ?_
  exact ⟨rfl, hon.out.box hlt.out.1 hlt.out.2 _ _ _⟩
set_option maxHeartbeats 1000000 in
set_option maxRecDepth 100000 in
theorem takeSign_no {w : World} {B g c mB i o : Nat} {l : List Wd} {s : List UInt8} (h : Rdr w B g c mB l i o) (hi : i < l.length) (hk : sgAt l i ≠ s) : Calls Tryz.prog 224 #[.pointer (some ⟨B, 0, none⟩), .string (ba s)] w fun e w' => e = .panicked (flt 20 (plAt l i)) ∧ w.grownBy w' (some B) := by
  have st := step (Below.refl w.heap.size w) (.cells #[.int .i64 0, .string no, .int .i64 0] 44)
  have hr := h.keep st
  have hlt : Hid (B < w.heap.size ∧ g < w.heap.size) := hide ⟨h.blk.lt, h.glt hi⟩
  have hne : Hid (w.heap.size ≠ B) := hide (fun e => by have := h.blk.lt; omega)
  have HS := hide (sign_any hr hi)
  have ZB := hide (Blk.new w #[.int .i64 0, .string no, .int .i64 0] 44)
  have hq : (sgAt l i == s) = false := by rw [beq_eq_false_iff_ne]; exact hk
  have hR := hide hr
  replace st := hide st
  replace hk := hide hk
  generalize sgAt l i = sg at *
  clear h hr
  go_enter Tryz.func224, Tryz.ntmps224
  go_wp2_with (first
    | (go_at_call 104; refine HS.out.mono ?_; rintro e w1 ⟨rfl, hb⟩; have HT := hide (refuse_any (hR.out.keep hb) hi); have b1 := hide (next st.out hb); replace hb := hide hb)
    | (go_at_call 105; refine HT.out.mono ?_; rintro e w2 ⟨rfl, hb2⟩; replace hb2 := hide hb2))
  exact ⟨rfl, rfl, grown_of (next b1.out hb2.out) _⟩
set_option maxHeartbeats 1000000 in
set_option maxRecDepth 100000 in
theorem takeSign_yes {w : World} {B g c mB i o : Nat} {l : List Wd} {s : List UInt8} (h : Rdr w B g c mB l i o) (hi : i < l.length) (hk : sgAt l i = s) : Calls Tryz.prog 224 #[.pointer (some ⟨B, 0, none⟩), .string (ba s)] w fun e w' => e = .returned (wdV (wdAt l i).kind (ba (wdAt l i).text) (wdAt l i).at') ∧ On w w' B g c mB l (i + 1) o := by
  have st := step (Below.refl w.heap.size w) (.cells #[.int .i64 0, .string no, .int .i64 0] 44)
  have hr := h.keep st
  have hlt : Hid (B < w.heap.size ∧ g < w.heap.size) := hide ⟨h.blk.lt, h.glt hi⟩
  have hne : Hid (w.heap.size ≠ B) := hide (fun e => by have := h.blk.lt; omega)
  have HS := hide (sign_any hr hi)
  have ZB := hide (Blk.new w #[.int .i64 0, .string no, .int .i64 0] 44)
  have hq : (sgAt l i == s) = true := by rw [hk]; exact beq_self_eq_true _
  have hR := hide hr
  replace st := hide st
  replace hk := hide hk
  generalize sgAt l i = sg at *
  clear h hr
  go_enter Tryz.func224, Tryz.ntmps224
  go_wp2_with (first
    | (go_at_call 104; refine HS.out.mono ?_; rintro e w1 ⟨rfl, hb⟩; have HT := hide (take_any (hR.out.keep hb) hi); have Z0 := hide (ZB.out.keep hb); have b1 := hide (next st.out hb); replace hb := hide hb)
    | (go_at_call 106; refine HT.out.mono ?_; rintro e w2 ⟨rfl, hon⟩; have Z1 := Z0.out.kept (W' := w2) hon.gr (fun e => hne.out (Option.some.inj e)); have z0 := Z1.at' 0; have z1 := Z1.at' 1; have z2 := Z1.at' 2; have y0 := Z1.fr 0; have y1 := Z1.fr 1; have y2 := Z1.fr 2; have zl := Z1.lt; simp only [List.getElem?_toArray, List.getElem?_cons_zero, List.getElem?_cons_succ] at z0 z1 z2; replace hon := hide hon; replace Z1 := hide Z1))
  refine bodyPost_ret (v := wdV (wdAt l i).kind (ba (wdAt l i).text) (wdAt l i).at') (by simp [results, Tryz.results224, go_sem, z0, z1, z2]; try rfl) rfl ?_
  exact ⟨rfl, hon.out.box2 b1.out hlt.out.1 hlt.out.2 _ _ _⟩
end Go.Proofs.YtdlomdbmmhjppaaGreatDoor
namespace Go.Proofs.YtdlomdbmmhjppaaGreatDoor
open Go.RowKit Go.Sort
set_option linter.unusedVariables false

/-- The reader's number of open brackets is set. -/
theorem Rdr.putO {w w' : World} {B g c mB i o j : Nat} {l : List Wd} (h : Rdr w B g c mB l i o) (hg : g < w.heap.size) (hb : Below (w.setCell ⟨B, 2, none⟩ (.int .i64 (j : Int))).heap.size (w.setCell ⟨B, 2, none⟩ (.int .i64 (j : Int))) w') : Rdr w' B g c mB l i j ∧ w.grownBy w' (some B) := by
  have hgr := grown_set w B 2 (.int .i64 (j : Int))
  refine ⟨⟨?_, ?_, h.len, h.ne⟩, grown_trans hgr (grown_of hb _)⟩
  · exact Blk.keep (h.blk.set 2 (.int .i64 (j : Int))) hb
  · exact (h.words.same (hgr.block g hg (fun e => h.ne (by cases e; rfl)))).keep hb
theorem On.then {w w1 w2 : World} {B g c mB i o : Nat} {l : List Wd} (h : w.grownBy w1 (some B)) (h2 : w1.grownBy w2 (some B)) (hr : Rdr w2 B g c mB l i o) : On w w2 B g c mB l i o := ⟨hr, grown_trans h h2⟩
set_option maxHeartbeats 1000000 in
theorem leave_no {w : World} {B g c mB i o : Nat} {l : List Wd} (h : Rdr w B g c mB l i o) (hi : i < l.length) (hk : sgAt l i ≠ [41]) : Calls Tryz.prog 212 #[.pointer (some ⟨B, 0, none⟩)] w fun e w' => e = .panicked (flt 20 (plAt l i)) ∧ w.grownBy w' (some B) := by
  have HT := hide (takeSign_no h hi hk)
  go_enter Tryz.func212, Tryz.ntmps212
  go_wp2_with (first
    | (go_at_call 224; refine HT.out.mono ?_; rintro e w2 ⟨rfl, hg⟩; replace hg := hide hg))
  exact ⟨rfl, rfl, hg.out⟩
set_option maxHeartbeats 1000000 in
theorem leave_yes {w : World} {B g c mB i o : Nat} {l : List Wd} (h : Rdr w B g c mB l i (o + 1)) (hi : i < l.length) (hk : sgAt l i = [41]) (ho : o ≤ 256) : Calls Tryz.prog 212 #[.pointer (some ⟨B, 0, none⟩)] w fun e w' => e = .returned (.tuple #[]) ∧ On w w' B g c mB l (i + 1) o := by
  have HT := hide (takeSign_yes h hi hk)
  have hgl := hide (h.glt hi)
  have wk : wrap64 ((o : Int) + 1 - 1) = (o : Int) := by rw [show (o : Int) + 1 - 1 = o by omega]; exact IntWalk.wrap64_in _ ⟨by omega, by omega⟩
  have wk2 : (o : Int) + 1 - 1 = (o : Int) := by omega
  go_enter Tryz.func212, Tryz.ntmps212
  go_wp2_with (first
    | (go_at_call 224; refine HT.out.mono ?_; rintro e w2 ⟨rfl, hon⟩; have d : w2.cell? ⟨B, 2, none⟩ = some (.int .i64 ((o : Int) + 1)) := (hon.rd.blk.at' 2); have f := hon.rd.blk.fr 2; replace hon := hide hon))
  refine Go.Great.bodyPost_end0 rfl rfl ?_
  obtain ⟨r1, r2⟩ := hon.out.rd.putO (j := o) (Nat.lt_of_lt_of_le hgl.out hon.out.gr.size) (Below.refl _ _)
  exact ⟨rfl, On.then hon.out.gr r2 r1⟩
set_option maxHeartbeats 1000000 in
theorem enter_no {w : World} {B g c mB i o : Nat} {l : List Wd} (h : Rdr w B g c mB l i o) (hi : i < l.length) (hk : sgAt l i ≠ [40]) : Calls Tryz.prog 210 #[.pointer (some ⟨B, 0, none⟩)] w fun e w' => e = .panicked (flt 20 (plAt l i)) ∧ w.grownBy w' (some B) := by
  have HT := hide (takeSign_no h hi hk)
  go_enter Tryz.func210, Tryz.ntmps210
  go_wp2_with (first
    | (go_at_call 224; refine HT.out.mono ?_; rintro e w2 ⟨rfl, hg⟩; replace hg := hide hg))
  exact ⟨rfl, rfl, hg.out⟩
set_option maxHeartbeats 1000000 in
set_option maxRecDepth 100000 in
theorem enter_yes {w : World} {B g c mB i o : Nat} {l : List Wd} (h : Rdr w B g c mB l i o) (hi : i < l.length) (hk : sgAt l i = [40]) (ho : o + 1 ≤ 256) : Calls Tryz.prog 210 #[.pointer (some ⟨B, 0, none⟩)] w fun e w' => e = .returned (.tuple #[]) ∧ On w w' B g c mB l (i + 1) (o + 1) := by
  have HT := hide (takeSign_yes h hi hk)
  have hgl := hide (h.glt hi)
  have wk : wrap64 ((o : Int) + 1) = (o : Int) + 1 := IntWalk.wrap64_in _ ⟨by omega, by omega⟩
  have p1 : ¬ (256 : Int) < (o : Int) + 1 := by omega
  generalize wdAt l i = x at *
  obtain ⟨xk, xt, xa⟩ := x
  simp only at HT
  go_enter Tryz.func210, Tryz.ntmps210
  go_wp2_with (first
    | (go_at_call 224; refine HT.out.mono ?_; rintro e w2 ⟨rfl, hon⟩; have st := step (Below.refl w2.heap.size w2) (.cells #[.int .i64 (xk : Int), .string (ba xt), .int .i64 (xa : Int)] 44); have d : (w2.alloc (.cells #[.int .i64 (xk : Int), .string (ba xt), .int .i64 (xa : Int)] 44)).cell? ⟨B, 2, none⟩ = some (.int .i64 (o : Int)) := (hon.rd.keep st).blk.at' 2; have d0 : w2.cell? ⟨B, 2, none⟩ = some (.int .i64 (o : Int)) := hon.rd.blk.at' 2; have f := (hon.rd.keep st).blk.fr 2; have f0 := hon.rd.blk.fr 2; have hBl := hon.rd.blk.lt; replace hon := hide hon; replace st := hide st))
  refine Go.Great.bodyPost_end0 rfl rfl ?_
  obtain ⟨r1, r2⟩ := hon.out.rd.putO (j := o + 1) (Nat.lt_of_lt_of_le hgl.out hon.out.gr.size) (step (Below.refl _ _) (.cells #[.int .i64 (xk : Int), .string (ba xt), .int .i64 (xa : Int)] 44))
  exact ⟨rfl, On.then hon.out.gr r2 r1⟩
set_option maxHeartbeats 1000000 in
set_option maxRecDepth 100000 in
theorem enter_long {w : World} {B g c mB i o : Nat} {l : List Wd} (h : Rdr w B g c mB l i o) (hi : i < l.length) (hk : sgAt l i = [40]) (ho : 256 < o + 1) (ho2 : o ≤ 256) : Calls Tryz.prog 210 #[.pointer (some ⟨B, 0, none⟩)] w fun e w' => e = .panicked (flt 2 (plAt l i)) ∧ w.grownBy w' (some B) := by
  have HT := hide (takeSign_yes h hi hk)
  have hgl := hide (h.glt hi)
  have wk : wrap64 ((o : Int) + 1) = (o : Int) + 1 := IntWalk.wrap64_in _ ⟨by omega, by omega⟩
  have p1 : (256 : Int) < (o : Int) + 1 := by omega
  unfold plAt
  generalize wdAt l i = x at *
  obtain ⟨xk, xt, xa⟩ := x
  simp only at HT ⊢
  go_enter Tryz.func210, Tryz.ntmps210
  go_wp2_with (first
    | (go_at_call 224; refine HT.out.mono ?_; rintro e w2 ⟨rfl, hon⟩; have st := step (Below.refl w2.heap.size w2) (.cells #[.int .i64 (xk : Int), .string (ba xt), .int .i64 (xa : Int)] 44); have d : (w2.alloc (.cells #[.int .i64 (xk : Int), .string (ba xt), .int .i64 (xa : Int)] 44)).cell? ⟨B, 2, none⟩ = some (.int .i64 (o : Int)) := (hon.rd.keep st).blk.at' 2; have d0 : w2.cell? ⟨B, 2, none⟩ = some (.int .i64 (o : Int)) := hon.rd.blk.at' 2; have f := (hon.rd.keep st).blk.fr 2; have f0 := hon.rd.blk.fr 2; have hBl := hon.rd.blk.lt; replace hon := hide hon; replace st := hide st))
  obtain ⟨r1, r2⟩ := hon.out.rd.putO (j := o + 1) (Nat.lt_of_lt_of_le hgl.out hon.out.gr.size) (step (Below.refl _ _) (.cells #[.int .i64 (xk : Int), .string (ba xt), .int .i64 (xa : Int)] 44))
  exact ⟨rfl, rfl, grown_trans hon.out.gr r2⟩
/-- A sign ahead of a value, told by its number. -/
theorem signNumber_any (s : List UInt8) (w : World) : Calls Tryz.prog 130 #[.string (ba s)] w fun e w' => e = .returned (.int .i64 (sgnOf s)) ∧ w' = w := by
  unfold sgnOf
  by_cases h1 : s = [45]
  · subst h1
    go_enter Tryz.func130, Tryz.ntmps130
    go_wp2_with fail
    go_ret
    exact ⟨rfl, rfl⟩
  · have q1 : (s == [45]) = false := by rw [beq_eq_false_iff_ne]; exact h1
    rw [if_neg h1]
    by_cases h2 : s = [43]
    · subst h2
      go_enter Tryz.func130, Tryz.ntmps130
      go_wp2_with fail
      go_ret
      exact ⟨rfl, rfl⟩
    · have q2 : (s == [43]) = false := by rw [beq_eq_false_iff_ne]; exact h2
      rw [if_neg h2]
      go_enter Tryz.func130, Tryz.ntmps130
      go_wp2_with fail
      all_goals go_ret
      all_goals exact ⟨rfl, rfl⟩
end Go.Proofs.YtdlomdbmmhjppaaGreatDoor
namespace Go.Proofs.YtdlomdbmmhjppaaGreatDoor
open Go.RowKit Go.Sort
set_option linter.unusedVariables false

set_option maxHeartbeats 1000000 in
theorem mistake_any (s : List UInt8) (w : World) : Calls Tryz.prog 215 #[.string (ba s)] w fun e w' => e = .returned (.int .i64 (errOf s)) ∧ w' = w := by
  unfold errOf
  by_cases h0 : s = [35, 78, 65, 77, 69, 63]
  · subst h0
    go_enter Tryz.func215, Tryz.ntmps215
    go_wp2_with fail
    go_ret
    exact ⟨rfl, rfl⟩
  have q0 : (s == [35, 78, 65, 77, 69, 63]) = false := by rw [beq_eq_false_iff_ne]; exact h0
  rw [if_neg h0]
  by_cases h1 : s = [35, 78, 85, 77, 33]
  · subst h1
    go_enter Tryz.func215, Tryz.ntmps215
    go_wp2_with fail
    go_ret
    exact ⟨rfl, rfl⟩
  have q1 : (s == [35, 78, 85, 77, 33]) = false := by rw [beq_eq_false_iff_ne]; exact h1
  rw [if_neg h1]
  by_cases h2 : s = [35, 82, 69, 70, 33]
  · subst h2
    go_enter Tryz.func215, Tryz.ntmps215
    go_wp2_with fail
    go_ret
    exact ⟨rfl, rfl⟩
  have q2 : (s == [35, 82, 69, 70, 33]) = false := by rw [beq_eq_false_iff_ne]; exact h2
  rw [if_neg h2]
  by_cases h3 : s = [35, 86, 65, 76, 85, 69, 33]
  · subst h3
    go_enter Tryz.func215, Tryz.ntmps215
    go_wp2_with fail
    go_ret
    exact ⟨rfl, rfl⟩
  have q3 : (s == [35, 86, 65, 76, 85, 69, 33]) = false := by rw [beq_eq_false_iff_ne]; exact h3
  rw [if_neg h3]
  by_cases h4 : s = [35, 68, 73, 86, 47, 48, 33]
  · subst h4
    go_enter Tryz.func215, Tryz.ntmps215
    go_wp2_with fail
    go_ret
    exact ⟨rfl, rfl⟩
  have q4 : (s == [35, 68, 73, 86, 47, 48, 33]) = false := by rw [beq_eq_false_iff_ne]; exact h4
  rw [if_neg h4]
  go_enter Tryz.func215, Tryz.ntmps215
  go_wp2_with fail
  go_ret
  exact ⟨rfl, rfl⟩
end Go.Proofs.YtdlomdbmmhjppaaGreatDoor
