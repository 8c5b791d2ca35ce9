/- calc.firstError: the first value of a list that is an error. Proved of the Go text. calc.looked: the arguments as a row asks for them, in memory of their own. Proved of the Go text. calc.looked: what it answers of every row and every list of arguments. Proved of the Go text. -/
import Derived.Test.YtgnmkhjilecdhaaGreatDoorL14J
import Derived.Lib.LazyBuf
import Derived.Deep.WholeRow
import Derived.Deep.MidRow
import Derived.OwnWalk
import Derived.Laws.OwnMore
namespace Go.Proofs.YtgnmkhjilecdhaaGreatDoor
open Go.RowKit Go.Sort
set_option linter.unusedVariables false

set_option maxHeartbeats 2000000 in
set_option maxRecDepth 100000 in
theorem fe_any (xs : List Va) (a : Option Addr) (cap : Nat) (w : World) (hl : xs.length ≤ maxLen) (hv : ValsAt w a xs) :
    Calls Tryz.prog 26 #[.slice a xs.length cap] w fun e w' => e = .returned (feV (fe xs)) ∧ Below w.heap.size w w' := by
  obtain ⟨len, hlen⟩ : ∃ len, len = xs.length := ⟨_, rfl⟩
  rw [← hlen] at hl ⊢
  have hl0 : Hid (len ≤ maxLen) := hide hl
  have B0 := hide (step (Below.refl w.heap.size w) (vO 0 0 no))
  have C0 := O3.new w (.int .i64 0) (.int .i64 0) (.string no) 30
  obtain ⟨w0, hw0⟩ : ∃ w0, w.alloc (vO 0 0 no) = w0 := ⟨_, rfl⟩
  rw [hw0] at B0 C0
  replace C0 := hide C0
  replace hlen := hide hlen
  replace hv := hide (hv.keep B0.out)
  clear hl
  go_enter Tryz.func26, Tryz.ntmps26
  go_wp2_with fail
  clear hw0
  go_loopw [8] (fun n wr => ∃ j : Nat, j ≤ len ∧ n = .int .i64 j ∧ Hid (fe xs = fe (xs.drop j)) ∧ Hid (Below w0.heap.size w0 wr)) (fun n _ => len - (intOf n).toNat)
  case atStart => exact ⟨0, Nat.zero_le _, rfl, hide rfl, hide (Below.refl _ _)⟩
  case round =>
    obtain ⟨j, hj, rfl, hf, HB⟩ := hrel
    have hlo := hl0.out
    unfold maxLen at hlo
    have cr := hide (C0.out.keep HB.out)
    have B1 := hide (next B0.out HB.out)
    by_cases hlt : j < len
    · have p0 : (j : Int) < (len : Int) := by omega
      have hj' : j < xs.length := by have := hlen.out; omega
      obtain ⟨b, off, rfl, ho⟩ : ∃ b o, a = some ⟨b, o, none⟩ ∧ ∀ (j : Nat) (x : Va), xs[j]? = some x → VaAt w0 b (o + j * 3) x := by
        rcases hv.out with h | h
        · rw [h] at hj'; cases hj'
        · exact h
      have hA := (ho j xs[j] (List.getElem?_eq_getElem hj')).keep HB.out
      have hd := fe_drop xs j hj'
      rw [← hf.out] at hd
      obtain ⟨x, hx⟩ : ∃ x, xs[j] = x := ⟨_, rfl⟩
      rw [hx] at hA hd
      obtain ⟨k, i, t⟩ := x
      obtain ⟨A0, A1, A2⟩ := hA
      replace hd := hide hd
      have wj : Hid (wrap64 ((j : Int) + 1) = (j : Int) + 1) := hide (IntWalk.wrap64_in _ ⟨by omega, by omega⟩)
      clear ho hlo hx hf
      by_cases hk : k = 4
      · subst hk
        have e1 : Hid (fe xs = some ⟨4, i, t⟩) := hide (by rw [hd.out]; rfl)
        have c1 := hide (cr.out.alloc (vO 4 i t))
        have B2 := hide (below_put3 (b := w.heap.size) (step B1.out (vO 4 i t)) (Nat.le_refl _) (.int .i64 4) (.int .i64 i) (.string t))
        have z0 := c1.out.1.1
        have z1 := c1.out.1.2.1
        have z2 := c1.out.1.2.2
        have zf := c1.out.2
        have c2 := c1.out.put (.int .i64 4) (.int .i64 i) (.string t)
        obtain ⟨w2, hw2⟩ : ∃ w2, put3 (wr.alloc (vO 4 i t)) w.heap.size (.int .i64 4) (.int .i64 i) (.string t) = w2 := ⟨_, rfl⟩
        rw [hw2] at B2 c2
        unfold put3 at hw2
        have y0 := c2.1.1
        have y1 := c2.1.2.1
        have y2 := c2.1.2.2
        clear hd c1 c2 cr
        go_wp2_with fail
        refine bodyPost_ret (by simp [results, Tryz.results26, go_sem, y0, y1, y2]; try rfl) rfl ?_
        exact ⟨by rw [e1.out], B2.out⟩
      · have q4 : (k == 4) = false := by simp [hk]
        have hd' : Hid (fe xs = fe (xs.drop (j + 1))) := hide (by rw [hd.out]; exact if_neg hk)
        have HB' := hide (step HB.out (vO k i t))
        clear hk hd cr
        go_wp2_with fail
        refine ⟨⟨j + 1, hlt, by rw [wj.out]; rfl, hd', HB'⟩, ?_⟩
        rw [wj.out]
        have h1 : (intOf (.int .i64 ((j : Int) + 1))).toNat = j + 1 := rfl
        have h2 : (intOf (.int .i64 (j : Int))).toNat = j := rfl
        rw [h1, h2]
        omega
    · obtain rfl : j = len := by omega
      have e1 : Hid (fe xs = none) := hide (by rw [hf.out, hlen.out, List.drop_length]; rfl)
      have B2 := hide (below_put3 (b := w.heap.size) B1.out (Nat.le_refl _) (.int .i64 0) (.int .i64 0) (.string no))
      have z0 := cr.out.1.1
      have z1 := cr.out.1.2.1
      have z2 := cr.out.1.2.2
      have zf := cr.out.2
      have c2 := cr.out.put (.int .i64 0) (.int .i64 0) (.string no)
      obtain ⟨w2, hw2⟩ : ∃ w2, put3 wr w.heap.size (.int .i64 0) (.int .i64 0) (.string no) = w2 := ⟨_, rfl⟩
      rw [hw2] at B2 c2
      unfold put3 at hw2
      have y0 := c2.1.1
      have y1 := c2.1.2.1
      have y2 := c2.1.2.2
      clear c2 cr hf
      go_wp2_with fail
      refine bodyPost_ret (by simp [results, Tryz.results26, go_sem, y0, y1, y2]; try rfl) rfl ?_
      exact ⟨by rw [e1.out], B2.out⟩
end Go.Proofs.YtgnmkhjilecdhaaGreatDoor
namespace Go.Proofs.YtgnmkhjilecdhaaGreatDoor
open Go.RowKit Go.Sort
set_option linter.unusedVariables false

/-- A row of values while it is filled: the first k lie there. -/
def RowV (w : World) (R n k : Nat) (ys : List Va) : Prop := ∃ cs : Array Value, w.heap[R]? = some (.cells cs 30 (0, 0)) ∧ cs.size = n * 3 ∧ ∀ j y, j < k → ys[j]? = some y → cs[j * 3]? = some (.int .i64 y.k) ∧ cs[j * 3 + 1]? = some (.int .i64 y.i) ∧ cs[j * 3 + 2]? = some (.string y.t)
theorem RowV.keep {w w' : World} {R n k : Nat} {ys : List Va} (h : RowV w R n k ys) (hb : Below w.heap.size w w') : RowV w' R n k ys := by
  obtain ⟨cs, h1, h2, h3⟩ := h
  refine ⟨cs, ?_, h2, h3⟩
  rw [hb.block R (by have := (Array.getElem?_eq_some_iff.1 h1).1; exact this)]
  exact h1
theorem heap_same (w : World) (b o : Nat) (cs : Array Value) (t : TypeId) (v : Value) (h : w.heap[b]? = some (.cells cs t (0, 0))) : (w.setCell ⟨b, o, none⟩ v).heap[b]? = some (.cells (cs.setIfInBounds o v) t (0, 0)) := heap_setCell_same w b o cs t v h
theorem RowV.put {w : World} {R n k : Nat} {ys : List Va} (h : RowV w R n k ys) (hk : k < n) (y : Va) (hy : ys[k]? = some y) :
    RowV (((w.setCell ⟨R, k * 3, none⟩ (.int .i64 y.k)).setCell ⟨R, k * 3 + 1, none⟩ (.int .i64 y.i)).setCell ⟨R, k * 3 + 2, none⟩ (.string y.t)) R n (k + 1) ys := by
  obtain ⟨cs, h1, h2, h3⟩ := h
  refine ⟨_, heap_same _ _ _ _ _ _ (heap_same _ _ _ _ _ _ (heap_same _ _ _ _ _ _ h1)), by simp [h2], fun j z hj hz => ?_⟩
  simp only [Array.getElem?_setIfInBounds]
  by_cases e : j = k
  · subst e
    obtain rfl : y = z := Option.some.inj (hy.symm.trans hz)
    refine ⟨?_, ?_, ?_⟩
    · rw [if_neg (by omega), if_neg (by omega), if_pos rfl, if_pos (by simp [h2]; omega)]
    · rw [if_neg (by omega), if_pos rfl, if_pos (by simp [h2]; omega)]
    · rw [if_pos rfl, if_pos (by simp [h2]; omega)]
  · obtain ⟨a, b, c⟩ := h3 j z (by omega) hz
    refine ⟨?_, ?_, ?_⟩
    · rw [if_neg (by omega), if_neg (by omega), if_neg (by omega)]; exact a
    · rw [if_neg (by omega), if_neg (by omega), if_neg (by omega)]; exact b
    · rw [if_neg (by omega), if_neg (by omega), if_neg (by omega)]; exact c
theorem RowV.vals {w : World} {R n : Nat} {ys : List Va} (h : RowV w R n n ys) (hn : ys.length = n) : ValsAt w (some ⟨R, 0, none⟩) ys := by
  obtain ⟨cs, h1, h2, h3⟩ := h
  refine .inr ⟨R, 0, rfl, fun j y hy => ?_⟩
  obtain ⟨a, b, c⟩ := h3 j y (by have := (List.getElem?_eq_some_iff.1 hy).1; omega) hy
  rw [Nat.zero_add]
  exact ⟨by rw [cell_of_row w R _ cs _ (0, 0) h1, a], by rw [cell_of_row w R _ cs _ (0, 0) h1, b], by rw [cell_of_row w R _ cs _ (0, 0) h1, c]⟩
/-- The cell may be written. -/
theorem RowV.at' {w : World} {R n k : Nat} {ys : List Va} (h : RowV w R n k ys) {o : Nat} (ho : o < n * 3) : ∃ v, w.cell? ⟨R, o, none⟩ = some v := by
  obtain ⟨cs, h1, h2, h3⟩ := h
  rw [cell_of_row w R o cs _ (0, 0) h1]
  exact ⟨cs[o]'(by omega), by simp [Array.getElem?_eq_getElem (show o < cs.size by omega)]⟩
theorem RowV.fr {w : World} {R n k : Nat} {ys : List Va} (h : RowV w R n k ys) (o : Nat) : w.frozen? ⟨R, o, none⟩ = false := by
  obtain ⟨cs, h1, h2, h3⟩ := h
  exact frozen_of_row w R o cs _ h1
theorem RowV.lt {w : World} {R n k : Nat} {ys : List Va} (h : RowV w R n k ys) : R < w.heap.size := by
  obtain ⟨cs, h1, _⟩ := h
  exact (Array.getElem?_eq_some_iff.1 h1).1
theorem info_va : (Tryz.prog.info? 30).map (fun i => (i.zero, i.size, i.bytes)) = some (some (.agg #[.int .i64 0, .int .i64 0, .string no]), 3, 32) := by kernel_rfl
/-- What looked is to answer. -/
def LkP (w : World) (ys : List Va) (e : Ending) (w' : World) : Prop := ∃ a cap, e = .returned (.slice a ys.length cap) ∧ ValsAt w' a ys ∧ Below w.heap.size w w'
theorem rowV_start {w w1 : World} {n : Nat} {ys : List Va} {xs : List Value} (ho : w1.ownsRow w.heap.size 30 3 (.slice (some ⟨w.heap.size, 0, none⟩) n n) n xs) (hg : w.grownBy w1 none) (hpos : 0 < n) : RowV w1 w.heap.size n 0 ys ∧ Below w.heap.size w w1 := by
  rcases ho.2 with ⟨h, _⟩ | ⟨g, cap, cur, hv, _, hr, _, _, hz, _⟩
  · cases h
  · simp only [Value.slice.injEq, Option.some.injEq, Addr.mk.injEq, true_and] at hv
    obtain ⟨⟨rfl, _⟩, rfl⟩ := hv
    exact ⟨⟨cur, hr, hz, fun j y hj => absurd hj (Nat.not_lt_zero j)⟩, ⟨hg.os, hg.tape, hg.output, hg.size, fun k hk => hg.block k hk (by simp)⟩⟩
end Go.Proofs.YtgnmkhjilecdhaaGreatDoor
namespace Go.Proofs.YtgnmkhjilecdhaaGreatDoor
open Go.RowKit Go.Sort
set_option linter.unusedVariables false

set_option maxHeartbeats 4000000 in
set_option maxRecDepth 100000 in
theorem looked_any (asks : ByteArray) (xs ys : List Va) (a : Option Addr) (cap : Nat) (w : World) (hT : Tab w) (hv : ValsAt w a xs) (hl : xs.length ≤ maxLen) (hn : ys.length = asks.size) (h0 : 0 < asks.size) (h4 : asks.size ≤ 4)
    (HA : ∀ (j : Nat) (x y : Va) (h : j < asks.size), xs[j]? = some x → ys[j]? = some y → CallT 118 #[.int .u8 (asks[j].toNat : Int), x.v] y.v)
    (HB : ∀ (j : Nat) (y : Va), xs.length ≤ j → ys[j]? = some y → y = ⟨1, 1, no⟩) :
    Calls Tryz.prog 94 #[.string asks, .slice a xs.length cap] w fun e w' => LkP w ys e w' := by
  obtain ⟨len, hlen⟩ : ∃ len, len = xs.length := ⟨_, rfl⟩
  rw [← hlen] at hl ⊢
  obtain ⟨ie, hie⟩ : ∃ i, Tryz.prog.info? 30 = some i := by
    cases h : Tryz.prog.info? 30 with
    | none => have := info_va; rw [h] at this; cases this
    | some i => exact ⟨i, rfl⟩
  obtain ⟨hz0, hz1, hz2⟩ : ie.zero = some (.agg #[.int .i64 0, .int .i64 0, .string no]) ∧ ie.size = 3 ∧ ie.bytes = 32 := by
    have := info_va
    rw [hie] at this
    simpa using this
  replace hT := hide hT
  replace hv := hide hv
  replace hl := hide hl
  replace hlen := hide hlen
  replace hn := hide hn
  replace h0 := hide h0
  replace h4 := hide h4
  replace HA := hide HA
  replace HB := hide HB
  replace hie := hide hie
  replace hz0 := hide hz0
  replace hz1 := hide hz1
  replace hz2 := hide hz2
  go_enter Tryz.func94, Tryz.ntmps94
  go_wp2_with (first
    | (at_make; refine wpList_make_full _ rfl _ _ 22 rfl w.heap.size 30 ie _ 3 Tryz.underlying22 hie.out hz0.out hz1.out _ _ _ _ asks.size rfl rfl rfl rfl ?m1 ?m2 ?m3 ?_))
  case m1 => rw [hz2.out]; have := h4.out; omega
  case m2 => have := h4.out; unfold maxLen; omega
  case m3 => exact Nat.le_refl _
  intro w1 ho hg
  obtain ⟨R0, B1⟩ := rowV_start (ys := ys) ho hg h0.out
  replace R0 := hide R0
  replace B1 := hide B1
  clear ho hg
  go_wp2_with fail
  go_loopw [12] (fun i wr => ∃ j : Nat, j ≤ asks.size ∧ i = .int .i64 j ∧ Hid (RowV wr w.heap.size asks.size j ys) ∧ Hid (Below w.heap.size w wr)) (fun i _ => asks.size - (intOf i).toNat)
  case atStart => exact ⟨0, Nat.zero_le _, rfl, R0, B1⟩
  case round =>
    obtain ⟨j, hj, rfl, HR, HW⟩ := hrel
    have h4' := h4.out
    have wj : Hid (wrap64 ((j : Int) + 1) = (j : Int) + 1) := hide (IntWalk.wrap64_in _ ⟨by omega, by omega⟩)
    by_cases hlt : j < asks.size
    · have p0 : (j : Int) < (asks.size : Int) := by omega
      have hyj : j < ys.length := by rw [hn.out]; exact hlt
      obtain ⟨y, hy⟩ : ∃ y, ys[j]? = some y := ⟨_, List.getElem?_eq_getElem hyj⟩
      by_cases hx : j < len
      · have p1 : (j : Int) < (len : Int) := by omega
        have hxj : j < xs.length := by rw [← hlen.out]; exact hx
        obtain ⟨b, off, rfl, hoo⟩ : ∃ b o, a = some ⟨b, o, none⟩ ∧ ∀ (j : Nat) (x : Va), xs[j]? = some x → VaAt w b (o + j * 3) x := by
          rcases hv.out with h | h
          · rw [h] at hxj; cases hxj
          · exact h
        obtain ⟨x, hxe⟩ : ∃ x, xs[j]? = some x := ⟨_, List.getElem?_eq_getElem hxj⟩
        obtain ⟨A0, A1, A2⟩ := (hoo j x hxe).keep HW.out
        have HC := HA.out j x y hlt hxe hy
        have z0 := cell_regrown A0
        have z1 := cell_regrown A1
        have z2 := cell_regrown A2
        have k1 := fun d' os => Calls.regrown_of (HC.out (grow (redrawn wr d') os) (tab_below hT.out (next HW.out (below_regrown _ d' os))))
        go_wp2_with fail
        refine quiet_tail 11 (by kernel_rfl) (by kernel_rfl) ?_
        simp only [List.take_succ_cons, List.take_zero, List.drop_succ_cons, List.drop_zero]
        repeat (go_big_quiet_step (first | (with_reducible exact k1 _ _)))
        refine wpQuiet_nil ?_
        intro w2 hw2
        have hb2 : Below wr.heap.size wr w2 := by obtain ⟨⟨dq, osq⟩, hq⟩ := hw2; rw [hq]; exact below_regrown _ dq osq
        clear hw2 k1 z0 z1 z2 A0 A1 A2
        have R2 := hide (HR.out.keep hb2)
        obtain ⟨u0, c0⟩ := R2.out.at' (o := j * 3) (by omega)
        obtain ⟨u1, c1⟩ := R2.out.at' (o := j * 3 + 1) (by omega)
        obtain ⟨u2, c2⟩ := R2.out.at' (o := j * 3 + 2) (by omega)
        have f0 := R2.out.fr (j * 3)
        have f1 := R2.out.fr (j * 3 + 1)
        have f2 := R2.out.fr (j * 3 + 2)
        have R3 := hide (R2.out.put hlt y hy)
        have B3 := hide ((((next HW.out hb2).setCell (p := ⟨w.heap.size, j * 3, none⟩) (Nat.le_refl _) (.int .i64 y.k)).setCell (p := ⟨w.heap.size, j * 3 + 1, none⟩) (Nat.le_refl _) (.int .i64 y.i)).setCell (p := ⟨w.heap.size, j * 3 + 2, none⟩) (Nat.le_refl _) (.string y.t))
        clear hb2 HR HW hoo
        go_wp2_with fail
        refine ⟨⟨j + 1, hlt, rfl, R3, B3⟩, ?_⟩
        have h1 : (intOf (.int .i64 ((j : Int) + 1))).toNat = j + 1 := rfl
        have h2 : (intOf (.int .i64 (j : Int))).toNat = j := rfl
        rw [h1, h2]
        omega
      · have p1 : ¬ (j : Int) < (len : Int) := by omega
        have hy1 := HB.out j y (by rw [← hlen.out]; omega) hy
        subst hy1
        have HN := cnumber_is 1
        go_wp2_with fail
        refine (HN.out _).mono ?_
        rintro e w2 ⟨rfl, hb2⟩
        have R2 := hide (HR.out.keep hb2)
        obtain ⟨u0, c0⟩ := R2.out.at' (o := j * 3) (by omega)
        obtain ⟨u1, c1⟩ := R2.out.at' (o := j * 3 + 1) (by omega)
        obtain ⟨u2, c2⟩ := R2.out.at' (o := j * 3 + 2) (by omega)
        have f0 := R2.out.fr (j * 3)
        have f1 := R2.out.fr (j * 3 + 1)
        have f2 := R2.out.fr (j * 3 + 2)
        have R3 := hide (R2.out.put hlt ⟨1, 1, no⟩ hy)
        have B3 := hide ((((next HW.out hb2).setCell (p := ⟨w.heap.size, j * 3, none⟩) (Nat.le_refl _) (.int .i64 1)).setCell (p := ⟨w.heap.size, j * 3 + 1, none⟩) (Nat.le_refl _) (.int .i64 1)).setCell (p := ⟨w.heap.size, j * 3 + 2, none⟩) (Nat.le_refl _) (.string no))
        clear hb2 HR HW
        go_wp2_with fail
        refine ⟨⟨j + 1, hlt, rfl, R3, B3⟩, ?_⟩
        have h1 : (intOf (.int .i64 ((j : Int) + 1))).toNat = j + 1 := rfl
        have h2 : (intOf (.int .i64 (j : Int))).toNat = j := rfl
        rw [h1, h2]
        omega
    · obtain rfl : j = asks.size := by omega
      have HV := hide (HR.out.vals hn.out)
      have hn' := hn.out
      go_wp2_with fail
      go_ret
      exact ⟨some ⟨w.heap.size, 0, none⟩, asks.size, by rw [hn']; rfl, HV.out, HW.out⟩
end Go.Proofs.YtgnmkhjilecdhaaGreatDoor
