/- What area.All answers: an iterator that, of an area that may be, hands over its places in row order, each once, till a round says no more; of one that may not be, none. Proved of the Go text, for every loop body that leaves the iterator's own copy of the area alone. -/
import Derived.Test.YtmfkeobjbcinpaaMay3
import Derived.RangeFuncNested
import Derived.RangeFuncBound
import Derived.RangeFuncCalls
import Derived.RangeFuncLeaves
import Derived.Shelf.Abstract
import Derived.OwnWalkIn
import Derived.TacticsInMore
import Derived.LoopNIn
import Derived.LoopIn
namespace Go.Proofs.Ytmfkeobjbcinpaa
open Go.RowKit Go.Shelf Go.Sort
set_option linter.unusedVariables false
attribute [local go_sem] Oper.semAt_some

/-- The k-th place in row order of an area whose first corner is (t, l) and that is nc columns wide. -/
def plc (t l : Int) (nc k : Nat) : Int × Int := (t + (k / nc : Nat), l + (k % nc : Nat))
/-- The first k places. -/
def upto (t l : Int) (nc k : Nat) : List (Int × Int) := (List.range k).map (plc t l nc)
theorem upto_succ (t l : Int) (nc k : Nat) : upto t l nc (k + 1) = upto t l nc k ++ [plc t l nc k] := by simp [upto, List.range_succ]
theorem upto_len (t l : Int) (nc k : Nat) : (upto t l nc k).length = k := by simp [upto]
theorem plc_at (t l : Int) (nc i j : Nat) (h : j < nc) : plc t l nc (i * nc + j) = (t + i, l + j) := by
  have a : (i * nc + j) / nc = i := by rw [Nat.mul_comm, Nat.mul_add_div (by omega), Nat.div_eq_of_lt h, Nat.add_zero]
  have b : (i * nc + j) % nc = j := by rw [Nat.mul_comm, Nat.mul_add_mod, Nat.mod_eq_of_lt h]
  unfold plc; rw [a, b]
/-- A block lies as it lay. -/
def KB (B : Nat) (W W' : World) : Prop := W'.heap[B]? = W.heap[B]?
theorem KB_t {B : Nat} {X Y Z : World} (h : KB B X Y) (k : KB B Y Z) : KB B X Z := k.trans h
theorem KB_b {B : Nat} {w : World} (hB : B < w.heap.size) (W : World) (l : Nat) (o o' : Obj) (hl : w.heap.size ≤ l) (_ : W.heap[l]? = some o) (_ : o.isCells = false) (_ : o.isWalk = false) : KB B W (W.putObj l o') :=
  World.putObj_heap_other (by omega)
theorem KB.cell {B : Nat} {W W' : World} (h : KB B W W') (j : Nat) : W'.cell? ⟨B, j, none⟩ = W.cell? ⟨B, j, none⟩ := World.cell?_of_block h
theorem KB.C4 {B : Nat} {W W' : World} {v0 v1 v2 v3 : Value} (h : KB B W W') (c : C4 W B v0 v1 v2 v3) : C4 W' B v0 v1 v2 v3 := ⟨(h.cell 0).trans c.1, (h.cell 1).trans c.2.1, (h.cell 2).trans c.2.2.1, (h.cell 3).trans c.2.2.2⟩
theorem grown_below {w w' : World} (h : Below w.heap.size w w') (row : Option Nat) : w.grownBy w' row := ⟨h.os, h.tape, h.output, h.size, fun k hk _ => h.block k hk⟩

set_option maxHeartbeats 1000000 in
/-- area.All boxes the area; the function value captures the box. -/
theorem all_any (t l b r : Int) (w : World) :
    Calls Try.prog 73 #[areaV t l b r] w fun e w' => e = .returned (.func (.func 85) #[] #[.pointer (some ⟨w.heap.size, 0, none⟩)]) ∧ w' = w.alloc (areaO t l b r) := by
  go_enter Try.func73, Try.ntmps73
  go_wp2_with fail
  go_ret
  exact ⟨rfl, rfl⟩

abbrev YieldsTo (n l Bn N : Nat) (J Jx : List (Int × Int) → World → Prop) : Prop :=
  ∀ pre x W, J pre W → pre.length < N → YieldAt Fence.wide (n - 1) Try.prog l #[spotV x.1 x.2] W fun e W' =>
      (e = .returned (.bool true) ∧ J (pre ++ [x]) W' ∧ KB Bn W W') ∨ (e = .returned (.bool false) ∧ Jx (pre ++ [x]) W')

set_option maxRecDepth 100000 in
set_option maxHeartbeats 1000000 in
theorem all1_bad (n : Nat) (hn : 1 ≤ n) (lo Bn : Nat) (t l b r : Int) (HM : MayIs t l b r 11) (J : List (Int × Int) → World → Prop) (W : World)
    (hJ : AbidesFrom W.heap.size J) (hc : C4 W Bn (.int .i64 t) (.int .i64 l) (.int .i64 b) (.int .i64 r)) (h0 : J [] W) :
    CallsIn Fence.wide n Try.prog 85 #[.func (.yield lo) #[] #[], .pointer (some ⟨Bn, 0, none⟩)] W fun e W' => (∃ v, e = .returned v) ∧ J [] W' := by
  obtain ⟨c0, c1, c2, c3⟩ := hc
  refine callsIn_of_wp Try.func85 rfl trivial ?_ rfl
  simp only [Try.ntmps85, List.size_toArray, List.length_cons, List.length_nil, Nat.reduceAdd, Nat.reduceSub, Array.replicate_succ, Array.replicate_zero, List.push_toArray, List.append_toArray, List.nil_append, List.cons_append]
  gi_wp2_with (refine ⟨trivial, ?_⟩; gi_at_call 72; refine (callsIn_wide.2 (HM.out _)).mono ?_; rintro e w1 ⟨rfl, hb1⟩)
  refine bodyPost_ret (results_none rfl _ _ _) rfl ?_
  exact ⟨⟨_, rfl⟩, hJ _ _ _ none h0 (grown_below hb1 none) (fun r h => by cases h)⟩

set_option maxRecDepth 100000 in
set_option maxHeartbeats 2000000 in
theorem all1_in (n : Nat) (hn : 1 ≤ n) (lo Bn : Nat) (t l b r : Int) (nr nc : Nat) (ho : 0 ≤ t ∧ t ≤ b ∧ b < 65536 ∧ 0 ≤ l ∧ l ≤ r ∧ r < 702) (hr : b + 1 = t + nr) (hc' : r + 1 = l + nc) (HM : MayIs t l b r 0) (J Jx : List (Int × Int) → World → Prop)
    (HY : Hid (YieldsTo n lo Bn (nr * nc) J Jx)) (W : World)
    (hJ : AbidesFrom W.heap.size J) (hc : C4 W Bn (.int .i64 t) (.int .i64 l) (.int .i64 b) (.int .i64 r)) (h0 : J [] W) :
    CallsIn Fence.wide n Try.prog 85 #[.func (.yield lo) #[] #[], .pointer (some ⟨Bn, 0, none⟩)] W fun e W' => (∃ v, e = .returned v) ∧
      (J (upto t l nc (nr * nc)) W' ∨ (∃ k, k ≤ nr * nc ∧ Jx (upto t l nc k) W')) := by
  obtain ⟨o1, o2, o3, o4, o5, o6⟩ := ho
  have hW := hc
  obtain ⟨c0, c1, c2, c3⟩ := hc
  refine callsIn_of_wp Try.func85 rfl trivial ?_ rfl
  simp only [Try.ntmps85, List.size_toArray, List.length_cons, List.length_nil, Nat.reduceAdd, Nat.reduceSub, Array.replicate_succ, Array.replicate_zero, List.push_toArray, List.append_toArray, List.nil_append, List.cons_append]
  gi_wp2_with (refine ⟨trivial, ?_⟩; gi_at_call 72; refine (callsIn_wide.2 (HM.out _)).mono ?_; rintro e w1 ⟨rfl, hb1⟩; obtain ⟨a0, a1, a2, a3⟩ := C4.keep hW hb1)
  have J1 := hide (hJ _ _ _ none h0 (grown_below hb1 none) (fun r h => by cases h))
  have C1 := hide (C4.keep hW hb1)
  clear hJ h0 hW c0 c1 c2 c3 HM a0 a1 a2 a3
  gi_loopw [3] (fun row wr => ∃ i : Nat, i ≤ nr ∧ row = .int .i64 (t + i) ∧ Hid (J (upto t l nc (i * nc)) wr) ∧ Hid (C4 wr Bn (.int .i64 t) (.int .i64 l) (.int .i64 b) (.int .i64 r)))
    (fun row wr => (b + 1 - intOf row).toNat)
  case atStart => exact ⟨0, by omega, by simp, by rw [Nat.zero_mul]; exact J1, C1⟩
  case round =>
    obtain ⟨i, hi, rfl, Ji, Ci⟩ := hrel
    obtain ⟨c0, c1, c2, c3⟩ := Ci.out
    by_cases hlt : i < nr
    · have hle : t + (i : Int) ≤ b := by omega
      gi_wp2
      clear c0 c1 c2 c3
      gi_loopw [4] (fun col wr => ∃ j : Nat, j ≤ nc ∧ col = .int .i64 (l + j) ∧ Hid (J (upto t l nc (i * nc + j)) wr) ∧ Hid (C4 wr Bn (.int .i64 t) (.int .i64 l) (.int .i64 b) (.int .i64 r)))
        (fun col wr => (r + 1 - intOf col).toNat)
      case atStart => exact ⟨0, by omega, by simp, Ji, Ci⟩
      case round =>
        obtain ⟨j, hj, rfl, Jj, Cj⟩ := hrel
        obtain ⟨c0, c1, c2, c3⟩ := Cj.out
        by_cases hlt2 : j < nc
        · have hle2 : l + (j : Int) ≤ r := by omega
          have hin : i * nc + j < nr * nc := by
            have := Nat.mul_le_mul_right nc (show i + 1 ≤ nr from hlt)
            rw [Nat.add_mul] at this
            omega
          obtain ⟨fn, tmps, assign, body, hy, hR⟩ := HY.out _ (t + i, l + j) _ Jj.out (by rw [upto_len]; exact hin)
          dsimp only at hy
          have hS := hide (upto_succ t l nc (i * nc + j))
          rw [plc_at t l nc i j hlt2] at hS
          gi_wp2
          refine hR.mono ?_
          rintro e W3 (⟨rfl, hJ3, hk3⟩ | ⟨rfl, hJx3⟩)
          · gi_wp2
            go_roundw
            case rel => exact ⟨j + 1, by omega, by go_num, by rw [← hS.out] at hJ3; exact hJ3, hide (hk3.C4 Cj.out)⟩
            case measure => simp [intOf]; omega
          · gi_wp2
            refine bodyPost_ret (results_none rfl _ _ _) rfl ?_
            exact ⟨⟨_, rfl⟩, .inr ⟨i * nc + j + 1, hin, by rw [← hS.out] at hJx3; exact hJx3⟩⟩
        · have hle2 : ¬ l + (j : Int) ≤ r := by omega
          obtain rfl : j = nc := by omega
          gi_wp2
          go_roundw
          case rel => exact ⟨i + 1, by omega, by go_num, by rw [Nat.add_mul, Nat.one_mul]; exact Jj, Cj⟩
          case measure => simp [intOf]; omega
    · have hle : ¬ t + (i : Int) ≤ b := by omega
      obtain rfl : i = nr := by omega
      gi_wp2
      go_end0
      exact ⟨⟨_, rfl⟩, .inl Ji.out⟩

/-- The contract of area.All's iterator, of an area that may be. -/
theorem all_stops (n : Nat) (hn : 1 ≤ n) (Bn : Nat) (t l b r : Int) (nr nc : Nat) (ho : 0 ≤ t ∧ t ≤ b ∧ b < 65536 ∧ 0 ≤ l ∧ l ≤ r ∧ r < 702) (hr : b + 1 = t + nr) (hc' : r + 1 = l + nc) (w : World)
    (hB : Bn < w.heap.size) (hc : C4 w Bn (.int .i64 t) (.int .i64 l) (.int .i64 b) (.int .i64 r)) :
    SeqStopsK Fence.wide n Try.prog 85 #[.pointer (some ⟨Bn, 0, none⟩)] (fun x : Int × Int => #[spotV x.1 x.2]) (KB Bn) (fun ys => ys = upto t l nc (nr * nc)) (fun pre => ∃ k, k ≤ nr * nc ∧ pre = upto t l nc k) (nr * nc) w := fun lo J Jx W hW hJ _ hY h0 =>
  (all1_in n hn lo Bn t l b r nr nc ho hr hc' (by have := amay_any t l b r; rw [eA_ok ho] at this; exact hide this) J Jx (hide hY) W hJ (C4.keep hc hW) h0).mono fun e W' ⟨h, h'⟩ =>
    ⟨h, h'.elim (fun a => .inl ⟨_, rfl, a⟩) (fun ⟨k, hk, a⟩ => .inr ⟨_, ⟨k, hk, rfl⟩, a⟩)⟩
/-- The contract of area.All's iterator, of an area that may not be: no round. -/
theorem all_stops_bad (n : Nat) (hn : 1 ≤ n) (Bn : Nat) (t l b r : Int) (ho : ¬ (0 ≤ t ∧ t ≤ b ∧ b < 65536 ∧ 0 ≤ l ∧ l ≤ r ∧ r < 702)) (w : World)
    (hB : Bn < w.heap.size) (hc : C4 w Bn (.int .i64 t) (.int .i64 l) (.int .i64 b) (.int .i64 r)) :
    SeqStopsK Fence.wide n Try.prog 85 #[.pointer (some ⟨Bn, 0, none⟩)] (fun x : Int × Int => #[spotV x.1 x.2]) (KB Bn) (fun ys => ys = []) (fun pre => False) 0 w := fun lo J Jx W hW hJ _ hY h0 =>
  (all1_bad n hn lo Bn t l b r (by have := amay_any t l b r; rw [eA_no ho] at this; exact hide this) J W hJ (C4.keep hc hW) h0).mono fun e W' ⟨h, h'⟩ => ⟨h, .inl ⟨_, rfl, h'⟩⟩
end Go.Proofs.Ytmfkeobjbcinpaa
