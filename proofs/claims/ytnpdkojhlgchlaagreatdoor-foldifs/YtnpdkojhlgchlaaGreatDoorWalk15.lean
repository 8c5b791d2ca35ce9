/- Package fold's walkOn: the next place of an area in row order. Proved of the Go text. -/
import Derived.Test.YtnpdkojhlgchlaaGreatDoorLeaf15
import Derived.Deep.RegionHeld
namespace Go.Proofs.YtnpdkojhlgchlaaGreatDoor
open Go.RowKit Go.Sort
open T9 (Blk Chg)
set_option linter.unusedVariables false

theorem i64_sm {n : Int} (h1 : -9223372036854775808 ≤ n) (h2 : n ≤ 9223372036854775807) : IntKind.i64.wrap n = n := by rw [IntKind.wrap_i64]; omega
theorem drewB {w : World} {B : Nat} {vs : Array Value} {t : TypeId} (h : Blk w B vs t) : Blk w.drew B vs t := h
theorem drewC {m : Nat → Prop} {w w' : World} (h : Chg m w w') : Chg m w w'.drew := ⟨h.os, h.tape, h.output, h.size, h.block⟩
set_option maxHeartbeats 1000000 in
set_option maxRecDepth 100000 in
theorem walkOn_no {w : World} {B : Nat} {th gi ce be se la rest : Value} {wt : Bool} {r0 c0 : Int} {bs : Bool} {x0 x1 : Int} {x2 : ByteArray} (k : Int) (h : Blk w B (fC th gi ce be se la rest k wt r0 c0 bs x0 x1 x2) 79) (t l b r : Int) (n x y : Int) (HC : CallIs 129 #[.agg #[.int .i64 t, .int .i64 l, .int .i64 b, .int .i64 r]] (.int .i64 n)) (n1 : 1 ≤ n) (q1 : Int.tdiv k n = x) (q2 : Int.tmod k n = y) (k0 : 0 ≤ k) (k1 : k ≤ 4096) (b0 : 0 ≤ x) (b1 : x ≤ 4096) (b2 : 0 ≤ y) (b3 : y ≤ 4096) (b4 : 0 ≤ t) (b5 : t ≤ 65536) (b6 : 0 ≤ l) (b7 : l ≤ 702) (hlt : b < t + x) :
    Calls Tryz.prog 63 #[.pointer (some ⟨B, 0, none⟩), .agg #[.int .i64 t, .int .i64 l, .int .i64 b, .int .i64 r]] w fun e w' => e = .returned (.bool false) ∧ Blk w' B (fC th gi ce be se la rest k wt r0 c0 bs x0 x1 x2) 79 ∧ Chg (· = B) w w' := by
  have n0 : (n == 0) = false := by simp; omega
  have n0' : ¬ n = 0 := by omega
  have hxw : IntKind.i64.wrap x = x := i64_sm (by omega) (by omega)
  have hxt : IntKind.i64.wrap (t + x) = t + x := i64_sm (by omega) (by omega)
  have hyl : IntKind.i64.wrap (l + y) = l + y := i64_sm (by omega) (by omega)
  replace h := hide (h.alloc (.cells #[.int .i64 t, .int .i64 l, .int .i64 b, .int .i64 r] 39))
  have A0 := hide (Blk.new w #[.int .i64 t, .int .i64 l, .int .i64 b, .int .i64 r] 39)
  go_enter Tryz.func63, Tryz.ntmps63
  go_wp2_with fail
  refine (HC.out _).mono ?_
  rintro e w1 ⟨rfl, hb1⟩
  replace h := hide (h.out.keep hb1)
  replace A0 := hide (A0.out.keep hb1)
  have C1 := hide ((Chg.of_below (next (step (Below.refl w.heap.size w) _) hb1) : Chg (· = B) w w1))
  clear hb1 HC
  have a3 : w1.cell? ⟨w.heap.size, 0, none⟩ = some (.int .i64 t) := A0.out.at' 0
  have a4 : w1.cell? ⟨w.heap.size, 1, none⟩ = some (.int .i64 l) := A0.out.at' 1
  have c7 : w1.cell? ⟨B, 7, none⟩ = some (.int .i64 k) := h.out.at' 7
  have z1 := World.new_ne w1 _ a3
  have z2 := World.new_ne w1 _ a4
  have z3 := World.new_ne w1 _ c7
  go_wp2_with fail
  go_region_held (fun w' => w'.cell? ⟨w.heap.size, 0, none⟩ = some (.int .i64 t) ∧ w'.cell? ⟨w.heap.size, 1, none⟩ = some (.int .i64 l) ∧ w'.cell? ⟨B, 7, none⟩ = some (.int .i64 k)) (go_keep) (fail)
  all_goals clear a3 a4 c7 z1 z2 z3 q1 q2 n0 n0'
  all_goals try rw [hxt, hyl]
  have P0 := hide (Blk.new w1 #[.int .i64 (t + x), .int .i64 (l + y)] 47)
  have A1 := hide (A0.out.alloc (.cells #[.int .i64 (t + x), .int .i64 (l + y)] 47))
  have h1 := hide (h.out.alloc (.cells #[.int .i64 (t + x), .int .i64 (l + y)] 47))
  have C2 := hide (C1.out.alloc (.cells #[.int .i64 (t + x), .int .i64 (l + y)] 47))
  have a5 : (w1.alloc (.cells #[.int .i64 (t + x), .int .i64 (l + y)] 47)).cell? ⟨w.heap.size, 2, none⟩ = some (.int .i64 b) := A1.out.at' 2
  go_wp2_with fail
  go_ret
  exact ⟨rfl, drewB h1.out, drewC C2.out⟩
set_option maxHeartbeats 1000000 in
set_option maxRecDepth 100000 in
theorem walkOn_yes {w : World} {B : Nat} {th gi ce be se la rest : Value} {wt : Bool} {r0 c0 : Int} {bs : Bool} {x0 x1 : Int} {x2 : ByteArray} (k : Int) (h : Blk w B (fC th gi ce be se la rest k wt r0 c0 bs x0 x1 x2) 79) (t l b r : Int) (n x y : Int) (HC : CallIs 129 #[.agg #[.int .i64 t, .int .i64 l, .int .i64 b, .int .i64 r]] (.int .i64 n)) (n1 : 1 ≤ n) (q1 : Int.tdiv k n = x) (q2 : Int.tmod k n = y) (k0 : 0 ≤ k) (k1 : k ≤ 4096) (b0 : 0 ≤ x) (b1 : x ≤ 4096) (b2 : 0 ≤ y) (b3 : y ≤ 4096) (b4 : 0 ≤ t) (b5 : t ≤ 65536) (b6 : 0 ≤ l) (b7 : l ≤ 702) (hlt : ¬ b < t + x) :
    Calls Tryz.prog 63 #[.pointer (some ⟨B, 0, none⟩), .agg #[.int .i64 t, .int .i64 l, .int .i64 b, .int .i64 r]] w fun e w' => e = .returned (.bool true) ∧ Blk w' B (fC th gi ce be se la rest (k + 1) true (t + x) (l + y) false x0 x1 x2) 79 ∧ Chg (· = B) w w' := by
  have n0 : (n == 0) = false := by simp; omega
  have n0' : ¬ n = 0 := by omega
  have hxw : IntKind.i64.wrap x = x := i64_sm (by omega) (by omega)
  have hxt : IntKind.i64.wrap (t + x) = t + x := i64_sm (by omega) (by omega)
  have hyl : IntKind.i64.wrap (l + y) = l + y := i64_sm (by omega) (by omega)
  replace h := hide (h.alloc (.cells #[.int .i64 t, .int .i64 l, .int .i64 b, .int .i64 r] 39))
  have A0 := hide (Blk.new w #[.int .i64 t, .int .i64 l, .int .i64 b, .int .i64 r] 39)
  go_enter Tryz.func63, Tryz.ntmps63
  go_wp2_with fail
  refine (HC.out _).mono ?_
  rintro e w1 ⟨rfl, hb1⟩
  replace h := hide (h.out.keep hb1)
  replace A0 := hide (A0.out.keep hb1)
  have C1 := hide ((Chg.of_below (next (step (Below.refl w.heap.size w) _) hb1) : Chg (· = B) w w1))
  clear hb1 HC
  have a3 : w1.cell? ⟨w.heap.size, 0, none⟩ = some (.int .i64 t) := A0.out.at' 0
  have a4 : w1.cell? ⟨w.heap.size, 1, none⟩ = some (.int .i64 l) := A0.out.at' 1
  have c7 : w1.cell? ⟨B, 7, none⟩ = some (.int .i64 k) := h.out.at' 7
  have z1 := World.new_ne w1 _ a3
  have z2 := World.new_ne w1 _ a4
  have z3 := World.new_ne w1 _ c7
  go_wp2_with fail
  go_region_held (fun w' => w'.cell? ⟨w.heap.size, 0, none⟩ = some (.int .i64 t) ∧ w'.cell? ⟨w.heap.size, 1, none⟩ = some (.int .i64 l) ∧ w'.cell? ⟨B, 7, none⟩ = some (.int .i64 k)) (go_keep) (fail)
  all_goals clear a3 a4 c7 z1 z2 z3 q1 q2 n0 n0'
  all_goals try rw [hxt, hyl]
  have P0 := hide (Blk.new w1 #[.int .i64 (t + x), .int .i64 (l + y)] 47)
  have A1 := hide (A0.out.alloc (.cells #[.int .i64 (t + x), .int .i64 (l + y)] 47))
  have h1 := hide (h.out.alloc (.cells #[.int .i64 (t + x), .int .i64 (l + y)] 47))
  have C2 := hide (C1.out.alloc (.cells #[.int .i64 (t + x), .int .i64 (l + y)] 47))
  have hne : B ≠ w1.heap.size := Nat.ne_of_lt h.out.lt
  have hne' : w1.heap.size ≠ B := Ne.symm hne
  obtain ⟨w2, hw2⟩ : ∃ w2, w1.alloc (.cells #[.int .i64 (t + x), .int .i64 (l + y)] 47) = w2 := ⟨_, rfl⟩
  rw [hw2] at P0 A1 h1 C2 ⊢
  have a5 : w2.cell? ⟨w.heap.size, 2, none⟩ = some (.int .i64 b) := A1.out.at' 2
  have c7 : w2.cell? ⟨B, 7, none⟩ = some (.int .i64 k) := h1.out.at' 7
  have p0 : w2.cell? ⟨w1.heap.size, 0, none⟩ = some (.int .i64 (t + x)) := P0.out.at' 0
  have p1 : w2.cell? ⟨w1.heap.size, 1, none⟩ = some (.int .i64 (l + y)) := P0.out.at' 1
  have f7 := h1.out.fr 7
  have h3 := hide (h1.out.set 7 (.int .i64 (k + 1)))
  have P3 := hide (Chg.blk (m := (· = B)) ((Chg.refl (· = B) w2).set B 7 (.int .i64 (k + 1)) rfl) P0.out hne')
  have C3 := hide (C2.out.set B 7 (.int .i64 (k + 1)) rfl)
  obtain ⟨w3, hw3⟩ : ∃ w3, w2.setCell ⟨B, 7, none⟩ (.int .i64 (k + 1)) = w3 := ⟨_, rfl⟩
  rw [hw3] at h3 P3 C3
  have p0 : w3.cell? ⟨w1.heap.size, 0, none⟩ = some (.int .i64 (t + x)) := P3.out.at' 0
  have p1 : w3.cell? ⟨w1.heap.size, 1, none⟩ = some (.int .i64 (l + y)) := P3.out.at' 1
  have c9 : w3.cell? ⟨B, 9, none⟩ = some (.int .i64 r0) := h3.out.at' 9
  have f9 := h3.out.fr 9
  have h4 := hide (h3.out.set 9 (.int .i64 (t + x)))
  have C4 := hide (C3.out.set B 9 (.int .i64 (t + x)) rfl)
  obtain ⟨w4, hw4⟩ : ∃ w4, w3.setCell ⟨B, 9, none⟩ (.int .i64 (t + x)) = w4 := ⟨_, rfl⟩
  rw [hw4] at h4 C4
  have c10 : w4.cell? ⟨B, 10, none⟩ = some (.int .i64 c0) := h4.out.at' 10
  have f10 := h4.out.fr 10
  have h5 := hide (h4.out.set 10 (.int .i64 (l + y)))
  have C5 := hide (C4.out.set B 10 (.int .i64 (l + y)) rfl)
  obtain ⟨w5, hw5⟩ : ∃ w5, w4.setCell ⟨B, 10, none⟩ (.int .i64 (l + y)) = w5 := ⟨_, rfl⟩
  rw [hw5] at h5 C5
  have c8 : w5.cell? ⟨B, 8, none⟩ = some (.bool wt) := h5.out.at' 8
  have f8 := h5.out.fr 8
  have h6 := hide (h5.out.set 8 (.bool true))
  have C6 := hide (C5.out.set B 8 (.bool true) rfl)
  obtain ⟨w6, hw6⟩ : ∃ w6, w5.setCell ⟨B, 8, none⟩ (.bool true) = w6 := ⟨_, rfl⟩
  rw [hw6] at h6 C6
  have c11 : w6.cell? ⟨B, 11, none⟩ = some (.bool bs) := h6.out.at' 11
  have f11 := h6.out.fr 11
  have s8 := hide (h6.out.set 11 (.bool false))
  replace C3 := hide (C6.out.set B 11 (.bool false) rfl)
  clear hw2 hxw hxt hyl b0 b1 b2 b3 b4 b5 b6 b7
  go_wp2_with fail
  go_ret
  exact ⟨rfl, drewB s8.out, drewC C3.out⟩
end Go.Proofs.YtnpdkojhlgchlaaGreatDoor
