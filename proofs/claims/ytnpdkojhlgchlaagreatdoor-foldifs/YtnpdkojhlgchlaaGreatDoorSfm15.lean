/- Package fold's sumIf of a number: what makes its rule. Proved of the Go text. -/
import Derived.Test.YtnpdkojhlgchlaaGreatDoorSif15
import Derived.Test.YtnpdkojhlgchlaaGreatDoorCif15
import Derived.Deep.CutRange
import Derived.Deep.RegionHeld
namespace Go.Proofs.YtnpdkojhlgchlaaGreatDoor
open Go.RowKit Go.Sort
open T9 (Blk Chg)
set_option linter.unusedVariables false

abbrev agB (m : Nat) : Ag := ⟨true, 0, 1, (m : Int) - 1, 1, ⟨0, 0, no⟩⟩
/-- Three variables, laid in whatever order. -/
def ThrV (x : Int) (m : Nat) (w0 wx : World) (B1 B2 B3 : Nat) : Prop := Blk wx B1 #[.bool true, .int .i64 0, .int .i64 0, .int .i64 ((m : Int) - 1), .int .i64 0, .int .i64 0, .int .i64 0, .string no] 41 ∧ Blk wx B2 #[.bool false, .int .i64 0, .int .i64 0, .int .i64 0, .int .i64 0, .int .i64 1, .int .i64 x, .string no] 41 ∧ Blk wx B3 #[.bool true, .int .i64 0, .int .i64 0, .int .i64 ((m : Int) - 1), .int .i64 0, .int .i64 0, .int .i64 0, .string no] 41 ∧ (w0.heap.size ≤ B1 ∧ w0.heap.size ≤ B2 ∧ w0.heap.size ≤ B3) ∧ (B1 ≠ B2 ∧ B1 ≠ B3 ∧ B2 ≠ B3) ∧ Below w0.heap.size w0 wx
theorem thr_123 (x : Int) (m : Nat) (w0 : World) : ThrV x m w0 (((w0.alloc (.cells #[.bool true, .int .i64 0, .int .i64 0, .int .i64 ((m : Int) - 1), .int .i64 0, .int .i64 0, .int .i64 0, .string no] 41)).alloc (.cells #[.bool false, .int .i64 0, .int .i64 0, .int .i64 0, .int .i64 0, .int .i64 1, .int .i64 x, .string no] 41)).alloc (.cells #[.bool true, .int .i64 0, .int .i64 0, .int .i64 ((m : Int) - 1), .int .i64 0, .int .i64 0, .int .i64 0, .string no] 41)).drew w0.heap.size (w0.heap.size + 1) (w0.heap.size + 2) := ⟨drewB (((Blk.new w0 _ _).alloc _).alloc _), drewB ((T9.Blk.new1 w0 _ _ _).alloc _), drewB (blk_at _ _ (by simp) _ _), ⟨by omega, by omega, by omega⟩, ⟨by omega, by omega, by omega⟩, (step (step (step (Below.refl _ _) _) _) _).drew⟩
theorem thr_132 (x : Int) (m : Nat) (w0 : World) : ThrV x m w0 (((w0.alloc (.cells #[.bool true, .int .i64 0, .int .i64 0, .int .i64 ((m : Int) - 1), .int .i64 0, .int .i64 0, .int .i64 0, .string no] 41)).alloc (.cells #[.bool true, .int .i64 0, .int .i64 0, .int .i64 ((m : Int) - 1), .int .i64 0, .int .i64 0, .int .i64 0, .string no] 41)).alloc (.cells #[.bool false, .int .i64 0, .int .i64 0, .int .i64 0, .int .i64 0, .int .i64 1, .int .i64 x, .string no] 41)).drew w0.heap.size (w0.heap.size + 2) (w0.heap.size + 1) := ⟨drewB (((Blk.new w0 _ _).alloc _).alloc _), drewB (blk_at _ _ (by simp) _ _), drewB ((T9.Blk.new1 w0 _ _ _).alloc _), ⟨by omega, by omega, by omega⟩, ⟨by omega, by omega, by omega⟩, (step (step (step (Below.refl _ _) _) _) _).drew⟩
theorem thr_213 (x : Int) (m : Nat) (w0 : World) : ThrV x m w0 (((w0.alloc (.cells #[.bool false, .int .i64 0, .int .i64 0, .int .i64 0, .int .i64 0, .int .i64 1, .int .i64 x, .string no] 41)).alloc (.cells #[.bool true, .int .i64 0, .int .i64 0, .int .i64 ((m : Int) - 1), .int .i64 0, .int .i64 0, .int .i64 0, .string no] 41)).alloc (.cells #[.bool true, .int .i64 0, .int .i64 0, .int .i64 ((m : Int) - 1), .int .i64 0, .int .i64 0, .int .i64 0, .string no] 41)).drew (w0.heap.size + 1) w0.heap.size (w0.heap.size + 2) := ⟨drewB ((T9.Blk.new1 w0 _ _ _).alloc _), drewB (((Blk.new w0 _ _).alloc _).alloc _), drewB (blk_at _ _ (by simp) _ _), ⟨by omega, by omega, by omega⟩, ⟨by omega, by omega, by omega⟩, (step (step (step (Below.refl _ _) _) _) _).drew⟩
theorem thr_231 (x : Int) (m : Nat) (w0 : World) : ThrV x m w0 (((w0.alloc (.cells #[.bool false, .int .i64 0, .int .i64 0, .int .i64 0, .int .i64 0, .int .i64 1, .int .i64 x, .string no] 41)).alloc (.cells #[.bool true, .int .i64 0, .int .i64 0, .int .i64 ((m : Int) - 1), .int .i64 0, .int .i64 0, .int .i64 0, .string no] 41)).alloc (.cells #[.bool true, .int .i64 0, .int .i64 0, .int .i64 ((m : Int) - 1), .int .i64 0, .int .i64 0, .int .i64 0, .string no] 41)).drew (w0.heap.size + 2) w0.heap.size (w0.heap.size + 1) := ⟨drewB (blk_at _ _ (by simp) _ _), drewB (((Blk.new w0 _ _).alloc _).alloc _), drewB ((T9.Blk.new1 w0 _ _ _).alloc _), ⟨by omega, by omega, by omega⟩, ⟨by omega, by omega, by omega⟩, (step (step (step (Below.refl _ _) _) _) _).drew⟩
theorem thr_312 (x : Int) (m : Nat) (w0 : World) : ThrV x m w0 (((w0.alloc (.cells #[.bool true, .int .i64 0, .int .i64 0, .int .i64 ((m : Int) - 1), .int .i64 0, .int .i64 0, .int .i64 0, .string no] 41)).alloc (.cells #[.bool true, .int .i64 0, .int .i64 0, .int .i64 ((m : Int) - 1), .int .i64 0, .int .i64 0, .int .i64 0, .string no] 41)).alloc (.cells #[.bool false, .int .i64 0, .int .i64 0, .int .i64 0, .int .i64 0, .int .i64 1, .int .i64 x, .string no] 41)).drew (w0.heap.size + 1) (w0.heap.size + 2) w0.heap.size := ⟨drewB ((T9.Blk.new1 w0 _ _ _).alloc _), drewB (blk_at _ _ (by simp) _ _), drewB (((Blk.new w0 _ _).alloc _).alloc _), ⟨by omega, by omega, by omega⟩, ⟨by omega, by omega, by omega⟩, (step (step (step (Below.refl _ _) _) _) _).drew⟩
theorem thr_321 (x : Int) (m : Nat) (w0 : World) : ThrV x m w0 (((w0.alloc (.cells #[.bool true, .int .i64 0, .int .i64 0, .int .i64 ((m : Int) - 1), .int .i64 0, .int .i64 0, .int .i64 0, .string no] 41)).alloc (.cells #[.bool false, .int .i64 0, .int .i64 0, .int .i64 0, .int .i64 0, .int .i64 1, .int .i64 x, .string no] 41)).alloc (.cells #[.bool true, .int .i64 0, .int .i64 0, .int .i64 ((m : Int) - 1), .int .i64 0, .int .i64 0, .int .i64 0, .string no] 41)).drew (w0.heap.size + 2) (w0.heap.size + 1) w0.heap.size := ⟨drewB (blk_at _ _ (by simp) _ _), drewB ((T9.Blk.new1 w0 _ _ _).alloc _), drewB (((Blk.new w0 _ _).alloc _).alloc _), ⟨by omega, by omega, by omega⟩, ⟨by omega, by omega, by omega⟩, (step (step (step (Below.refl _ _) _) _) _).drew⟩
/-- What sumIf's closures read. -/
def sifM (B2 Bg Ba Bp : Nat) (k : Nat) : Prop := k = B2 ∨ k = Bg ∨ k = Ba ∨ k = Bp ∨ k = Bp + 1
def sifK (x : Int) (m L : Nat) (l : Int) (ga : Option Addr) (gc B2 Bg Ba Bk Bp : Nat) (w : World) : Prop := Blk w B2 #[.bool false, .int .i64 0, .int .i64 0, .int .i64 0, .int .i64 0, .int .i64 1, .int .i64 x, .string no] 41 ∧ Blk w Bg #[.slice ga L gc] 29 ∧ Blk w Ba #[.func (.func 188) #[] #[.pointer (some ⟨Bk, 0, none⟩)]] 70 ∧ Blk w Bp #[.int .i64 0, .int .i64 0, .int .i64 ((m : Int) - 1), .int .i64 0] 39 ∧ Blk w (Bp + 1) #[.int .i64 0, .int .i64 l, .int .i64 ((m : Int) - 1), .int .i64 l] 39
theorem sifK_keep (x : Int) (m L : Nat) (l : Int) (ga : Option Addr) (gc B2 Bg Ba Bk Bp : Nat) : KeepK (sifM B2 Bg Ba Bp) (sifK x m L l ga gc B2 Bg Ba Bk Bp) := by
  constructor
  · intro w h k hk
    rcases hk with rfl | rfl | rfl | rfl | rfl
    · exact h.1.lt
    · exact h.2.1.lt
    · exact h.2.2.1.lt
    · exact h.2.2.2.1.lt
    · exact h.2.2.2.2.lt
  · intro w w' h hb
    exact ⟨(hb _ (.inl rfl)).trans h.1, (hb _ (.inr (.inl rfl))).trans h.2.1, (hb _ (.inr (.inr (.inl rfl)))).trans h.2.2.1, (hb _ (.inr (.inr (.inr (.inl rfl))))).trans h.2.2.2.1, (hb _ (.inr (.inr (.inr (.inr rfl))))).trans h.2.2.2.2⟩
theorem lik_c (m : Nat) (l : Int) (wy w' : World) (hw : Below wy.heap.size wy w') : Calls Tryz.prog 137 #[.agg #[.int .i64 0, .int .i64 0, .int .i64 ((m : Int) - 1), .int .i64 0], .agg #[.int .i64 0, .int .i64 l, .int .i64 ((m : Int) - 1), .int .i64 l]] w' fun e wx => ∃ Bp, e = .returned (.func (.func 189) #[] #[.pointer (some ⟨Bp, 0, none⟩), .pointer (some ⟨Bp + 1, 0, none⟩)]) ∧ Hid (Blk wx Bp #[.int .i64 0, .int .i64 0, .int .i64 ((m : Int) - 1), .int .i64 0] 39 ∧ Blk wx (Bp + 1) #[.int .i64 0, .int .i64 l, .int .i64 ((m : Int) - 1), .int .i64 l] 39 ∧ wy.heap.size ≤ Bp ∧ Below wy.heap.size wy wx) :=
  (likewise_is 0 0 ((m : Int) - 1) 0 0 l ((m : Int) - 1) l w').mono fun e wx h => ⟨w'.heap.size, h.1, hide (by rw [h.2]; exact ⟨(Blk.new _ _ _).alloc _, T9.Blk.new1 _ _ _ _, hw.size, step (step hw _) _⟩)⟩
set_option maxHeartbeats 8000000 in
set_option maxRecDepth 100000 in
theorem sumIf_mk3 (x : Int) (m : Nat) (h1 : 1 ≤ m) (h3 : m ≤ 300) : MkX 59 [agC (m : Nat), agN x, agB m] [agC (m : Nat)] (0 : Int) dG (fun n => ⟨1, n, no⟩) (BesX isI (sif3 x) (celN sumT) (likB 0 0 0 1) (fun n => ⟨1, n, no⟩)) := by
  refine ⟨?_, ent_of Tryz.func59 (by kernel_rfl) (by kernel_rfl), (fun s v e => by cases e), (fun a ha => by rcases List.mem_cons.1 ha with rfl | ha; exact agC_ok _ (by omega) (by omega); cases ha), by simp⟩
  intro w g cap hg hcap hrow
  have R0 := hrow 0 _ rfl
  have R1 := hrow 1 _ rfl
  have R2 := hrow 2 _ rfl
  have hsl := fun w => slice01 g 0 3 cap (by decide) (by simpa using hcap) w
  have hc1 : (1 : Int) ≤ (cap : Int) := by simp only [List.length_cons, List.length_nil] at hcap; omega
  have hgl : Hid (g < w.heap.size) := hide hg
  have hrw : Hid (w.rangeAt g (0 + 0 * 8) (agL (agC (m : Nat)))) := hide R0
  simp only [List.length_cons, List.length_nil]
  obtain ⟨w0, hw0⟩ : ∃ w0, (w.alloc (.cells #[.slice (some ⟨g, 0, none⟩) 3 cap] 29)).alloc (.cells #[.slice none 0 0, .nilFunc, .nilFunc, .nilFunc, .nilFunc, .nilFunc] 74) = w0 := ⟨_, rfl⟩
  have K0 : Below w.heap.size w w0 := by rw [← hw0]; exact step (step (Below.refl _ _) _) _
  have G0 : Blk w0 w.heap.size #[.slice (some ⟨g, 0, none⟩) 3 cap] 29 := by rw [← hw0]; exact (Blk.new w _ _).alloc _
  have B0 : Hid (Blk w0 (w.heap.size + 1) #[.slice none 0 0, .nilFunc, .nilFunc, .nilFunc, .nilFunc, .nilFunc] 74) := hide (by rw [← hw0]; exact T9.Blk.new1 w _ _ _)
  have hz0 : Hid (w0.heap.size = w.heap.size + 2) := hide (by rw [← hw0]; simp)
  have gh : w0.cell? ⟨w.heap.size, 0, none⟩ = some (.slice (some ⟨g, 0, none⟩) 3 cap) := G0.at' 0
  have d0 : w0.cell? ⟨g, 0, none⟩ = some (.bool true) := keep1 K0 (by have := R0 0 _ rfl; simpa using this)
  have d1 : w0.cell? ⟨g, 1, none⟩ = some (.int .i64 0) := keep1 K0 (by have := R0 1 _ rfl; simpa using this)
  have d2 : w0.cell? ⟨g, 2, none⟩ = some (.int .i64 0) := keep1 K0 (by have := R0 2 _ rfl; simpa using this)
  have d3 : w0.cell? ⟨g, 3, none⟩ = some (.int .i64 ((m : Int) - 1)) := keep1 K0 (by have := R0 3 _ rfl; simpa using this)
  have d4 : w0.cell? ⟨g, 4, none⟩ = some (.int .i64 0) := keep1 K0 (by have := R0 4 _ rfl; simpa using this)
  have d5 : w0.cell? ⟨g, 5, none⟩ = some (.int .i64 0) := keep1 K0 (by have := R0 5 _ rfl; simpa using this)
  have d6 : w0.cell? ⟨g, 6, none⟩ = some (.int .i64 0) := keep1 K0 (by have := R0 6 _ rfl; simpa using this)
  have d7 : w0.cell? ⟨g, 7, none⟩ = some (.string no) := keep1 K0 (by have := R0 7 _ rfl; simpa using this)
  have t0 : w0.cell? ⟨g, 8, none⟩ = some (.bool false) := keep1 K0 (by have := R1 0 _ rfl; simpa using this)
  have t1 : w0.cell? ⟨g, 9, none⟩ = some (.int .i64 0) := keep1 K0 (by have := R1 1 _ rfl; simpa using this)
  have t2 : w0.cell? ⟨g, 10, none⟩ = some (.int .i64 0) := keep1 K0 (by have := R1 2 _ rfl; simpa using this)
  have t3 : w0.cell? ⟨g, 11, none⟩ = some (.int .i64 0) := keep1 K0 (by have := R1 3 _ rfl; simpa using this)
  have t4 : w0.cell? ⟨g, 12, none⟩ = some (.int .i64 0) := keep1 K0 (by have := R1 4 _ rfl; simpa using this)
  have t5 : w0.cell? ⟨g, 13, none⟩ = some (.int .i64 1) := keep1 K0 (by have := R1 5 _ rfl; simpa using this)
  have t6 : w0.cell? ⟨g, 14, none⟩ = some (.int .i64 x) := keep1 K0 (by have := R1 6 _ rfl; simpa using this)
  have t7 : w0.cell? ⟨g, 15, none⟩ = some (.string no) := keep1 K0 (by have := R1 7 _ rfl; simpa using this)
  have v0 : w.cell? ⟨g, 16, none⟩ = some (.bool true) := by have := R2 0 _ rfl; simpa using this
  have v1 : w.cell? ⟨g, 17, none⟩ = some (.int .i64 0) := by have := R2 1 _ rfl; simpa using this
  have v2 : w.cell? ⟨g, 18, none⟩ = some (.int .i64 1) := by have := R2 2 _ rfl; simpa using this
  have v3 : w.cell? ⟨g, 19, none⟩ = some (.int .i64 ((m : Int) - 1)) := by have := R2 3 _ rfl; simpa using this
  have v4 : w.cell? ⟨g, 20, none⟩ = some (.int .i64 1) := by have := R2 4 _ rfl; simpa using this
  have v5 : w.cell? ⟨g, 21, none⟩ = some (.int .i64 0) := by have := R2 5 _ rfl; simpa using this
  have v6 : w.cell? ⟨g, 22, none⟩ = some (.int .i64 0) := by have := R2 6 _ rfl; simpa using this
  have v7 : w.cell? ⟨g, 23, none⟩ = some (.string no) := by have := R2 7 _ rfl; simpa using this
  have hvv := hide (And.intro v0 (And.intro v1 (And.intro v2 (And.intro v3 (And.intro v4 (And.intro v5 (And.intro v6 v7)))))))
  clear v0 v1 v2 v3 v4 v5 v6 v7 R2
  have HSall := hide (fun w' (hb : Below w0.heap.size w0 w') => (show w'.cell? ⟨w.heap.size, 0, none⟩ = some (.slice (some ⟨g, 0, none⟩) 3 cap) ∧ w'.cell? ⟨g, 0, none⟩ = some (.bool true) ∧ w'.cell? ⟨g, 1, none⟩ = some (.int .i64 0) ∧ w'.cell? ⟨g, 2, none⟩ = some (.int .i64 0) ∧ w'.cell? ⟨g, 3, none⟩ = some (.int .i64 ((m : Int) - 1)) ∧ w'.cell? ⟨g, 4, none⟩ = some (.int .i64 0) ∧ w'.cell? ⟨g, 5, none⟩ = some (.int .i64 0) ∧ w'.cell? ⟨g, 6, none⟩ = some (.int .i64 0) ∧ w'.cell? ⟨g, 7, none⟩ = some (.string no) ∧ w'.cell? ⟨g, 8, none⟩ = some (.bool false) ∧ w'.cell? ⟨g, 9, none⟩ = some (.int .i64 0) ∧ w'.cell? ⟨g, 10, none⟩ = some (.int .i64 0) ∧ w'.cell? ⟨g, 11, none⟩ = some (.int .i64 0) ∧ w'.cell? ⟨g, 12, none⟩ = some (.int .i64 0) ∧ w'.cell? ⟨g, 13, none⟩ = some (.int .i64 1) ∧ w'.cell? ⟨g, 14, none⟩ = some (.int .i64 x) ∧ w'.cell? ⟨g, 15, none⟩ = some (.string no) from ⟨keep1 hb gh, keep1 hb d0, keep1 hb d1, keep1 hb d2, keep1 hb d3, keep1 hb d4, keep1 hb d5, keep1 hb d6, keep1 hb d7, keep1 hb t0, keep1 hb t1, keep1 hb t2, keep1 hb t3, keep1 hb t4, keep1 hb t5, keep1 hb t6, keep1 hb t7⟩))
  replace K0 := hide K0
  replace G0 := hide G0
  replace hw0 := hide hw0
  replace hrow := hide hrow
  replace hg := hide hg
  clear R0 R1
  go_enter Tryz.func59, Tryz.ntmps59
  go_upto_region 1 with fail
  rw [hw0.out]
  clear hw0
  go_cut [3, 4, 5] from 10 to 18 (fun c3 c4 c5 wx => ∃ B1 B2 B3, c3 = .pointer (some ⟨B1, 0, none⟩) ∧ c4 = .pointer (some ⟨B2, 0, none⟩) ∧ c5 = .pointer (some ⟨B3, 0, none⟩) ∧ Hid (ThrV x m w0 wx B1 B2 B3))
  case first =>
    go_region_held (fun w' => w'.cell? ⟨w.heap.size, 0, none⟩ = some (.slice (some ⟨g, 0, none⟩) 3 cap) ∧ w'.cell? ⟨g, 0, none⟩ = some (.bool true) ∧ w'.cell? ⟨g, 1, none⟩ = some (.int .i64 0) ∧ w'.cell? ⟨g, 2, none⟩ = some (.int .i64 0) ∧ w'.cell? ⟨g, 3, none⟩ = some (.int .i64 ((m : Int) - 1)) ∧ w'.cell? ⟨g, 4, none⟩ = some (.int .i64 0) ∧ w'.cell? ⟨g, 5, none⟩ = some (.int .i64 0) ∧ w'.cell? ⟨g, 6, none⟩ = some (.int .i64 0) ∧ w'.cell? ⟨g, 7, none⟩ = some (.string no) ∧ w'.cell? ⟨g, 8, none⟩ = some (.bool false) ∧ w'.cell? ⟨g, 9, none⟩ = some (.int .i64 0) ∧ w'.cell? ⟨g, 10, none⟩ = some (.int .i64 0) ∧ w'.cell? ⟨g, 11, none⟩ = some (.int .i64 0) ∧ w'.cell? ⟨g, 12, none⟩ = some (.int .i64 0) ∧ w'.cell? ⟨g, 13, none⟩ = some (.int .i64 1) ∧ w'.cell? ⟨g, 14, none⟩ = some (.int .i64 x) ∧ w'.cell? ⟨g, 15, none⟩ = some (.string no)) (exact HSall.out _ (by go_grown)) (fail)
    all_goals (go_wp2_with fail)
    all_goals go_meet
    all_goals (first
      | exact ⟨_, _, _, rfl, rfl, rfl, hide (thr_123 x m w0)⟩
      | exact ⟨_, _, _, rfl, rfl, rfl, hide (thr_132 x m w0)⟩
      | exact ⟨_, _, _, rfl, rfl, rfl, hide (thr_213 x m w0)⟩
      | exact ⟨_, _, _, rfl, rfl, rfl, hide (thr_231 x m w0)⟩
      | exact ⟨_, _, _, rfl, rfl, rfl, hide (thr_312 x m w0)⟩
      | exact ⟨_, _, _, rfl, rfl, rfl, hide (thr_321 x m w0)⟩)
  case rest =>
    obtain ⟨B1, B2, B3, rfl, rfl, rfl, hT⟩ := hcut
    obtain ⟨A1, A2, A3, ⟨l1, l2, l3⟩, ⟨n1, n2, n3⟩, KT⟩ := hT.out
    have KC := hide (next K0.out KT)
    have GC := hide (G0.out.keep KT)
    have BC := hide (B0.out.keep KT)
    have gc : wc.cell? ⟨w.heap.size, 0, none⟩ = some (.slice (some ⟨g, 0, none⟩) 3 cap) := GC.out.at' 0
    have hz := hz0.out
    have ll : Hid (w.heap.size + 2 ≤ B1 ∧ w.heap.size + 2 ≤ B2 ∧ w.heap.size + 2 ≤ B3) := hide ⟨by omega, by omega, by omega⟩
    have nn : Hid (B1 ≠ B2 ∧ B1 ≠ B3 ∧ B2 ≠ B3) := hide ⟨n1, n2, n3⟩
    clear hT HSall gh d0 d1 d2 d3 d4 d5 d6 d7 t0 t1 t2 t3 t4 t5 t6 t7 l1 l2 l3 n1 n2 n3 hz hz0 KT G0 B0 K0
    replace A1 := hide A1
    replace A2 := hide A2
    have v0 : wc.cell? ⟨g, 16, none⟩ = some (.bool true) := keep1 KC.out hvv.out.1
    have v1 : wc.cell? ⟨g, 17, none⟩ = some (.int .i64 0) := keep1 KC.out hvv.out.2.1
    have v2 : wc.cell? ⟨g, 18, none⟩ = some (.int .i64 1) := keep1 KC.out hvv.out.2.2.1
    have v3 : wc.cell? ⟨g, 19, none⟩ = some (.int .i64 ((m : Int) - 1)) := keep1 KC.out hvv.out.2.2.2.1
    have v4 : wc.cell? ⟨g, 20, none⟩ = some (.int .i64 1) := keep1 KC.out hvv.out.2.2.2.2.1
    have v5 : wc.cell? ⟨g, 21, none⟩ = some (.int .i64 0) := keep1 KC.out hvv.out.2.2.2.2.2.1
    have v6 : wc.cell? ⟨g, 22, none⟩ = some (.int .i64 0) := keep1 KC.out hvv.out.2.2.2.2.2.2.1
    have v7 : wc.cell? ⟨g, 23, none⟩ = some (.string no) := keep1 KC.out hvv.out.2.2.2.2.2.2.2
    have a0 : wc.cell? ⟨B3, 0, none⟩ = some (.bool true) := A3.at' 0
    have a1 : wc.cell? ⟨B3, 1, none⟩ = some (.int .i64 0) := A3.at' 1
    have a2 : wc.cell? ⟨B3, 2, none⟩ = some (.int .i64 0) := A3.at' 2
    have a3 : wc.cell? ⟨B3, 3, none⟩ = some (.int .i64 ((m : Int) - 1)) := A3.at' 3
    have a4 : wc.cell? ⟨B3, 4, none⟩ = some (.int .i64 0) := A3.at' 4
    have a5 : wc.cell? ⟨B3, 5, none⟩ = some (.int .i64 0) := A3.at' 5
    have a6 : wc.cell? ⟨B3, 6, none⟩ = some (.int .i64 0) := A3.at' 6
    have a7 : wc.cell? ⟨B3, 7, none⟩ = some (.string no) := A3.at' 7
    have af := A3.fr
    obtain ⟨wb, hwb⟩ : ∃ wb, ((((((((wc.setCell ⟨B3, 0, none⟩ (.bool true)).setCell ⟨B3, 1, none⟩ (.int .i64 0)).setCell ⟨B3, 2, none⟩ (.int .i64 1)).setCell ⟨B3, 3, none⟩ (.int .i64 ((m : Int) - 1))).setCell ⟨B3, 4, none⟩ (.int .i64 1)).setCell ⟨B3, 5, none⟩ (.int .i64 0)).setCell ⟨B3, 6, none⟩ (.int .i64 0)).setCell ⟨B3, 7, none⟩ (.string no)) = wb := ⟨_, rfl⟩
    have A4 : Blk wb B3 #[.bool true, .int .i64 0, .int .i64 1, .int .i64 ((m : Int) - 1), .int .i64 1, .int .i64 0, .int .i64 0, .string no] 41 := by rw [← hwb]; exact blk_setAll (vs := #[.bool true, .int .i64 0, .int .i64 1, .int .i64 ((m : Int) - 1), .int .i64 1, .int .i64 0, .int .i64 0, .string no]) A3 rfl
    have C4 : Hid (Chg (· = B3) wc wb) := hide (by rw [← hwb]; exact chg15 B3 [.bool true, .int .i64 0, .int .i64 1, .int .i64 ((m : Int) - 1), .int .i64 1, .int .i64 0, .int .i64 0, .string no] 0 wc)
    have A1b := hide (C4.out.blk A1.out (nn.out.2.1))
    have A2b := hide (C4.out.blk A2.out (nn.out.2.2))
    have A3b := hide A4
    have GB := hide (C4.out.blk GC.out (by have := ll.out; omega))
    have BB := hide (C4.out.blk BC.out (by have := ll.out; omega))
    have KB := hide (bel_chg KC.out (by have := ll.out; omega) C4.out)
    clear A4
    replace A3 := hide A3
    go_upto_region 4 with fail
    try rw [hwb]
    clear hwb gc v0 v1 v2 v3 v4 v5 v6 v7 a0 a1 a2 a3 a4 a5 a6 a7 af
    have e0 := cell_regrown (show wb.cell? ⟨B1, 0, none⟩ = some (.bool true) from A1b.out.at' 0)
    have e1 := cell_regrown (show wb.cell? ⟨B1, 1, none⟩ = some (.int .i64 0) from A1b.out.at' 1)
    have e2 := cell_regrown (show wb.cell? ⟨B1, 2, none⟩ = some (.int .i64 0) from A1b.out.at' 2)
    have e3 := cell_regrown (show wb.cell? ⟨B1, 3, none⟩ = some (.int .i64 ((m : Int) - 1)) from A1b.out.at' 3)
    have e4 := cell_regrown (show wb.cell? ⟨B1, 4, none⟩ = some (.int .i64 0) from A1b.out.at' 4)
    have e5 := cell_regrown (show wb.cell? ⟨B1, 5, none⟩ = some (.int .i64 0) from A1b.out.at' 5)
    have e6 := cell_regrown (show wb.cell? ⟨B1, 6, none⟩ = some (.int .i64 0) from A1b.out.at' 6)
    have e7 := cell_regrown (show wb.cell? ⟨B1, 7, none⟩ = some (.string no) from A1b.out.at' 7)
    have f0 := cell_regrown (show wb.cell? ⟨B2, 0, none⟩ = some (.bool false) from A2b.out.at' 0)
    have f1 := cell_regrown (show wb.cell? ⟨B2, 1, none⟩ = some (.int .i64 0) from A2b.out.at' 1)
    have f2 := cell_regrown (show wb.cell? ⟨B2, 2, none⟩ = some (.int .i64 0) from A2b.out.at' 2)
    have f3 := cell_regrown (show wb.cell? ⟨B2, 3, none⟩ = some (.int .i64 0) from A2b.out.at' 3)
    have f4 := cell_regrown (show wb.cell? ⟨B2, 4, none⟩ = some (.int .i64 0) from A2b.out.at' 4)
    have f5 := cell_regrown (show wb.cell? ⟨B2, 5, none⟩ = some (.int .i64 1) from A2b.out.at' 5)
    have f6 := cell_regrown (show wb.cell? ⟨B2, 6, none⟩ = some (.int .i64 x) from A2b.out.at' 6)
    have f7 := cell_regrown (show wb.cell? ⟨B2, 7, none⟩ = some (.string no) from A2b.out.at' 7)
    have q0 := cell_regrown (show wb.cell? ⟨B3, 0, none⟩ = some (.bool true) from A3b.out.at' 0)
    have q1 := cell_regrown (show wb.cell? ⟨B3, 1, none⟩ = some (.int .i64 0) from A3b.out.at' 1)
    have q2 := cell_regrown (show wb.cell? ⟨B3, 2, none⟩ = some (.int .i64 1) from A3b.out.at' 2)
    have q3 := cell_regrown (show wb.cell? ⟨B3, 3, none⟩ = some (.int .i64 ((m : Int) - 1)) from A3b.out.at' 3)
    have q4 := cell_regrown (show wb.cell? ⟨B3, 4, none⟩ = some (.int .i64 1) from A3b.out.at' 4)
    have q5 := cell_regrown (show wb.cell? ⟨B3, 5, none⟩ = some (.int .i64 0) from A3b.out.at' 5)
    have q6 := cell_regrown (show wb.cell? ⟨B3, 6, none⟩ = some (.int .i64 0) from A3b.out.at' 6)
    have q7 := cell_regrown (show wb.cell? ⟨B3, 7, none⟩ = some (.string no) from A3b.out.at' 7)
    have kq0 := fun d' os => Calls.regrown_of ((amiss_sought x).out (grow (redrawn wb d') os))
    have kq1 := fun d' os => Calls.regrown_of ((amiss_area 0 0 ((m : Int) - 1) 0 ⟨0, 0, no⟩).out (grow (redrawn wb d') os))
    have kq2 := fun d' os => Calls.regrown_of ((amiss_pair ((m : Int) - 1) 1 (by omega) (by omega) (by decide) (by decide)).out (grow (redrawn wb d') os))
    refine quiet_tail 7 (by kernel_rfl) (by kernel_rfl) ?_
    simp only [List.take_succ_cons, List.take_zero, List.drop_succ_cons, List.drop_zero]
    repeat (go_big_quiet_step (first | (with_reducible exact kq0 _ _) | (with_reducible exact kq1 _ _) | (with_reducible exact kq2 _ _)))
    refine wpQuiet_nil ?_
    intro wq hwq
    have hbq : Hid (Below wb.heap.size wb wq) := hide (by obtain ⟨⟨dq, osq⟩, hq⟩ := hwq; rw [hq]; exact below_regrown _ dq osq)
    clear hwq e0 e1 e2 e3 e4 e5 e6 e7 f0 f1 f2 f3 f4 f5 f6 f7 q0 q1 q2 q3 q4 q5 q6 q7 kq0 kq1 kq2
    go_wp2_with fail
    refine (or_zero 3 (by decide) _ _ _ (fun j hj => ?_)).mono ?_
    · have hb := Blk.new wq #[.int .i64 0, .int .i64 0, .int .i64 0] 3
      rw [hb.at']
      match j, hj with
      | 0, _ => rfl
      | 1, _ => rfl
      | 2, _ => rfl
    rintro e w3 ⟨rfl, rfl⟩
    have KZ := hide (step hbq.out (.cells #[.int .i64 0, .int .i64 0, .int .i64 0] 3))
    obtain ⟨wz, hwz⟩ : ∃ wz, wq.alloc (.cells #[.int .i64 0, .int .i64 0, .int .i64 0] 3) = wz := ⟨_, rfl⟩
    rw [hwz] at KZ
    go_upto_region 7 with fail
    try rw [hwz]
    clear hwz hbq
    go_wp2_with fail
    refine (into_is _ _ _).mono ?_
    rintro e w3 ⟨rfl, rfl⟩
    go_wp2_with fail
    refine (ofn_is _ _ _).mono ?_
    rintro e w3 ⟨rfl, rfl⟩
    go_upto_region 10 with fail
    obtain ⟨Bn, hBn⟩ : ∃ Bn, wz.heap.size = Bn := ⟨_, rfl⟩
    have nB : Hid (wb.heap.size ≤ Bn) := hide (by rw [← hBn]; exact KZ.out.size)
    obtain ⟨wy, hwy⟩ : ∃ wy, ((((wz.alloc (.cells #[.int .i64 0] 2)).alloc (.cells #[.pointer (some ⟨wz.heap.size, 0, none⟩)] 116)).alloc (.cells #[.func (.func 89) #[] #[]] 117)).alloc (.cells #[tkV (wz.heap.size + 1 + 1) (wz.heap.size + 1)] 114)).alloc (.cells #[.func (.func 188) #[] #[.pointer (some ⟨wz.heap.size + 1 + 1 + 1, 0, none⟩)]] 70) = wy := ⟨_, rfl⟩
    have S0 : Hid (SumS Bn (Bn + 1) (Bn + 2) (Bn + 3) (Bn + 3) 0 (fun k => k = Bn ∨ k = Bn + 1 ∨ k = Bn + 2 ∨ k = Bn + 3 ∨ k = Bn + 3) wy) := hide (by
      rw [← hBn, ← hwy]
      exact ⟨((((blk_at _ _ (by simp) _ _).alloc _).alloc _).alloc _).alloc _, (((blk_at _ _ (by simp) _ _).alloc _).alloc _).alloc _, ((blk_at _ _ (by simp) _ _).alloc _).alloc _, (blk_at _ _ (by simp) _ _).alloc _, (blk_at _ _ (by simp) _ _).alloc _, rfl, by omega, by decide, by decide⟩)
    have F0 : Hid (Blk wy (Bn + 4) #[.func (.func 188) #[] #[.pointer (some ⟨Bn + 3, 0, none⟩)]] 70) := hide (by rw [← hBn, ← hwy]; exact blk_at _ _ (by simp) _ _)
    have KY : Hid (Below wz.heap.size wz wy) := hide (by rw [← hwy]; exact step (step (step (step (step (Below.refl _ _) _) _) _) _) _)
    have hzy : Hid (wy.heap.size = Bn + 5) := hide (by rw [← hwy, ← hBn]; simp)
    unfold tkV at hwy
    rw [hwy]
    try rw [hBn]
    clear hwy
    have GY := hide (GB.out.keep (next KZ.out KY.out))
    have BY := hide (BB.out.keep (next KZ.out KY.out))
    have Y1 := hide (A1b.out.keep (next KZ.out KY.out))
    have Y2 := hide (A2b.out.keep (next KZ.out KY.out))
    have Y3 := hide (A3b.out.keep (next KZ.out KY.out))
    have KK := hide (next KB.out (next KZ.out KY.out))
    have hlt : Hid (B2 < Bn) := hide (Nat.lt_of_lt_of_le (A2b.out.lt) nB.out)
    clear KZ KY GB BB A1b A2b A3b hBn
    have g0 : wy.cell? ⟨w.heap.size, 0, none⟩ = some (.slice (some ⟨g, 0, none⟩) 3 cap) := GY.out.at' 0
    have k0 : wy.cell? ⟨Bn + 1 + 1 + 1 + 1, 0, none⟩ = some (.func (.func 188) #[] #[.pointer (some ⟨Bn + 3, 0, none⟩)]) := F0.out.at' 0
    have p1 : wy.cell? ⟨B1, 1, none⟩ = some (.int .i64 0) := Y1.out.at' 1
    have u1 : wy.cell? ⟨B3, 1, none⟩ = some (.int .i64 0) := Y3.out.at' 1
    have p2 : wy.cell? ⟨B1, 2, none⟩ = some (.int .i64 0) := Y1.out.at' 2
    have u2 : wy.cell? ⟨B3, 2, none⟩ = some (.int .i64 1) := Y3.out.at' 2
    have p3 : wy.cell? ⟨B1, 3, none⟩ = some (.int .i64 ((m : Int) - 1)) := Y1.out.at' 3
    have u3 : wy.cell? ⟨B3, 3, none⟩ = some (.int .i64 ((m : Int) - 1)) := Y3.out.at' 3
    have p4 : wy.cell? ⟨B1, 4, none⟩ = some (.int .i64 0) := Y1.out.at' 4
    have u4 : wy.cell? ⟨B3, 4, none⟩ = some (.int .i64 1) := Y3.out.at' 4
    have HL := hide (fun w' (hw' : Below wy.heap.size wy w') => lik_c m 1 wy w' hw')
    have HS2 := hide (fun w' (hb : Below wy.heap.size wy w') => (show w'.cell? ⟨w.heap.size, 0, none⟩ = some (.slice (some ⟨g, 0, none⟩) 3 cap) ∧ w'.cell? ⟨Bn + 1 + 1 + 1 + 1, 0, none⟩ = some (.func (.func 188) #[] #[.pointer (some ⟨Bn + 3, 0, none⟩)]) ∧ w'.cell? ⟨B1, 1, none⟩ = some (.int .i64 0) ∧ w'.cell? ⟨B1, 2, none⟩ = some (.int .i64 0) ∧ w'.cell? ⟨B1, 3, none⟩ = some (.int .i64 ((m : Int) - 1)) ∧ w'.cell? ⟨B1, 4, none⟩ = some (.int .i64 0) ∧ w'.cell? ⟨B3, 1, none⟩ = some (.int .i64 0) ∧ w'.cell? ⟨B3, 2, none⟩ = some (.int .i64 1) ∧ w'.cell? ⟨B3, 3, none⟩ = some (.int .i64 ((m : Int) - 1)) ∧ w'.cell? ⟨B3, 4, none⟩ = some (.int .i64 1) from ⟨keep1 hb g0, keep1 hb k0, keep1 hb p1, keep1 hb p2, keep1 hb p3, keep1 hb p4, keep1 hb u1, keep1 hb u2, keep1 hb u3, keep1 hb u4⟩))
    go_region_held (fun w' => w'.cell? ⟨w.heap.size, 0, none⟩ = some (.slice (some ⟨g, 0, none⟩) 3 cap) ∧ w'.cell? ⟨Bn + 1 + 1 + 1 + 1, 0, none⟩ = some (.func (.func 188) #[] #[.pointer (some ⟨Bn + 3, 0, none⟩)]) ∧ w'.cell? ⟨B1, 1, none⟩ = some (.int .i64 0) ∧ w'.cell? ⟨B1, 2, none⟩ = some (.int .i64 0) ∧ w'.cell? ⟨B1, 3, none⟩ = some (.int .i64 ((m : Int) - 1)) ∧ w'.cell? ⟨B1, 4, none⟩ = some (.int .i64 0) ∧ w'.cell? ⟨B3, 1, none⟩ = some (.int .i64 0) ∧ w'.cell? ⟨B3, 2, none⟩ = some (.int .i64 1) ∧ w'.cell? ⟨B3, 3, none⟩ = some (.int .i64 ((m : Int) - 1)) ∧ w'.cell? ⟨B3, 4, none⟩ = some (.int .i64 1)) (first | exact HS2.out _ (Below.refl _ _).drew | exact HS2.out _ hX.out.2.2.2 | exact S9.out | (simp only [hw9]; exact S9.out)) (first | (refine (HL.out _ (by first | exact (Below.refl _ _).drew | exact Below.refl _ _)).mono ?_; rintro e wx ⟨Bp, rfl, hX⟩; have BD := BY.out.keep hX.out.2.2.2; have z0 : wx.cell? ⟨w.heap.size + 1, 0, none⟩ = some (.slice none 0 0) := BD.at' 0; have z1 : wx.cell? ⟨w.heap.size + 1, 1, none⟩ = some (.nilFunc) := BD.at' 1; have z2 : wx.cell? ⟨w.heap.size + 1, 2, none⟩ = some (.nilFunc) := BD.at' 2; have z3 : wx.cell? ⟨w.heap.size + 1, 3, none⟩ = some (.nilFunc) := BD.at' 3; have z4 : wx.cell? ⟨w.heap.size + 1, 4, none⟩ = some (.nilFunc) := BD.at' 4; have z5 : wx.cell? ⟨w.heap.size + 1, 5, none⟩ = some (.nilFunc) := BD.at' 5; have zf := BD.fr; have h9 := ((((((BD.set 0 (.slice (some ⟨g, 0, none⟩) 1 cap)).set 1 (.nilFunc)).set 2 (.func (.func 136) #[] #[.pointer (some ⟨B2, 0, none⟩), .pointer (some ⟨w.heap.size, 0, none⟩), .pointer (some ⟨Bn + 1 + 1 + 1 + 1, 0, none⟩)])).set 3 (.func (.func 189) #[] #[.pointer (some ⟨Bp, 0, none⟩), .pointer (some ⟨Bp + 1, 0, none⟩)])).set 4 (.func (.func 188) #[] #[.pointer (some ⟨Bn + 3, 0, none⟩)])).set 5 (.func (.func 138) #[] #[.pointer (some ⟨Bn, 0, none⟩)])); have c9 := hide (((((((Chg.refl (· = w.heap.size + 1) wx).set (w.heap.size + 1) 0 (.slice (some ⟨g, 0, none⟩) 1 cap) rfl).set (w.heap.size + 1) 1 (.nilFunc) rfl).set (w.heap.size + 1) 2 (.func (.func 136) #[] #[.pointer (some ⟨B2, 0, none⟩), .pointer (some ⟨w.heap.size, 0, none⟩), .pointer (some ⟨Bn + 1 + 1 + 1 + 1, 0, none⟩)]) rfl).set (w.heap.size + 1) 3 (.func (.func 189) #[] #[.pointer (some ⟨Bp, 0, none⟩), .pointer (some ⟨Bp + 1, 0, none⟩)]) rfl).set (w.heap.size + 1) 4 (.func (.func 188) #[] #[.pointer (some ⟨Bn + 3, 0, none⟩)]) rfl).set (w.heap.size + 1) 5 (.func (.func 138) #[] #[.pointer (some ⟨Bn, 0, none⟩)]) rfl); obtain ⟨w9, hw9⟩ : ∃ w9, ((((((wx.setCell ⟨w.heap.size + 1, 0, none⟩ (.slice (some ⟨g, 0, none⟩) 1 cap)).setCell ⟨w.heap.size + 1, 1, none⟩ (.nilFunc)).setCell ⟨w.heap.size + 1, 2, none⟩ (.func (.func 136) #[] #[.pointer (some ⟨B2, 0, none⟩), .pointer (some ⟨w.heap.size, 0, none⟩), .pointer (some ⟨Bn + 1 + 1 + 1 + 1, 0, none⟩)])).setCell ⟨w.heap.size + 1, 3, none⟩ (.func (.func 189) #[] #[.pointer (some ⟨Bp, 0, none⟩), .pointer (some ⟨Bp + 1, 0, none⟩)])).setCell ⟨w.heap.size + 1, 4, none⟩ (.func (.func 188) #[] #[.pointer (some ⟨Bn + 3, 0, none⟩)])).setCell ⟨w.heap.size + 1, 5, none⟩ (.func (.func 138) #[] #[.pointer (some ⟨Bn, 0, none⟩)])) = w9 := ⟨_, rfl⟩; rw [hw9] at h9 c9; have y0 : w9.cell? ⟨w.heap.size + 1, 0, none⟩ = some (.slice (some ⟨g, 0, none⟩) 1 cap) := h9.at' 0; have y1 : w9.cell? ⟨w.heap.size + 1, 1, none⟩ = some (.nilFunc) := h9.at' 1; have y2 : w9.cell? ⟨w.heap.size + 1, 2, none⟩ = some (.func (.func 136) #[] #[.pointer (some ⟨B2, 0, none⟩), .pointer (some ⟨w.heap.size, 0, none⟩), .pointer (some ⟨Bn + 1 + 1 + 1 + 1, 0, none⟩)]) := h9.at' 2; have y3 : w9.cell? ⟨w.heap.size + 1, 3, none⟩ = some (.func (.func 189) #[] #[.pointer (some ⟨Bp, 0, none⟩), .pointer (some ⟨Bp + 1, 0, none⟩)]) := h9.at' 3; have y4 : w9.cell? ⟨w.heap.size + 1, 4, none⟩ = some (.func (.func 188) #[] #[.pointer (some ⟨Bn + 3, 0, none⟩)]) := h9.at' 4; have y5 : w9.cell? ⟨w.heap.size + 1, 5, none⟩ = some (.func (.func 138) #[] #[.pointer (some ⟨Bn, 0, none⟩)]) := h9.at' 5; have S9 := hide (show w9.cell? ⟨w.heap.size, 0, none⟩ = some (.slice (some ⟨g, 0, none⟩) 3 cap) ∧ w9.cell? ⟨Bn + 1 + 1 + 1 + 1, 0, none⟩ = some (.func (.func 188) #[] #[.pointer (some ⟨Bn + 3, 0, none⟩)]) ∧ w9.cell? ⟨B1, 1, none⟩ = some (.int .i64 0) ∧ w9.cell? ⟨B1, 2, none⟩ = some (.int .i64 0) ∧ w9.cell? ⟨B1, 3, none⟩ = some (.int .i64 ((m : Int) - 1)) ∧ w9.cell? ⟨B1, 4, none⟩ = some (.int .i64 0) ∧ w9.cell? ⟨B3, 1, none⟩ = some (.int .i64 0) ∧ w9.cell? ⟨B3, 2, none⟩ = some (.int .i64 1) ∧ w9.cell? ⟨B3, 3, none⟩ = some (.int .i64 ((m : Int) - 1)) ∧ w9.cell? ⟨B3, 4, none⟩ = some (.int .i64 1) from ⟨(c9.out.blk (GY.out.keep hX.out.2.2.2) (by omega)).at' 0, (c9.out.blk (F0.out.keep hX.out.2.2.2) (by have := ll.out; have := hlt.out; omega)).at' 0, (c9.out.blk (Y1.out.keep hX.out.2.2.2) (by have := ll.out; omega)).at' 1, (c9.out.blk (Y1.out.keep hX.out.2.2.2) (by have := ll.out; omega)).at' 2, (c9.out.blk (Y1.out.keep hX.out.2.2.2) (by have := ll.out; omega)).at' 3, (c9.out.blk (Y1.out.keep hX.out.2.2.2) (by have := ll.out; omega)).at' 4, (c9.out.blk (Y3.out.keep hX.out.2.2.2) (by have := ll.out; omega)).at' 1, (c9.out.blk (Y3.out.keep hX.out.2.2.2) (by have := ll.out; omega)).at' 2, (c9.out.blk (Y3.out.keep hX.out.2.2.2) (by have := ll.out; omega)).at' 3, (c9.out.blk (Y3.out.keep hX.out.2.2.2) (by have := ll.out; omega)).at' 4⟩); replace h9 := hide h9; clear BD))
    all_goals
      go_wp2_with fail
      refine bodyPost_ret (v := .agg #[.slice (some ⟨g, 0, none⟩) 1 cap, .nilFunc, .func (.func 136) #[] #[.pointer (some ⟨B2, 0, none⟩), .pointer (some ⟨w.heap.size, 0, none⟩), .pointer (some ⟨Bn + 1 + 1 + 1 + 1, 0, none⟩)], .func (.func 189) #[] #[.pointer (some ⟨Bp, 0, none⟩), .pointer (some ⟨Bp + 1, 0, none⟩)], .func (.func 188) #[] #[.pointer (some ⟨Bn + 3, 0, none⟩)], .func (.func 138) #[] #[.pointer (some ⟨Bn, 0, none⟩)]]) (by simp [results, Tryz.results59, go_sem, y0, y1, y2, y3, y4, y5]; try rfl) rfl ?_
      obtain ⟨x1, x2, x3, x4⟩ := hX.out
      have b1 := ll.out
      have b2 := nn.out
      have b3 := hlt.out
      have b4 := hzy.out
      have b5 := hgl.out
      have b6 := nB.out
      have hS := wth_stay (sum_stay Bn (Bn + 1) (Bn + 2) (Bn + 3) (Bn + 3)) (sifK_keep x m 3 1 (some ⟨g, 0, none⟩) cap B2 w.heap.size (Bn + 4) (Bn + 3) Bp)
      have hbt : ∀ s mm ww, Wth (SumS Bn (Bn + 1) (Bn + 2) (Bn + 3) (Bn + 3)) (sifM B2 w.heap.size (Bn + 4) Bp) (sifK x m 3 1 (some ⟨g, 0, none⟩) cap B2 w.heap.size (Bn + 4) (Bn + 3) Bp) s mm ww → Blk ww Bn #[.int .i64 s] 2 := fun s mm ww ⟨_, h, _⟩ => h.1
      have hbk : ∀ s mm ww, Wth (SumS Bn (Bn + 1) (Bn + 2) (Bn + 3) (Bn + 3)) (sifM B2 w.heap.size (Bn + 4) Bp) (sifK x m 3 1 (some ⟨g, 0, none⟩) cap B2 w.heap.size (Bn + 4) (Bn + 3) Bp) s mm ww → Blk ww (Bn + 3) #[tkV (Bn + 2) (Bn + 1)] 114 := fun s mm ww ⟨_, h, _⟩ => h.2.2.2.1
      have hca := ofn_does hS sumT _ _ (wth_tak (sifK_keep x m 3 1 (some ⟨g, 0, none⟩) cap B2 w.heap.size (Bn + 4) (Bn + 3) Bp) (into_tak Bn (Bn + 1) (Bn + 2) (Bn + 3) (Bn + 3))) (Bn + 3) hbk sumT_nb
      have hen := sif2_ends (fun n : Int => n) Bn hbt
      have hsum : SumS Bn (Bn + 1) (Bn + 2) (Bn + 3) (Bn + 3) 0 (fun k => k = Bn ∨ k = Bn + 1 ∨ k = Bn + 2 ∨ k = Bn + 3 ∨ k = Bn + 3) w9 := by
        have hss := sum_stay Bn (Bn + 1) (Bn + 2) (Bn + 3) (Bn + 3)
        exact hss.same (sm_of hss S0.out x4) (fun k hk => c9.out.block k (Nat.lt_of_lt_of_le (hss.lt S0.out k hk) x4.size) (by omega))
      have hkk : sifK x m 3 1 (some ⟨g, 0, none⟩) cap B2 w.heap.size (Bn + 4) (Bn + 3) Bp w9 := ⟨c9.out.blk (Y2.out.keep x4) (by omega), c9.out.blk (GY.out.keep x4) (by omega), c9.out.blk (F0.out.keep x4) (by omega), c9.out.blk x1 (by omega), c9.out.blk x2 (by omega)⟩
      have hgb : w9.heap[g]? = w.heap[g]? := (c9.out.block g (Nat.lt_of_lt_of_le hgl.out (next KK.out x4).size) (by omega)).trans ((next KK.out x4).block g hgl.out)
      refine ⟨⟨.nilFunc, _, _, _, _⟩, Wth (SumS Bn (Bn + 1) (Bn + 2) (Bn + 3) (Bn + 3)) (sifM B2 w.heap.size (Bn + 4) Bp) (sifK x m 3 1 (some ⟨g, 0, none⟩) cap B2 w.heap.size (Bn + 4) (Bn + 3) Bp), _, some ⟨g, 0, none⟩, cap, rfl, ⟨hS, ⟨_, _, rfl, hen⟩, .inl (agC_isC m), ⟨rfl, rfl, rfl, rfl, rfl⟩⟩, ⟨hS, ⟨_, _, rfl, hen⟩, ⟨_, _, rfl, sif1_three hS x B2 w.heap.size (Bn + 4) _ _ (fun s mm ww ⟨_, _, h, _⟩ => h.1) (fun s mm ww ⟨_, _, h, _⟩ => h.2.1)⟩, ⟨_, _, rfl, lik1_bes 0 0 ((m : Int) - 1) 0 0 1 ((m : Int) - 1) 1 Bp (Bp + 1) (fun s mm ww ⟨_, _, h, _⟩ => h.2.2.2)⟩, ⟨_, _, rfl, hca.q _⟩⟩, ⟨_, hsum, hkk, (fun k hk e => by unfold sifM at hk; omega), rfl⟩, (fun k hk => by unfold sifM at hk; omega), .inr ⟨g, 0, rfl, ⟨.inl rfl, fun e => by unfold sifM at e; omega, Nat.lt_of_lt_of_le hgl.out (Nat.le_trans (next KK.out x4).size c9.out.size)⟩, fun j y hy => ?_⟩, by simp only [List.length_cons, List.length_nil] at hcap ⊢; omega, bel_chg (next KK.out x4) (by omega) c9.out⟩
      have hj : j = 0 := by have := (List.getElem?_eq_some_iff.1 hy).1; simp at this; omega
      subst hj
      obtain rfl : agC (m : Nat) = y := by simpa using hy
      exact T9.range_of_block hrw.out hgb
set_option maxHeartbeats 8000000 in
set_option maxRecDepth 100000 in
theorem sumIf_mk2 (x : Int) (m : Nat) (h1 : 1 ≤ m) (h3 : m ≤ 300) : MkX 59 [agC (m : Nat), agN x] [agC (m : Nat)] (0 : Int) dG (fun n => ⟨1, n, no⟩) (PlainX isI (fun _ => True) (sif2 x (celN sumT)) (fun n => ⟨1, n, no⟩)) := by
  refine ⟨?_, ent_of Tryz.func59 (by kernel_rfl) (by kernel_rfl), (fun s v e => by cases e), (fun a ha => by rcases List.mem_cons.1 ha with rfl | ha; exact agC_ok _ (by omega) (by omega); cases ha), by simp⟩
  intro w g cap hg hcap hrow
  have R0 := hrow 0 _ rfl
  have R1 := hrow 1 _ rfl
  have hsl := fun w => slice01 g 0 2 cap (by decide) (by simpa using hcap) w
  have hc1 : (1 : Int) ≤ (cap : Int) := by simp only [List.length_cons, List.length_nil] at hcap; omega
  have hgl : Hid (g < w.heap.size) := hide hg
  have hrw : Hid (w.rangeAt g (0 + 0 * 8) (agL (agC (m : Nat)))) := hide R0
  simp only [List.length_cons, List.length_nil]
  obtain ⟨w0, hw0⟩ : ∃ w0, (w.alloc (.cells #[.slice (some ⟨g, 0, none⟩) 2 cap] 29)).alloc (.cells #[.slice none 0 0, .nilFunc, .nilFunc, .nilFunc, .nilFunc, .nilFunc] 74) = w0 := ⟨_, rfl⟩
  have K0 : Below w.heap.size w w0 := by rw [← hw0]; exact step (step (Below.refl _ _) _) _
  have G0 : Blk w0 w.heap.size #[.slice (some ⟨g, 0, none⟩) 2 cap] 29 := by rw [← hw0]; exact (Blk.new w _ _).alloc _
  have B0 : Hid (Blk w0 (w.heap.size + 1) #[.slice none 0 0, .nilFunc, .nilFunc, .nilFunc, .nilFunc, .nilFunc] 74) := hide (by rw [← hw0]; exact T9.Blk.new1 w _ _ _)
  have hz0 : Hid (w0.heap.size = w.heap.size + 2) := hide (by rw [← hw0]; simp)
  have gh : w0.cell? ⟨w.heap.size, 0, none⟩ = some (.slice (some ⟨g, 0, none⟩) 2 cap) := G0.at' 0
  have d0 : w0.cell? ⟨g, 0, none⟩ = some (.bool true) := keep1 K0 (by have := R0 0 _ rfl; simpa using this)
  have d1 : w0.cell? ⟨g, 1, none⟩ = some (.int .i64 0) := keep1 K0 (by have := R0 1 _ rfl; simpa using this)
  have d2 : w0.cell? ⟨g, 2, none⟩ = some (.int .i64 0) := keep1 K0 (by have := R0 2 _ rfl; simpa using this)
  have d3 : w0.cell? ⟨g, 3, none⟩ = some (.int .i64 ((m : Int) - 1)) := keep1 K0 (by have := R0 3 _ rfl; simpa using this)
  have d4 : w0.cell? ⟨g, 4, none⟩ = some (.int .i64 0) := keep1 K0 (by have := R0 4 _ rfl; simpa using this)
  have d5 : w0.cell? ⟨g, 5, none⟩ = some (.int .i64 0) := keep1 K0 (by have := R0 5 _ rfl; simpa using this)
  have d6 : w0.cell? ⟨g, 6, none⟩ = some (.int .i64 0) := keep1 K0 (by have := R0 6 _ rfl; simpa using this)
  have d7 : w0.cell? ⟨g, 7, none⟩ = some (.string no) := keep1 K0 (by have := R0 7 _ rfl; simpa using this)
  have t0 : w0.cell? ⟨g, 8, none⟩ = some (.bool false) := keep1 K0 (by have := R1 0 _ rfl; simpa using this)
  have t1 : w0.cell? ⟨g, 9, none⟩ = some (.int .i64 0) := keep1 K0 (by have := R1 1 _ rfl; simpa using this)
  have t2 : w0.cell? ⟨g, 10, none⟩ = some (.int .i64 0) := keep1 K0 (by have := R1 2 _ rfl; simpa using this)
  have t3 : w0.cell? ⟨g, 11, none⟩ = some (.int .i64 0) := keep1 K0 (by have := R1 3 _ rfl; simpa using this)
  have t4 : w0.cell? ⟨g, 12, none⟩ = some (.int .i64 0) := keep1 K0 (by have := R1 4 _ rfl; simpa using this)
  have t5 : w0.cell? ⟨g, 13, none⟩ = some (.int .i64 1) := keep1 K0 (by have := R1 5 _ rfl; simpa using this)
  have t6 : w0.cell? ⟨g, 14, none⟩ = some (.int .i64 x) := keep1 K0 (by have := R1 6 _ rfl; simpa using this)
  have t7 : w0.cell? ⟨g, 15, none⟩ = some (.string no) := keep1 K0 (by have := R1 7 _ rfl; simpa using this)
  have HSall := hide (fun w' (hb : Below w0.heap.size w0 w') => (show w'.cell? ⟨w.heap.size, 0, none⟩ = some (.slice (some ⟨g, 0, none⟩) 2 cap) ∧ w'.cell? ⟨g, 0, none⟩ = some (.bool true) ∧ w'.cell? ⟨g, 1, none⟩ = some (.int .i64 0) ∧ w'.cell? ⟨g, 2, none⟩ = some (.int .i64 0) ∧ w'.cell? ⟨g, 3, none⟩ = some (.int .i64 ((m : Int) - 1)) ∧ w'.cell? ⟨g, 4, none⟩ = some (.int .i64 0) ∧ w'.cell? ⟨g, 5, none⟩ = some (.int .i64 0) ∧ w'.cell? ⟨g, 6, none⟩ = some (.int .i64 0) ∧ w'.cell? ⟨g, 7, none⟩ = some (.string no) ∧ w'.cell? ⟨g, 8, none⟩ = some (.bool false) ∧ w'.cell? ⟨g, 9, none⟩ = some (.int .i64 0) ∧ w'.cell? ⟨g, 10, none⟩ = some (.int .i64 0) ∧ w'.cell? ⟨g, 11, none⟩ = some (.int .i64 0) ∧ w'.cell? ⟨g, 12, none⟩ = some (.int .i64 0) ∧ w'.cell? ⟨g, 13, none⟩ = some (.int .i64 1) ∧ w'.cell? ⟨g, 14, none⟩ = some (.int .i64 x) ∧ w'.cell? ⟨g, 15, none⟩ = some (.string no) from ⟨keep1 hb gh, keep1 hb d0, keep1 hb d1, keep1 hb d2, keep1 hb d3, keep1 hb d4, keep1 hb d5, keep1 hb d6, keep1 hb d7, keep1 hb t0, keep1 hb t1, keep1 hb t2, keep1 hb t3, keep1 hb t4, keep1 hb t5, keep1 hb t6, keep1 hb t7⟩))
  replace K0 := hide K0
  replace G0 := hide G0
  replace hw0 := hide hw0
  replace hrow := hide hrow
  replace hg := hide hg
  clear R0 R1
  go_enter Tryz.func59, Tryz.ntmps59
  go_upto_region 1 with fail
  rw [hw0.out]
  clear hw0
  go_cut [3, 4, 5] from 10 to 18 (fun c3 c4 c5 wx => ∃ B1 B2 B3, c3 = .pointer (some ⟨B1, 0, none⟩) ∧ c4 = .pointer (some ⟨B2, 0, none⟩) ∧ c5 = .pointer (some ⟨B3, 0, none⟩) ∧ Hid (ThrV x m w0 wx B1 B2 B3))
  case first =>
    go_region_held (fun w' => w'.cell? ⟨w.heap.size, 0, none⟩ = some (.slice (some ⟨g, 0, none⟩) 2 cap) ∧ w'.cell? ⟨g, 0, none⟩ = some (.bool true) ∧ w'.cell? ⟨g, 1, none⟩ = some (.int .i64 0) ∧ w'.cell? ⟨g, 2, none⟩ = some (.int .i64 0) ∧ w'.cell? ⟨g, 3, none⟩ = some (.int .i64 ((m : Int) - 1)) ∧ w'.cell? ⟨g, 4, none⟩ = some (.int .i64 0) ∧ w'.cell? ⟨g, 5, none⟩ = some (.int .i64 0) ∧ w'.cell? ⟨g, 6, none⟩ = some (.int .i64 0) ∧ w'.cell? ⟨g, 7, none⟩ = some (.string no) ∧ w'.cell? ⟨g, 8, none⟩ = some (.bool false) ∧ w'.cell? ⟨g, 9, none⟩ = some (.int .i64 0) ∧ w'.cell? ⟨g, 10, none⟩ = some (.int .i64 0) ∧ w'.cell? ⟨g, 11, none⟩ = some (.int .i64 0) ∧ w'.cell? ⟨g, 12, none⟩ = some (.int .i64 0) ∧ w'.cell? ⟨g, 13, none⟩ = some (.int .i64 1) ∧ w'.cell? ⟨g, 14, none⟩ = some (.int .i64 x) ∧ w'.cell? ⟨g, 15, none⟩ = some (.string no)) (exact HSall.out _ (by go_grown)) (fail)
    all_goals (go_wp2_with fail)
    all_goals go_meet
    all_goals (first
      | exact ⟨_, _, _, rfl, rfl, rfl, hide (thr_123 x m w0)⟩
      | exact ⟨_, _, _, rfl, rfl, rfl, hide (thr_132 x m w0)⟩
      | exact ⟨_, _, _, rfl, rfl, rfl, hide (thr_213 x m w0)⟩
      | exact ⟨_, _, _, rfl, rfl, rfl, hide (thr_231 x m w0)⟩
      | exact ⟨_, _, _, rfl, rfl, rfl, hide (thr_312 x m w0)⟩
      | exact ⟨_, _, _, rfl, rfl, rfl, hide (thr_321 x m w0)⟩)
  case rest =>
    obtain ⟨B1, B2, B3, rfl, rfl, rfl, hT⟩ := hcut
    obtain ⟨A1, A2, A3, ⟨l1, l2, l3⟩, ⟨n1, n2, n3⟩, KT⟩ := hT.out
    have KC := hide (next K0.out KT)
    have GC := hide (G0.out.keep KT)
    have BC := hide (B0.out.keep KT)
    have gc : wc.cell? ⟨w.heap.size, 0, none⟩ = some (.slice (some ⟨g, 0, none⟩) 2 cap) := GC.out.at' 0
    have hz := hz0.out
    have ll : Hid (w.heap.size + 2 ≤ B1 ∧ w.heap.size + 2 ≤ B2 ∧ w.heap.size + 2 ≤ B3) := hide ⟨by omega, by omega, by omega⟩
    have nn : Hid (B1 ≠ B2 ∧ B1 ≠ B3 ∧ B2 ≠ B3) := hide ⟨n1, n2, n3⟩
    clear hT HSall gh d0 d1 d2 d3 d4 d5 d6 d7 t0 t1 t2 t3 t4 t5 t6 t7 l1 l2 l3 n1 n2 n3 hz hz0 KT G0 B0 K0
    replace A1 := hide A1
    replace A2 := hide A2
    have A1b := A1
    have A2b := A2
    have A3b := hide A3
    have GB := GC
    have BB := BC
    have KB := KC
    obtain ⟨wb, hwb⟩ : ∃ wb, wc = wb := ⟨_, rfl⟩
    subst hwb
    clear A3
    go_upto_region 4 with fail
    clear gc
    have e0 := cell_regrown (show wc.cell? ⟨B1, 0, none⟩ = some (.bool true) from A1b.out.at' 0)
    have e1 := cell_regrown (show wc.cell? ⟨B1, 1, none⟩ = some (.int .i64 0) from A1b.out.at' 1)
    have e2 := cell_regrown (show wc.cell? ⟨B1, 2, none⟩ = some (.int .i64 0) from A1b.out.at' 2)
    have e3 := cell_regrown (show wc.cell? ⟨B1, 3, none⟩ = some (.int .i64 ((m : Int) - 1)) from A1b.out.at' 3)
    have e4 := cell_regrown (show wc.cell? ⟨B1, 4, none⟩ = some (.int .i64 0) from A1b.out.at' 4)
    have e5 := cell_regrown (show wc.cell? ⟨B1, 5, none⟩ = some (.int .i64 0) from A1b.out.at' 5)
    have e6 := cell_regrown (show wc.cell? ⟨B1, 6, none⟩ = some (.int .i64 0) from A1b.out.at' 6)
    have e7 := cell_regrown (show wc.cell? ⟨B1, 7, none⟩ = some (.string no) from A1b.out.at' 7)
    have f0 := cell_regrown (show wc.cell? ⟨B2, 0, none⟩ = some (.bool false) from A2b.out.at' 0)
    have f1 := cell_regrown (show wc.cell? ⟨B2, 1, none⟩ = some (.int .i64 0) from A2b.out.at' 1)
    have f2 := cell_regrown (show wc.cell? ⟨B2, 2, none⟩ = some (.int .i64 0) from A2b.out.at' 2)
    have f3 := cell_regrown (show wc.cell? ⟨B2, 3, none⟩ = some (.int .i64 0) from A2b.out.at' 3)
    have f4 := cell_regrown (show wc.cell? ⟨B2, 4, none⟩ = some (.int .i64 0) from A2b.out.at' 4)
    have f5 := cell_regrown (show wc.cell? ⟨B2, 5, none⟩ = some (.int .i64 1) from A2b.out.at' 5)
    have f6 := cell_regrown (show wc.cell? ⟨B2, 6, none⟩ = some (.int .i64 x) from A2b.out.at' 6)
    have f7 := cell_regrown (show wc.cell? ⟨B2, 7, none⟩ = some (.string no) from A2b.out.at' 7)
    have q0 := cell_regrown (show wc.cell? ⟨B3, 0, none⟩ = some (.bool true) from A3b.out.at' 0)
    have q1 := cell_regrown (show wc.cell? ⟨B3, 1, none⟩ = some (.int .i64 0) from A3b.out.at' 1)
    have q2 := cell_regrown (show wc.cell? ⟨B3, 2, none⟩ = some (.int .i64 0) from A3b.out.at' 2)
    have q3 := cell_regrown (show wc.cell? ⟨B3, 3, none⟩ = some (.int .i64 ((m : Int) - 1)) from A3b.out.at' 3)
    have q4 := cell_regrown (show wc.cell? ⟨B3, 4, none⟩ = some (.int .i64 0) from A3b.out.at' 4)
    have q5 := cell_regrown (show wc.cell? ⟨B3, 5, none⟩ = some (.int .i64 0) from A3b.out.at' 5)
    have q6 := cell_regrown (show wc.cell? ⟨B3, 6, none⟩ = some (.int .i64 0) from A3b.out.at' 6)
    have q7 := cell_regrown (show wc.cell? ⟨B3, 7, none⟩ = some (.string no) from A3b.out.at' 7)
    have kq0 := fun d' os => Calls.regrown_of ((amiss_sought x).out (grow (redrawn wc d') os))
    have kq1 := fun d' os => Calls.regrown_of ((amiss_area 0 0 ((m : Int) - 1) 0 ⟨0, 0, no⟩).out (grow (redrawn wc d') os))
    have kq2 := fun d' os => Calls.regrown_of ((amiss_pair ((m : Int) - 1) 0 (by omega) (by omega) (by decide) (by decide)).out (grow (redrawn wc d') os))
    refine quiet_tail 7 (by kernel_rfl) (by kernel_rfl) ?_
    simp only [List.take_succ_cons, List.take_zero, List.drop_succ_cons, List.drop_zero]
    repeat (go_big_quiet_step (first | (with_reducible exact kq0 _ _) | (with_reducible exact kq1 _ _) | (with_reducible exact kq2 _ _)))
    refine wpQuiet_nil ?_
    intro wq hwq
    have hbq : Hid (Below wc.heap.size wc wq) := hide (by obtain ⟨⟨dq, osq⟩, hq⟩ := hwq; rw [hq]; exact below_regrown _ dq osq)
    clear hwq e0 e1 e2 e3 e4 e5 e6 e7 f0 f1 f2 f3 f4 f5 f6 f7 q0 q1 q2 q3 q4 q5 q6 q7 kq0 kq1 kq2
    go_wp2_with fail
    refine (or_zero 3 (by decide) _ _ _ (fun j hj => ?_)).mono ?_
    · have hb := Blk.new wq #[.int .i64 0, .int .i64 0, .int .i64 0] 3
      rw [hb.at']
      match j, hj with
      | 0, _ => rfl
      | 1, _ => rfl
      | 2, _ => rfl
    rintro e w3 ⟨rfl, rfl⟩
    have KZ := hide (step hbq.out (.cells #[.int .i64 0, .int .i64 0, .int .i64 0] 3))
    obtain ⟨wz, hwz⟩ : ∃ wz, wq.alloc (.cells #[.int .i64 0, .int .i64 0, .int .i64 0] 3) = wz := ⟨_, rfl⟩
    rw [hwz] at KZ
    go_upto_region 7 with fail
    try rw [hwz]
    clear hwz hbq
    go_wp2_with fail
    refine (into_is _ _ _).mono ?_
    rintro e w3 ⟨rfl, rfl⟩
    go_wp2_with fail
    refine (ofn_is _ _ _).mono ?_
    rintro e w3 ⟨rfl, rfl⟩
    go_upto_region 10 with fail
    obtain ⟨Bn, hBn⟩ : ∃ Bn, wz.heap.size = Bn := ⟨_, rfl⟩
    have nB : Hid (wc.heap.size ≤ Bn) := hide (by rw [← hBn]; exact KZ.out.size)
    obtain ⟨wy, hwy⟩ : ∃ wy, ((((wz.alloc (.cells #[.int .i64 0] 2)).alloc (.cells #[.pointer (some ⟨wz.heap.size, 0, none⟩)] 116)).alloc (.cells #[.func (.func 89) #[] #[]] 117)).alloc (.cells #[tkV (wz.heap.size + 1 + 1) (wz.heap.size + 1)] 114)).alloc (.cells #[.func (.func 188) #[] #[.pointer (some ⟨wz.heap.size + 1 + 1 + 1, 0, none⟩)]] 70) = wy := ⟨_, rfl⟩
    have S0 : Hid (SumS Bn (Bn + 1) (Bn + 2) (Bn + 3) (Bn + 3) 0 (fun k => k = Bn ∨ k = Bn + 1 ∨ k = Bn + 2 ∨ k = Bn + 3 ∨ k = Bn + 3) wy) := hide (by
      rw [← hBn, ← hwy]
      exact ⟨((((blk_at _ _ (by simp) _ _).alloc _).alloc _).alloc _).alloc _, (((blk_at _ _ (by simp) _ _).alloc _).alloc _).alloc _, ((blk_at _ _ (by simp) _ _).alloc _).alloc _, (blk_at _ _ (by simp) _ _).alloc _, (blk_at _ _ (by simp) _ _).alloc _, rfl, by omega, by decide, by decide⟩)
    have F0 : Hid (Blk wy (Bn + 4) #[.func (.func 188) #[] #[.pointer (some ⟨Bn + 3, 0, none⟩)]] 70) := hide (by rw [← hBn, ← hwy]; exact blk_at _ _ (by simp) _ _)
    have KY : Hid (Below wz.heap.size wz wy) := hide (by rw [← hwy]; exact step (step (step (step (step (Below.refl _ _) _) _) _) _) _)
    have hzy : Hid (wy.heap.size = Bn + 5) := hide (by rw [← hwy, ← hBn]; simp)
    unfold tkV at hwy
    rw [hwy]
    try rw [hBn]
    clear hwy
    have GY := hide (GB.out.keep (next KZ.out KY.out))
    have BY := hide (BB.out.keep (next KZ.out KY.out))
    have Y1 := hide (A1b.out.keep (next KZ.out KY.out))
    have Y2 := hide (A2b.out.keep (next KZ.out KY.out))
    have Y3 := hide (A3b.out.keep (next KZ.out KY.out))
    have KK := hide (next KB.out (next KZ.out KY.out))
    have hlt : Hid (B2 < Bn) := hide (Nat.lt_of_lt_of_le (A2b.out.lt) nB.out)
    clear KZ KY GB BB A1b A2b A3b hBn
    have g0 : wy.cell? ⟨w.heap.size, 0, none⟩ = some (.slice (some ⟨g, 0, none⟩) 2 cap) := GY.out.at' 0
    have k0 : wy.cell? ⟨Bn + 1 + 1 + 1 + 1, 0, none⟩ = some (.func (.func 188) #[] #[.pointer (some ⟨Bn + 3, 0, none⟩)]) := F0.out.at' 0
    have p1 : wy.cell? ⟨B1, 1, none⟩ = some (.int .i64 0) := Y1.out.at' 1
    have u1 : wy.cell? ⟨B3, 1, none⟩ = some (.int .i64 0) := Y3.out.at' 1
    have p2 : wy.cell? ⟨B1, 2, none⟩ = some (.int .i64 0) := Y1.out.at' 2
    have u2 : wy.cell? ⟨B3, 2, none⟩ = some (.int .i64 0) := Y3.out.at' 2
    have p3 : wy.cell? ⟨B1, 3, none⟩ = some (.int .i64 ((m : Int) - 1)) := Y1.out.at' 3
    have u3 : wy.cell? ⟨B3, 3, none⟩ = some (.int .i64 ((m : Int) - 1)) := Y3.out.at' 3
    have p4 : wy.cell? ⟨B1, 4, none⟩ = some (.int .i64 0) := Y1.out.at' 4
    have u4 : wy.cell? ⟨B3, 4, none⟩ = some (.int .i64 0) := Y3.out.at' 4
    have HL := hide (fun w' (hw' : Below wy.heap.size wy w') => lik_c m 0 wy w' hw')
    have HS2 := hide (fun w' (hb : Below wy.heap.size wy w') => (show w'.cell? ⟨w.heap.size, 0, none⟩ = some (.slice (some ⟨g, 0, none⟩) 2 cap) ∧ w'.cell? ⟨Bn + 1 + 1 + 1 + 1, 0, none⟩ = some (.func (.func 188) #[] #[.pointer (some ⟨Bn + 3, 0, none⟩)]) ∧ w'.cell? ⟨B1, 1, none⟩ = some (.int .i64 0) ∧ w'.cell? ⟨B1, 2, none⟩ = some (.int .i64 0) ∧ w'.cell? ⟨B1, 3, none⟩ = some (.int .i64 ((m : Int) - 1)) ∧ w'.cell? ⟨B1, 4, none⟩ = some (.int .i64 0) ∧ w'.cell? ⟨B3, 1, none⟩ = some (.int .i64 0) ∧ w'.cell? ⟨B3, 2, none⟩ = some (.int .i64 0) ∧ w'.cell? ⟨B3, 3, none⟩ = some (.int .i64 ((m : Int) - 1)) ∧ w'.cell? ⟨B3, 4, none⟩ = some (.int .i64 0) from ⟨keep1 hb g0, keep1 hb k0, keep1 hb p1, keep1 hb p2, keep1 hb p3, keep1 hb p4, keep1 hb u1, keep1 hb u2, keep1 hb u3, keep1 hb u4⟩))
    go_region_held (fun w' => w'.cell? ⟨w.heap.size, 0, none⟩ = some (.slice (some ⟨g, 0, none⟩) 2 cap) ∧ w'.cell? ⟨Bn + 1 + 1 + 1 + 1, 0, none⟩ = some (.func (.func 188) #[] #[.pointer (some ⟨Bn + 3, 0, none⟩)]) ∧ w'.cell? ⟨B1, 1, none⟩ = some (.int .i64 0) ∧ w'.cell? ⟨B1, 2, none⟩ = some (.int .i64 0) ∧ w'.cell? ⟨B1, 3, none⟩ = some (.int .i64 ((m : Int) - 1)) ∧ w'.cell? ⟨B1, 4, none⟩ = some (.int .i64 0) ∧ w'.cell? ⟨B3, 1, none⟩ = some (.int .i64 0) ∧ w'.cell? ⟨B3, 2, none⟩ = some (.int .i64 0) ∧ w'.cell? ⟨B3, 3, none⟩ = some (.int .i64 ((m : Int) - 1)) ∧ w'.cell? ⟨B3, 4, none⟩ = some (.int .i64 0)) (first | exact HS2.out _ (Below.refl _ _).drew | exact HS2.out _ hX.out.2.2.2 | exact S9.out | (simp only [hw9]; exact S9.out)) (first | (refine (HL.out _ (by first | exact (Below.refl _ _).drew | exact Below.refl _ _)).mono ?_; rintro e wx ⟨Bp, rfl, hX⟩; have BD := BY.out.keep hX.out.2.2.2; have z0 : wx.cell? ⟨w.heap.size + 1, 0, none⟩ = some (.slice none 0 0) := BD.at' 0; have z1 : wx.cell? ⟨w.heap.size + 1, 1, none⟩ = some (.nilFunc) := BD.at' 1; have z2 : wx.cell? ⟨w.heap.size + 1, 2, none⟩ = some (.nilFunc) := BD.at' 2; have z3 : wx.cell? ⟨w.heap.size + 1, 3, none⟩ = some (.nilFunc) := BD.at' 3; have z4 : wx.cell? ⟨w.heap.size + 1, 4, none⟩ = some (.nilFunc) := BD.at' 4; have z5 : wx.cell? ⟨w.heap.size + 1, 5, none⟩ = some (.nilFunc) := BD.at' 5; have zf := BD.fr; have h9 := ((((((BD.set 0 (.slice (some ⟨g, 0, none⟩) 1 cap)).set 1 (.nilFunc)).set 2 (.func (.func 136) #[] #[.pointer (some ⟨B2, 0, none⟩), .pointer (some ⟨w.heap.size, 0, none⟩), .pointer (some ⟨Bn + 1 + 1 + 1 + 1, 0, none⟩)])).set 3 (.func (.func 189) #[] #[.pointer (some ⟨Bp, 0, none⟩), .pointer (some ⟨Bp + 1, 0, none⟩)])).set 4 (.func (.func 188) #[] #[.pointer (some ⟨Bn + 3, 0, none⟩)])).set 5 (.func (.func 138) #[] #[.pointer (some ⟨Bn, 0, none⟩)])); have c9 := hide (((((((Chg.refl (· = w.heap.size + 1) wx).set (w.heap.size + 1) 0 (.slice (some ⟨g, 0, none⟩) 1 cap) rfl).set (w.heap.size + 1) 1 (.nilFunc) rfl).set (w.heap.size + 1) 2 (.func (.func 136) #[] #[.pointer (some ⟨B2, 0, none⟩), .pointer (some ⟨w.heap.size, 0, none⟩), .pointer (some ⟨Bn + 1 + 1 + 1 + 1, 0, none⟩)]) rfl).set (w.heap.size + 1) 3 (.func (.func 189) #[] #[.pointer (some ⟨Bp, 0, none⟩), .pointer (some ⟨Bp + 1, 0, none⟩)]) rfl).set (w.heap.size + 1) 4 (.func (.func 188) #[] #[.pointer (some ⟨Bn + 3, 0, none⟩)]) rfl).set (w.heap.size + 1) 5 (.func (.func 138) #[] #[.pointer (some ⟨Bn, 0, none⟩)]) rfl); obtain ⟨w9, hw9⟩ : ∃ w9, ((((((wx.setCell ⟨w.heap.size + 1, 0, none⟩ (.slice (some ⟨g, 0, none⟩) 1 cap)).setCell ⟨w.heap.size + 1, 1, none⟩ (.nilFunc)).setCell ⟨w.heap.size + 1, 2, none⟩ (.func (.func 136) #[] #[.pointer (some ⟨B2, 0, none⟩), .pointer (some ⟨w.heap.size, 0, none⟩), .pointer (some ⟨Bn + 1 + 1 + 1 + 1, 0, none⟩)])).setCell ⟨w.heap.size + 1, 3, none⟩ (.func (.func 189) #[] #[.pointer (some ⟨Bp, 0, none⟩), .pointer (some ⟨Bp + 1, 0, none⟩)])).setCell ⟨w.heap.size + 1, 4, none⟩ (.func (.func 188) #[] #[.pointer (some ⟨Bn + 3, 0, none⟩)])).setCell ⟨w.heap.size + 1, 5, none⟩ (.func (.func 138) #[] #[.pointer (some ⟨Bn, 0, none⟩)])) = w9 := ⟨_, rfl⟩; rw [hw9] at h9 c9; have y0 : w9.cell? ⟨w.heap.size + 1, 0, none⟩ = some (.slice (some ⟨g, 0, none⟩) 1 cap) := h9.at' 0; have y1 : w9.cell? ⟨w.heap.size + 1, 1, none⟩ = some (.nilFunc) := h9.at' 1; have y2 : w9.cell? ⟨w.heap.size + 1, 2, none⟩ = some (.func (.func 136) #[] #[.pointer (some ⟨B2, 0, none⟩), .pointer (some ⟨w.heap.size, 0, none⟩), .pointer (some ⟨Bn + 1 + 1 + 1 + 1, 0, none⟩)]) := h9.at' 2; have y3 : w9.cell? ⟨w.heap.size + 1, 3, none⟩ = some (.func (.func 189) #[] #[.pointer (some ⟨Bp, 0, none⟩), .pointer (some ⟨Bp + 1, 0, none⟩)]) := h9.at' 3; have y4 : w9.cell? ⟨w.heap.size + 1, 4, none⟩ = some (.func (.func 188) #[] #[.pointer (some ⟨Bn + 3, 0, none⟩)]) := h9.at' 4; have y5 : w9.cell? ⟨w.heap.size + 1, 5, none⟩ = some (.func (.func 138) #[] #[.pointer (some ⟨Bn, 0, none⟩)]) := h9.at' 5; have S9 := hide (show w9.cell? ⟨w.heap.size, 0, none⟩ = some (.slice (some ⟨g, 0, none⟩) 2 cap) ∧ w9.cell? ⟨Bn + 1 + 1 + 1 + 1, 0, none⟩ = some (.func (.func 188) #[] #[.pointer (some ⟨Bn + 3, 0, none⟩)]) ∧ w9.cell? ⟨B1, 1, none⟩ = some (.int .i64 0) ∧ w9.cell? ⟨B1, 2, none⟩ = some (.int .i64 0) ∧ w9.cell? ⟨B1, 3, none⟩ = some (.int .i64 ((m : Int) - 1)) ∧ w9.cell? ⟨B1, 4, none⟩ = some (.int .i64 0) ∧ w9.cell? ⟨B3, 1, none⟩ = some (.int .i64 0) ∧ w9.cell? ⟨B3, 2, none⟩ = some (.int .i64 0) ∧ w9.cell? ⟨B3, 3, none⟩ = some (.int .i64 ((m : Int) - 1)) ∧ w9.cell? ⟨B3, 4, none⟩ = some (.int .i64 0) from ⟨(c9.out.blk (GY.out.keep hX.out.2.2.2) (by omega)).at' 0, (c9.out.blk (F0.out.keep hX.out.2.2.2) (by have := ll.out; have := hlt.out; omega)).at' 0, (c9.out.blk (Y1.out.keep hX.out.2.2.2) (by have := ll.out; omega)).at' 1, (c9.out.blk (Y1.out.keep hX.out.2.2.2) (by have := ll.out; omega)).at' 2, (c9.out.blk (Y1.out.keep hX.out.2.2.2) (by have := ll.out; omega)).at' 3, (c9.out.blk (Y1.out.keep hX.out.2.2.2) (by have := ll.out; omega)).at' 4, (c9.out.blk (Y3.out.keep hX.out.2.2.2) (by have := ll.out; omega)).at' 1, (c9.out.blk (Y3.out.keep hX.out.2.2.2) (by have := ll.out; omega)).at' 2, (c9.out.blk (Y3.out.keep hX.out.2.2.2) (by have := ll.out; omega)).at' 3, (c9.out.blk (Y3.out.keep hX.out.2.2.2) (by have := ll.out; omega)).at' 4⟩); replace h9 := hide h9; clear BD))
    all_goals
      go_wp2_with fail
      refine bodyPost_ret (v := .agg #[.slice (some ⟨g, 0, none⟩) 1 cap, .nilFunc, .func (.func 136) #[] #[.pointer (some ⟨B2, 0, none⟩), .pointer (some ⟨w.heap.size, 0, none⟩), .pointer (some ⟨Bn + 1 + 1 + 1 + 1, 0, none⟩)], .func (.func 189) #[] #[.pointer (some ⟨Bp, 0, none⟩), .pointer (some ⟨Bp + 1, 0, none⟩)], .func (.func 188) #[] #[.pointer (some ⟨Bn + 3, 0, none⟩)], .func (.func 138) #[] #[.pointer (some ⟨Bn, 0, none⟩)]]) (by simp [results, Tryz.results59, go_sem, y0, y1, y2, y3, y4, y5]; try rfl) rfl ?_
      obtain ⟨x1, x2, x3, x4⟩ := hX.out
      have b1 := ll.out
      have b2 := nn.out
      have b3 := hlt.out
      have b4 := hzy.out
      have b5 := hgl.out
      have b6 := nB.out
      have hS := wth_stay (sum_stay Bn (Bn + 1) (Bn + 2) (Bn + 3) (Bn + 3)) (sifK_keep x m 2 0 (some ⟨g, 0, none⟩) cap B2 w.heap.size (Bn + 4) (Bn + 3) Bp)
      have hbt : ∀ s mm ww, Wth (SumS Bn (Bn + 1) (Bn + 2) (Bn + 3) (Bn + 3)) (sifM B2 w.heap.size (Bn + 4) Bp) (sifK x m 2 0 (some ⟨g, 0, none⟩) cap B2 w.heap.size (Bn + 4) (Bn + 3) Bp) s mm ww → Blk ww Bn #[.int .i64 s] 2 := fun s mm ww ⟨_, h, _⟩ => h.1
      have hbk : ∀ s mm ww, Wth (SumS Bn (Bn + 1) (Bn + 2) (Bn + 3) (Bn + 3)) (sifM B2 w.heap.size (Bn + 4) Bp) (sifK x m 2 0 (some ⟨g, 0, none⟩) cap B2 w.heap.size (Bn + 4) (Bn + 3) Bp) s mm ww → Blk ww (Bn + 3) #[tkV (Bn + 2) (Bn + 1)] 114 := fun s mm ww ⟨_, h, _⟩ => h.2.2.2.1
      have hca := ofn_does hS sumT _ _ (wth_tak (sifK_keep x m 2 0 (some ⟨g, 0, none⟩) cap B2 w.heap.size (Bn + 4) (Bn + 3) Bp) (into_tak Bn (Bn + 1) (Bn + 2) (Bn + 3) (Bn + 3))) (Bn + 3) hbk sumT_nb
      have hen := sif2_ends (fun n : Int => n) Bn hbt
      have hsum : SumS Bn (Bn + 1) (Bn + 2) (Bn + 3) (Bn + 3) 0 (fun k => k = Bn ∨ k = Bn + 1 ∨ k = Bn + 2 ∨ k = Bn + 3 ∨ k = Bn + 3) w9 := by
        have hss := sum_stay Bn (Bn + 1) (Bn + 2) (Bn + 3) (Bn + 3)
        exact hss.same (sm_of hss S0.out x4) (fun k hk => c9.out.block k (Nat.lt_of_lt_of_le (hss.lt S0.out k hk) x4.size) (by omega))
      have hkk : sifK x m 2 0 (some ⟨g, 0, none⟩) cap B2 w.heap.size (Bn + 4) (Bn + 3) Bp w9 := ⟨c9.out.blk (Y2.out.keep x4) (by omega), c9.out.blk (GY.out.keep x4) (by omega), c9.out.blk (F0.out.keep x4) (by omega), c9.out.blk x1 (by omega), c9.out.blk x2 (by omega)⟩
      have hgb : w9.heap[g]? = w.heap[g]? := (c9.out.block g (Nat.lt_of_lt_of_le hgl.out (next KK.out x4).size) (by omega)).trans ((next KK.out x4).block g hgl.out)
      refine ⟨⟨.nilFunc, _, _, _, _⟩, Wth (SumS Bn (Bn + 1) (Bn + 2) (Bn + 3) (Bn + 3)) (sifM B2 w.heap.size (Bn + 4) Bp) (sifK x m 2 0 (some ⟨g, 0, none⟩) cap B2 w.heap.size (Bn + 4) (Bn + 3) Bp), _, some ⟨g, 0, none⟩, cap, rfl, ⟨hS, ⟨_, _, rfl, hen⟩, .inl (agC_isC m), ⟨rfl, rfl, rfl, rfl, rfl⟩⟩, ⟨hS, ⟨_, _, rfl, hen⟩, ⟨_, _, rfl, sif1_two hS x B2 w.heap.size (Bn + 4) _ _ (fun s mm ww ⟨_, _, h, _⟩ => h.1) (fun s mm ww ⟨_, _, h, _⟩ => h.2.1) _ _ _ hca (fun s mm ww ⟨_, _, h, _⟩ => h.2.2.1) (celN_nb sumT_nb)⟩⟩, ⟨_, hsum, hkk, (fun k hk e => by unfold sifM at hk; omega), rfl⟩, (fun k hk => by unfold sifM at hk; omega), .inr ⟨g, 0, rfl, ⟨.inl rfl, fun e => by unfold sifM at e; omega, Nat.lt_of_lt_of_le hgl.out (Nat.le_trans (next KK.out x4).size c9.out.size)⟩, fun j y hy => ?_⟩, by simp only [List.length_cons, List.length_nil] at hcap ⊢; omega, bel_chg (next KK.out x4) (by omega) c9.out⟩
      have hj : j = 0 := by have := (List.getElem?_eq_some_iff.1 hy).1; simp at this; omega
      subst hj
      obtain rfl : agC (m : Nat) = y := by simpa using hy
      exact T9.range_of_block hrw.out hgb
end Go.Proofs.YtnpdkojhlgchlaaGreatDoor
