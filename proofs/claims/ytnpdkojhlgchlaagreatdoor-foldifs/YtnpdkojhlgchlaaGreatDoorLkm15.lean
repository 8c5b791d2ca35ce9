/- Package fold's lookDown of a number: what makes its rule. Proved of the Go text. -/
import Derived.Test.YtnpdkojhlgchlaaGreatDoorLok15
import Derived.Deep.CutRange
namespace Go.Proofs.YtnpdkojhlgchlaaGreatDoor
open Go.RowKit Go.Sort
open T9 (Blk Chg)
set_option linter.unusedVariables false

abbrev agW (m : Nat) : Ag := ⟨true, 0, 0, (m : Int) - 1, 2, ⟨0, 0, no⟩⟩
/-- Two variables, laid in either order. -/
def TwoV (x : Int) (m : Nat) (w0 wx : World) (Bx Bt : Nat) : Prop := Blk wx Bx #[.bool false, .int .i64 0, .int .i64 0, .int .i64 0, .int .i64 0, .int .i64 1, .int .i64 x, .string no] 41 ∧ Blk wx Bt #[.int .i64 0, .int .i64 0, .int .i64 ((m : Int) - 1), .int .i64 2] 39 ∧ w0.heap.size ≤ Bx ∧ w0.heap.size ≤ Bt ∧ Below w0.heap.size w0 wx
theorem two_a (x : Int) (m : Nat) (w0 : World) : TwoV x m w0 ((w0.alloc (.cells #[.bool false, .int .i64 0, .int .i64 0, .int .i64 0, .int .i64 0, .int .i64 1, .int .i64 x, .string no] 41)).alloc (.cells #[.int .i64 0, .int .i64 0, .int .i64 ((m : Int) - 1), .int .i64 2] 39)).drew w0.heap.size (w0.heap.size + 1) := ⟨drewB ((Blk.new w0 _ _).alloc _), drewB (T9.Blk.new1 w0 _ _ _), Nat.le_refl _, Nat.le_succ _, (step (step (Below.refl _ _) _) _).drew⟩
theorem two_b (x : Int) (m : Nat) (w0 : World) : TwoV x m w0 ((w0.alloc (.cells #[.int .i64 0, .int .i64 0, .int .i64 ((m : Int) - 1), .int .i64 2] 39)).alloc (.cells #[.bool false, .int .i64 0, .int .i64 0, .int .i64 0, .int .i64 0, .int .i64 1, .int .i64 x, .string no] 41)).drew (w0.heap.size + 1) w0.heap.size := ⟨drewB (T9.Blk.new1 w0 _ _ _), drewB ((Blk.new w0 _ _).alloc _), Nat.le_succ _, Nat.le_refl _, (step (step (Below.refl _ _) _) _).drew⟩
theorem below_of {w0 w1 w2 : World} (h : Below w0.heap.size w0 w1) (g : Below w1.heap.size w1 w2) : Below w0.heap.size w0 w2 := next h g
set_option maxHeartbeats 8000000 in
set_option maxRecDepth 100000 in
theorem looking_is (x : Int) (m : Nat) (h1 : 1 ≤ m) (h3 : m ≤ 300) (w : World) (g cap : Nat) (hg : g < w.heap.size) (hrow : ∀ (j : Nat) (y : Ag), [agN x, agW m, agN 3][j]? = some y → w.rangeAt g (0 + j * 8) (agL y)) : Calls Tryz.prog 127 #[.slice (some ⟨g, 0, none⟩) 3 cap, .agg #[.func (.func 128) #[] #[], .func (.func 129) #[] #[], .func (.func 130) #[] #[]]] w fun e w' => ∃ Bw Bt Bk Bx gn, e = .returned (.agg #[.slice (some ⟨gn, 0, none⟩) 1 1, .nilFunc, .func (.func 185) #[] #[.pointer (some ⟨Bx, 0, none⟩)], .func (.func 186) #[] #[.pointer (some ⟨Bw, 0, none⟩), .pointer (some ⟨Bt, 0, none⟩), .pointer (some ⟨Bk, 0, none⟩)], .func (.func 125) #[] #[], .func (.func 187) #[] #[]]) ∧ LokS x m Bw Bt Bk Bx () (fun k => k = Bw ∨ k = Bt ∨ k = Bk ∨ k = Bx) w' ∧ (w.heap.size ≤ Bw ∧ w.heap.size ≤ Bt ∧ w.heap.size ≤ Bk ∧ w.heap.size ≤ Bx ∧ w.heap.size ≤ gn) ∧ (gn ≠ Bw ∧ gn ≠ Bt ∧ gn ≠ Bk ∧ gn ≠ Bx) ∧ Blk w' gn #[.bool true, .int .i64 0, .int .i64 0, .int .i64 ((m : Int) - 1), .int .i64 0, .int .i64 0, .int .i64 0, .string no] 41 ∧ Below w.heap.size w w' := by
  have R0 := hrow 0 _ rfl
  have R1 := hrow 1 _ rfl
  have R2 := hrow 2 _ rfl
  have K0 : Below w.heap.size w ((w.alloc (.cells #[.func (.func 128) #[] #[], .func (.func 129) #[] #[], .func (.func 130) #[] #[]] 141)).alloc (.cells #[.slice none 0 0, .nilFunc, .nilFunc, .nilFunc, .nilFunc, .nilFunc] 74)) := step (step (Below.refl _ _) _) _
  obtain ⟨w0, hw0⟩ : ∃ w0, (w.alloc (.cells #[.func (.func 128) #[] #[], .func (.func 129) #[] #[], .func (.func 130) #[] #[]] 141)).alloc (.cells #[.slice none 0 0, .nilFunc, .nilFunc, .nilFunc, .nilFunc, .nilFunc] 74) = w0 := ⟨_, rfl⟩
  have W0 : Hid (Blk w0 w.heap.size #[.func (.func 128) #[] #[], .func (.func 129) #[] #[], .func (.func 130) #[] #[]] 141) := hide (by rw [← hw0]; exact (Blk.new w _ _).alloc _)
  have B0 : Hid (Blk w0 (w.heap.size + 1) #[.slice none 0 0, .nilFunc, .nilFunc, .nilFunc, .nilFunc, .nilFunc] 74) := hide (by rw [← hw0]; exact T9.Blk.new1 w _ _ _)
  have hz0 : Hid (w0.heap.size = w.heap.size + 2) := hide (by rw [← hw0]; simp)
  rw [hw0] at K0
  have d0 : w0.cell? ⟨g, 0, none⟩ = some (.bool false) := keep1 K0 (by have := R0 0 _ rfl; simpa using this)
  have d1 : w0.cell? ⟨g, 1, none⟩ = some (.int .i64 0) := keep1 K0 (by have := R0 1 _ rfl; simpa using this)
  have d2 : w0.cell? ⟨g, 2, none⟩ = some (.int .i64 0) := keep1 K0 (by have := R0 2 _ rfl; simpa using this)
  have d3 : w0.cell? ⟨g, 3, none⟩ = some (.int .i64 0) := keep1 K0 (by have := R0 3 _ rfl; simpa using this)
  have d4 : w0.cell? ⟨g, 4, none⟩ = some (.int .i64 0) := keep1 K0 (by have := R0 4 _ rfl; simpa using this)
  have d5 : w0.cell? ⟨g, 5, none⟩ = some (.int .i64 1) := keep1 K0 (by have := R0 5 _ rfl; simpa using this)
  have d6 : w0.cell? ⟨g, 6, none⟩ = some (.int .i64 x) := keep1 K0 (by have := R0 6 _ rfl; simpa using this)
  have d7 : w0.cell? ⟨g, 7, none⟩ = some (.string no) := keep1 K0 (by have := R0 7 _ rfl; simpa using this)
  have t0 : w0.cell? ⟨g, 9, none⟩ = some (.int .i64 0) := keep1 K0 (by have := R1 1 _ rfl; simpa using this)
  have t1 : w0.cell? ⟨g, 10, none⟩ = some (.int .i64 0) := keep1 K0 (by have := R1 2 _ rfl; simpa using this)
  have t2 : w0.cell? ⟨g, 11, none⟩ = some (.int .i64 ((m : Int) - 1)) := keep1 K0 (by have := R1 3 _ rfl; simpa using this)
  have t3 : w0.cell? ⟨g, 12, none⟩ = some (.int .i64 2) := keep1 K0 (by have := R1 4 _ rfl; simpa using this)
  have da0 : ∀ o1, (w0.alloc o1).cell? ⟨g, 0, none⟩ = some (.bool false) := fun o1 => keep1 (step (Below.refl w0.heap.size w0) o1) d0
  have db0 : ∀ o1 o2, ((w0.alloc o1).alloc o2).cell? ⟨g, 0, none⟩ = some (.bool false) := fun o1 o2 => keep1 (step (step (Below.refl w0.heap.size w0) o1) o2) d0
  have da1 : ∀ o1, (w0.alloc o1).cell? ⟨g, 1, none⟩ = some (.int .i64 0) := fun o1 => keep1 (step (Below.refl w0.heap.size w0) o1) d1
  have db1 : ∀ o1 o2, ((w0.alloc o1).alloc o2).cell? ⟨g, 1, none⟩ = some (.int .i64 0) := fun o1 o2 => keep1 (step (step (Below.refl w0.heap.size w0) o1) o2) d1
  have da2 : ∀ o1, (w0.alloc o1).cell? ⟨g, 2, none⟩ = some (.int .i64 0) := fun o1 => keep1 (step (Below.refl w0.heap.size w0) o1) d2
  have db2 : ∀ o1 o2, ((w0.alloc o1).alloc o2).cell? ⟨g, 2, none⟩ = some (.int .i64 0) := fun o1 o2 => keep1 (step (step (Below.refl w0.heap.size w0) o1) o2) d2
  have da3 : ∀ o1, (w0.alloc o1).cell? ⟨g, 3, none⟩ = some (.int .i64 0) := fun o1 => keep1 (step (Below.refl w0.heap.size w0) o1) d3
  have db3 : ∀ o1 o2, ((w0.alloc o1).alloc o2).cell? ⟨g, 3, none⟩ = some (.int .i64 0) := fun o1 o2 => keep1 (step (step (Below.refl w0.heap.size w0) o1) o2) d3
  have da4 : ∀ o1, (w0.alloc o1).cell? ⟨g, 4, none⟩ = some (.int .i64 0) := fun o1 => keep1 (step (Below.refl w0.heap.size w0) o1) d4
  have db4 : ∀ o1 o2, ((w0.alloc o1).alloc o2).cell? ⟨g, 4, none⟩ = some (.int .i64 0) := fun o1 o2 => keep1 (step (step (Below.refl w0.heap.size w0) o1) o2) d4
  have da5 : ∀ o1, (w0.alloc o1).cell? ⟨g, 5, none⟩ = some (.int .i64 1) := fun o1 => keep1 (step (Below.refl w0.heap.size w0) o1) d5
  have db5 : ∀ o1 o2, ((w0.alloc o1).alloc o2).cell? ⟨g, 5, none⟩ = some (.int .i64 1) := fun o1 o2 => keep1 (step (step (Below.refl w0.heap.size w0) o1) o2) d5
  have da6 : ∀ o1, (w0.alloc o1).cell? ⟨g, 6, none⟩ = some (.int .i64 x) := fun o1 => keep1 (step (Below.refl w0.heap.size w0) o1) d6
  have db6 : ∀ o1 o2, ((w0.alloc o1).alloc o2).cell? ⟨g, 6, none⟩ = some (.int .i64 x) := fun o1 o2 => keep1 (step (step (Below.refl w0.heap.size w0) o1) o2) d6
  have da7 : ∀ o1, (w0.alloc o1).cell? ⟨g, 7, none⟩ = some (.string no) := fun o1 => keep1 (step (Below.refl w0.heap.size w0) o1) d7
  have db7 : ∀ o1 o2, ((w0.alloc o1).alloc o2).cell? ⟨g, 7, none⟩ = some (.string no) := fun o1 o2 => keep1 (step (step (Below.refl w0.heap.size w0) o1) o2) d7
  have ta0 : ∀ o1, (w0.alloc o1).cell? ⟨g, 9, none⟩ = some (.int .i64 0) := fun o1 => keep1 (step (Below.refl w0.heap.size w0) o1) t0
  have tb0 : ∀ o1 o2, ((w0.alloc o1).alloc o2).cell? ⟨g, 9, none⟩ = some (.int .i64 0) := fun o1 o2 => keep1 (step (step (Below.refl w0.heap.size w0) o1) o2) t0
  have ta1 : ∀ o1, (w0.alloc o1).cell? ⟨g, 10, none⟩ = some (.int .i64 0) := fun o1 => keep1 (step (Below.refl w0.heap.size w0) o1) t1
  have tb1 : ∀ o1 o2, ((w0.alloc o1).alloc o2).cell? ⟨g, 10, none⟩ = some (.int .i64 0) := fun o1 o2 => keep1 (step (step (Below.refl w0.heap.size w0) o1) o2) t1
  have ta2 : ∀ o1, (w0.alloc o1).cell? ⟨g, 11, none⟩ = some (.int .i64 ((m : Int) - 1)) := fun o1 => keep1 (step (Below.refl w0.heap.size w0) o1) t2
  have tb2 : ∀ o1 o2, ((w0.alloc o1).alloc o2).cell? ⟨g, 11, none⟩ = some (.int .i64 ((m : Int) - 1)) := fun o1 o2 => keep1 (step (step (Below.refl w0.heap.size w0) o1) o2) t2
  have ta3 : ∀ o1, (w0.alloc o1).cell? ⟨g, 12, none⟩ = some (.int .i64 2) := fun o1 => keep1 (step (Below.refl w0.heap.size w0) o1) t3
  have tb3 : ∀ o1 o2, ((w0.alloc o1).alloc o2).cell? ⟨g, 12, none⟩ = some (.int .i64 2) := fun o1 o2 => keep1 (step (step (Below.refl w0.heap.size w0) o1) o2) t3
  replace R1 := hide R1
  replace R2 := hide R2
  replace K0 := hide K0
  replace hg := hide hg
  replace hw0 := hide hw0
  clear R0 hrow
  go_enter Tryz.func127, Tryz.ntmps127
  go_upto_region 1 with fail
  rw [hw0.out]
  clear hw0
  go_cut [5, 6] from 9 to 15 (fun c5 c6 wx => ∃ Bx Bt, c5 = .pointer (some ⟨Bx, 0, none⟩) ∧ c6 = .pointer (some ⟨Bt, 0, none⟩) ∧ Hid (TwoV x m w0 wx Bx Bt))
  case first =>
    go_region
    all_goals (go_wp2_with fail)
    all_goals go_meet
    · exact ⟨_, _, rfl, rfl, hide (two_a x m w0)⟩
    · exact ⟨_, _, rfl, rfl, hide (two_b x m w0)⟩
  case rest =>
    obtain ⟨Bx, Bt, rfl, rfl, hT⟩ := hcut
    obtain ⟨X0, T0, lx, lt, KT⟩ := hT.out
    have KC := hide (next K0.out KT)
    clear hT d0 d1 d2 d3 d4 d5 d6 d7 t0 t1 t2 t3 da0 da1 da2 da3 da4 da5 da6 da7 db0 db1 db2 db3 db4 db5 db6 db7 ta0 ta1 ta2 ta3 tb0 tb1 tb2 tb3
    replace X0 := hide X0
    replace T0 := hide T0
    replace lx := hide lx
    replace lt := hide lt
    replace KT := hide KT
    have n0 : wc.cell? ⟨g, 16, none⟩ = some (.bool false) := keep1 KC.out (by have := R2.out 0 _ rfl; simpa using this)
    have n1 : wc.cell? ⟨g, 17, none⟩ = some (.int .i64 0) := keep1 KC.out (by have := R2.out 1 _ rfl; simpa using this)
    have n2 : wc.cell? ⟨g, 18, none⟩ = some (.int .i64 0) := keep1 KC.out (by have := R2.out 2 _ rfl; simpa using this)
    have n3 : wc.cell? ⟨g, 19, none⟩ = some (.int .i64 0) := keep1 KC.out (by have := R2.out 3 _ rfl; simpa using this)
    have n4 : wc.cell? ⟨g, 20, none⟩ = some (.int .i64 0) := keep1 KC.out (by have := R2.out 4 _ rfl; simpa using this)
    have n5 : wc.cell? ⟨g, 21, none⟩ = some (.int .i64 1) := keep1 KC.out (by have := R2.out 5 _ rfl; simpa using this)
    have n6 : wc.cell? ⟨g, 22, none⟩ = some (.int .i64 3) := keep1 KC.out (by have := R2.out 6 _ rfl; simpa using this)
    have n7 : wc.cell? ⟨g, 23, none⟩ = some (.string no) := keep1 KC.out (by have := R2.out 7 _ rfl; simpa using this)
    have HA := asNumber_int 3
    go_wp2_with fail
    refine (HA.out _).mono ?_
    rintro e w1 ⟨rfl, hb1⟩
    have KK := hide (step hb1 (.cells #[.int .i64 3] 2))
    have QK := hide (Blk.new w1 #[.int .i64 3] 2)
    have lk : Hid (wc.heap.size ≤ w1.heap.size) := hide hb1.size
    obtain ⟨Bk, hBk⟩ : ∃ Bk, w1.heap.size = Bk := ⟨_, rfl⟩
    clear hb1 n0 n1 n2 n3 n4 n5 n6 n7
    go_upto_region 3 with fail
    obtain ⟨wk, hwk⟩ : ∃ wk, w1.alloc (.cells #[.int .i64 3] 2) = wk := ⟨_, rfl⟩
    rw [hwk] at KK QK
    rw [hBk] at QK lk
    try rw [hwk]
    try rw [hBk]
    clear hwk hBk
    have e0 := cell_regrown (show wk.cell? ⟨Bx, 0, none⟩ = some (.bool false) from (X0.out.keep KK.out).at' 0)
    have e1 := cell_regrown (show wk.cell? ⟨Bx, 1, none⟩ = some (.int .i64 0) from (X0.out.keep KK.out).at' 1)
    have e2 := cell_regrown (show wk.cell? ⟨Bx, 2, none⟩ = some (.int .i64 0) from (X0.out.keep KK.out).at' 2)
    have e3 := cell_regrown (show wk.cell? ⟨Bx, 3, none⟩ = some (.int .i64 0) from (X0.out.keep KK.out).at' 3)
    have e4 := cell_regrown (show wk.cell? ⟨Bx, 4, none⟩ = some (.int .i64 0) from (X0.out.keep KK.out).at' 4)
    have e5 := cell_regrown (show wk.cell? ⟨Bx, 5, none⟩ = some (.int .i64 1) from (X0.out.keep KK.out).at' 5)
    have e6 := cell_regrown (show wk.cell? ⟨Bx, 6, none⟩ = some (.int .i64 x) from (X0.out.keep KK.out).at' 6)
    have e7 := cell_regrown (show wk.cell? ⟨Bx, 7, none⟩ = some (.string no) from (X0.out.keep KK.out).at' 7)
    have f0 := cell_regrown (show wk.cell? ⟨g, 8, none⟩ = some (.bool true) from keep1 (next KC.out KK.out) (by have := R1.out 0 _ rfl; simpa using this))
    have f1 := cell_regrown (show wk.cell? ⟨g, 9, none⟩ = some (.int .i64 0) from keep1 (next KC.out KK.out) (by have := R1.out 1 _ rfl; simpa using this))
    have f2 := cell_regrown (show wk.cell? ⟨g, 10, none⟩ = some (.int .i64 0) from keep1 (next KC.out KK.out) (by have := R1.out 2 _ rfl; simpa using this))
    have f3 := cell_regrown (show wk.cell? ⟨g, 11, none⟩ = some (.int .i64 ((m : Int) - 1)) from keep1 (next KC.out KK.out) (by have := R1.out 3 _ rfl; simpa using this))
    have f4 := cell_regrown (show wk.cell? ⟨g, 12, none⟩ = some (.int .i64 2) from keep1 (next KC.out KK.out) (by have := R1.out 4 _ rfl; simpa using this))
    have f5 := cell_regrown (show wk.cell? ⟨g, 13, none⟩ = some (.int .i64 0) from keep1 (next KC.out KK.out) (by have := R1.out 5 _ rfl; simpa using this))
    have f6 := cell_regrown (show wk.cell? ⟨g, 14, none⟩ = some (.int .i64 0) from keep1 (next KC.out KK.out) (by have := R1.out 6 _ rfl; simpa using this))
    have f7 := cell_regrown (show wk.cell? ⟨g, 15, none⟩ = some (.string no) from keep1 (next KC.out KK.out) (by have := R1.out 7 _ rfl; simpa using this))
    have kq0 := fun d' os => Calls.regrown_of ((amiss_sought x).out (grow (redrawn wk d') os))
    have kq1 := fun d' os => Calls.regrown_of ((amiss_area 0 0 ((m : Int) - 1) 2 ⟨0, 0, no⟩).out (grow (redrawn wk d') os))
    refine quiet_tail 7 (by kernel_rfl) (by kernel_rfl) ?_
    simp only [List.take_succ_cons, List.take_zero, List.drop_succ_cons, List.drop_zero]
    repeat (go_big_quiet_step (first | (with_reducible exact kq0 _ _) | (with_reducible exact kq1 _ _)))
    refine wpQuiet_nil ?_
    intro wq hwq
    have hbq : Hid (Below wk.heap.size wk wq) := hide (by obtain ⟨⟨dq, osq⟩, hq⟩ := hwq; rw [hq]; exact below_regrown _ dq osq)
    clear hwq e0 e1 e2 e3 e4 e5 e6 e7 f0 f1 f2 f3 f4 f5 f6 f7 kq0 kq1
    go_wp2_with fail
    refine (or_zero 3 (by decide) _ _ _ (fun j hj => ?_)).mono ?_
    · have hb := Blk.new wq #[.int .i64 0, .int .i64 0, .int .i64 0] 3
      rw [hb.at']
      match j, hj with
      | 0, _ => rfl
      | 1, _ => rfl
      | 2, _ => rfl
    rintro e w3 ⟨rfl, rfl⟩
    have KZ := hide (step hbq.out (.cells #[.int .i64 0, .int .i64 0, .int .i64 0] 3))
    go_upto_region 6 with fail
    obtain ⟨wz, hwz⟩ : ∃ wz, wq.alloc (.cells #[.int .i64 0, .int .i64 0, .int .i64 0] 3) = wz := ⟨_, rfl⟩
    rw [hwz] at KZ ⊢
    clear hwz
    have hentC := ent_of Tryz.func129 (by kernel_rfl) (by kernel_rfl)
    have HCol : CallIs 129 #[.agg #[.int .i64 0, .int .i64 0, .int .i64 ((m : Int) - 1), .int .i64 2]] (.int .i64 3) := columns_is 0 0 ((m : Int) - 1) 2 (by decide) (by decide) (by decide)
    have kq2 := fun d' os => Calls.regrown_of (HCol.out (grow (redrawn wz d') os))
    have q0 := cell_regrown (show wz.cell? ⟨Bk, 0, none⟩ = some (.int .i64 3) from (QK.out.keep KZ.out).at' 0)
    have q1 := cell_regrown (show wz.cell? ⟨w.heap.size, 1, none⟩ = some (.func (.func 129) #[] #[]) from (W0.out.keep (next (next KT.out KK.out) KZ.out)).at' 1)
    have q2 := cell_regrown (show wz.cell? ⟨Bt, 0, none⟩ = some (.int .i64 0) from (T0.out.keep (next KK.out KZ.out)).at' 0)
    have q3 := cell_regrown (show wz.cell? ⟨Bt, 1, none⟩ = some (.int .i64 0) from (T0.out.keep (next KK.out KZ.out)).at' 1)
    have q4 := cell_regrown (show wz.cell? ⟨Bt, 2, none⟩ = some (.int .i64 ((m : Int) - 1)) from (T0.out.keep (next KK.out KZ.out)).at' 2)
    have q5 := cell_regrown (show wz.cell? ⟨Bt, 3, none⟩ = some (.int .i64 2) from (T0.out.keep (next KK.out KZ.out)).at' 3)
    refine wp_region_quiet_below (by kernel_rfl) (by kernel_rfl) ?_
    repeat (go_big_quiet_step (first | (with_reducible exact kq2 _ _)))
    refine wpQuiet_nil ?_
    intro wy hwy
    have hby : Hid (Below wz.heap.size wz wy) := hide (by obtain ⟨⟨dq, osq⟩, hq⟩ := hwy; rw [hq]; exact below_regrown _ dq osq)
    clear hwy q0 q1 q2 q3 q4 q5 kq2 hentC HCol
    have KY := hide (next KZ.out hby.out)
    have hentL := ent_of Tryz.func128 (by kernel_rfl) (by kernel_rfl)
    have q1 : wy.cell? ⟨w.heap.size, 0, none⟩ = some (.func (.func 128) #[] #[]) := (W0.out.keep (next (next KT.out KK.out) KY.out)).at' 0
    have q2 : wy.cell? ⟨Bt, 0, none⟩ = some (.int .i64 0) := (T0.out.keep (next KK.out KY.out)).at' 0
    have q3 : wy.cell? ⟨Bt, 1, none⟩ = some (.int .i64 0) := (T0.out.keep (next KK.out KY.out)).at' 1
    have q4 : wy.cell? ⟨Bt, 2, none⟩ = some (.int .i64 ((m : Int) - 1)) := (T0.out.keep (next KK.out KY.out)).at' 2
    have q5 : wy.cell? ⟨Bt, 3, none⟩ = some (.int .i64 2) := (T0.out.keep (next KK.out KY.out)).at' 3
    have HL := down1_is m
    go_wp2_with fail
    refine (HL.out _).mono ?_
    rintro e w3 ⟨rfl, hb3⟩
    have K3 := hide (step (next KY.out hb3) (.cells #[.bool true, .int .i64 0, .int .i64 0, .int .i64 ((m : Int) - 1), .int .i64 0, .int .i64 0, .int .i64 0, .string no] 41))
    have BD := B0.out.keep (next (next KT.out KK.out) K3.out)
    have GN := hide (Blk.new w3 #[.bool true, .int .i64 0, .int .i64 0, .int .i64 ((m : Int) - 1), .int .i64 0, .int .i64 0, .int .i64 0, .string no] 41)
    obtain ⟨gn, hgn⟩ : ∃ gn, w3.heap.size = gn := ⟨_, rfl⟩
    have ngn : Hid (wk.heap.size ≤ gn) := hide (by rw [← hgn]; exact (next KY.out hb3).size)
    have lg3 : Hid (w3.heap.size = gn) := hide hgn
    rw [hgn] at GN
    clear q1 q2 q3 q4 q5 hb3
    have z0 : (w3.alloc (.cells #[.bool true, .int .i64 0, .int .i64 0, .int .i64 ((m : Int) - 1), .int .i64 0, .int .i64 0, .int .i64 0, .string no] 41)).cell? ⟨w.heap.size + 1, 0, none⟩ = some (.slice none 0 0) := BD.at' 0
    have z1 : (w3.alloc (.cells #[.bool true, .int .i64 0, .int .i64 0, .int .i64 ((m : Int) - 1), .int .i64 0, .int .i64 0, .int .i64 0, .string no] 41)).cell? ⟨w.heap.size + 1, 1, none⟩ = some (.nilFunc) := BD.at' 1
    have z2 : (w3.alloc (.cells #[.bool true, .int .i64 0, .int .i64 0, .int .i64 ((m : Int) - 1), .int .i64 0, .int .i64 0, .int .i64 0, .string no] 41)).cell? ⟨w.heap.size + 1, 2, none⟩ = some (.nilFunc) := BD.at' 2
    have z3 : (w3.alloc (.cells #[.bool true, .int .i64 0, .int .i64 0, .int .i64 ((m : Int) - 1), .int .i64 0, .int .i64 0, .int .i64 0, .string no] 41)).cell? ⟨w.heap.size + 1, 3, none⟩ = some (.nilFunc) := BD.at' 3
    have z4 : (w3.alloc (.cells #[.bool true, .int .i64 0, .int .i64 0, .int .i64 ((m : Int) - 1), .int .i64 0, .int .i64 0, .int .i64 0, .string no] 41)).cell? ⟨w.heap.size + 1, 4, none⟩ = some (.nilFunc) := BD.at' 4
    have z5 : (w3.alloc (.cells #[.bool true, .int .i64 0, .int .i64 0, .int .i64 ((m : Int) - 1), .int .i64 0, .int .i64 0, .int .i64 0, .string no] 41)).cell? ⟨w.heap.size + 1, 5, none⟩ = some (.nilFunc) := BD.at' 5
    have zf := BD.fr
    have h9 := ((((((BD.set 0 (.slice (some ⟨gn, 0, none⟩) 1 1)).set 1 .nilFunc).set 2 (.func (.func 185) #[] #[.pointer (some ⟨Bx, 0, none⟩)])).set 3 (.func (.func 186) #[] #[.pointer (some ⟨w.heap.size, 0, none⟩), .pointer (some ⟨Bt, 0, none⟩), .pointer (some ⟨Bk, 0, none⟩)])).set 4 (.func (.func 125) #[] #[])).set 5 (.func (.func 187) #[] #[]))
    have c9 := hide (((((((Chg.refl (· = w.heap.size + 1) (w3.alloc (.cells #[.bool true, .int .i64 0, .int .i64 0, .int .i64 ((m : Int) - 1), .int .i64 0, .int .i64 0, .int .i64 0, .string no] 41))).set (w.heap.size + 1) 0 (.slice (some ⟨gn, 0, none⟩) 1 1) rfl).set (w.heap.size + 1) 1 .nilFunc rfl).set (w.heap.size + 1) 2 (.func (.func 185) #[] #[.pointer (some ⟨Bx, 0, none⟩)]) rfl).set (w.heap.size + 1) 3 (.func (.func 186) #[] #[.pointer (some ⟨w.heap.size, 0, none⟩), .pointer (some ⟨Bt, 0, none⟩), .pointer (some ⟨Bk, 0, none⟩)]) rfl).set (w.heap.size + 1) 4 (.func (.func 125) #[] #[]) rfl).set (w.heap.size + 1) 5 (.func (.func 187) #[] #[]) rfl)
    obtain ⟨w9, hw9⟩ : ∃ w9, (((((((w3.alloc (.cells #[.bool true, .int .i64 0, .int .i64 0, .int .i64 ((m : Int) - 1), .int .i64 0, .int .i64 0, .int .i64 0, .string no] 41)).setCell ⟨w.heap.size + 1, 0, none⟩ (.slice (some ⟨gn, 0, none⟩) 1 1)).setCell ⟨w.heap.size + 1, 1, none⟩ .nilFunc).setCell ⟨w.heap.size + 1, 2, none⟩ (.func (.func 185) #[] #[.pointer (some ⟨Bx, 0, none⟩)])).setCell ⟨w.heap.size + 1, 3, none⟩ (.func (.func 186) #[] #[.pointer (some ⟨w.heap.size, 0, none⟩), .pointer (some ⟨Bt, 0, none⟩), .pointer (some ⟨Bk, 0, none⟩)])).setCell ⟨w.heap.size + 1, 4, none⟩ (.func (.func 125) #[] #[])).setCell ⟨w.heap.size + 1, 5, none⟩ (.func (.func 187) #[] #[])) = w9 := ⟨_, rfl⟩
    rw [hw9] at h9 c9
    have y0 : w9.cell? ⟨w.heap.size + 1, 0, none⟩ = some (.slice (some ⟨gn, 0, none⟩) 1 1) := h9.at' 0
    have y1 : w9.cell? ⟨w.heap.size + 1, 1, none⟩ = some .nilFunc := h9.at' 1
    have y2 : w9.cell? ⟨w.heap.size + 1, 2, none⟩ = some (.func (.func 185) #[] #[.pointer (some ⟨Bx, 0, none⟩)]) := h9.at' 2
    have y3 : w9.cell? ⟨w.heap.size + 1, 3, none⟩ = some (.func (.func 186) #[] #[.pointer (some ⟨w.heap.size, 0, none⟩), .pointer (some ⟨Bt, 0, none⟩), .pointer (some ⟨Bk, 0, none⟩)]) := h9.at' 3
    have y4 : w9.cell? ⟨w.heap.size + 1, 4, none⟩ = some (.func (.func 125) #[] #[]) := h9.at' 4
    have y5 : w9.cell? ⟨w.heap.size + 1, 5, none⟩ = some (.func (.func 187) #[] #[]) := h9.at' 5
    replace h9 := hide h9
    clear BD
    go_wp2_with fail
    refine bodyPost_ret (v := .agg #[.slice (some ⟨gn, 0, none⟩) 1 1, .nilFunc, .func (.func 185) #[] #[.pointer (some ⟨Bx, 0, none⟩)], .func (.func 186) #[] #[.pointer (some ⟨w.heap.size, 0, none⟩), .pointer (some ⟨Bt, 0, none⟩), .pointer (some ⟨Bk, 0, none⟩)], .func (.func 125) #[] #[], .func (.func 187) #[] #[]]) (by simp [results, Tryz.results127, go_sem, y0, y1, y2, y3, y4, y5]; try rfl) rfl ?_
    have b1 := hz0.out
    have b2 := lx.out
    have b3 := lt.out
    have b4 := lk.out
    have b5 := ngn.out
    have b6 := KT.out.size
    have b7 := QK.out.lt
    have b8 := (X0.out.keep KK.out).lt
    have b9 := (T0.out.keep KK.out).lt
    refine ⟨w.heap.size, Bt, Bk, Bx, gn, rfl, ⟨c9.out.blk (W0.out.keep (next (next KT.out KK.out) K3.out)) (by omega), c9.out.blk (T0.out.keep (next KK.out K3.out)) (by omega), c9.out.blk (QK.out.keep K3.out) (by omega), c9.out.blk (X0.out.keep (next KK.out K3.out)) (by omega), rfl⟩, ⟨Nat.le_refl _, by omega, by omega, by omega, by omega⟩, ⟨by omega, by omega, by omega, by omega⟩, c9.out.blk GN.out (by omega), bel_chg (next (next KC.out KK.out) K3.out) (by omega) c9.out⟩
end Go.Proofs.YtnpdkojhlgchlaaGreatDoor
