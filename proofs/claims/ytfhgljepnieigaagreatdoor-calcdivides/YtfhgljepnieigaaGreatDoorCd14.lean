/- CalcDivides: a divisor that is not 0. Proved of the Go text. -/
import Derived.Test.YtfhgljepnieigaaGreatDoorCdM14
namespace Go.Proofs.YtfhgljepnieigaaGreatDoor
open Go.RowKit Go.Sort
set_option linter.unusedVariables false

def Cd_bigl (a b : Int) : Prop := (FunIs 6 [⟨1, a, no⟩, ⟨1, b, no⟩] ⟨4, 2, no⟩) ∧ ((a == -9223372036854775808) = true) ∧ ((b == -9223372036854775808) = true)
def Cd_bigz (a b : Int) : Prop := (FunIs 6 [⟨1, a, no⟩, ⟨1, b, no⟩] ⟨4, 2, no⟩) ∧ ((a == -9223372036854775808) = false) ∧ ((a == 0) = true) ∧ ((b == -9223372036854775808) = true)
def Cd_low (a b : Int) : Prop := ∃ g : Int, ∃ p : Int, ∃ s : Int, ∃ z : Nat, (FunIs 6 [⟨1, a, no⟩, ⟨1, b, no⟩] ⟨1, g, no⟩) ∧ (¬ g < 1) ∧ ((a.tmod g != 0) = false) ∧ ((b.tmod g != 0) = false) ∧ (FunIs 7 [⟨1, a, no⟩, ⟨1, b, no⟩] ⟨1, (z : Int), no⟩) ∧ (CallIs 15 #[.int .i64 (wrap64 (a.tdiv g))] (.int .u64 p)) ∧ (CallIs 15 #[.int .i64 b] (.int .u64 s)) ∧ (z ≤ 9223372036854775807) ∧ (CallIs 14 #[.int .u64 p, .int .u64 s] (.tuple #[.int .u64 0, .int .u64 (z : Int)]))
def Cd_mid (a b : Int) : Prop := ∃ g : Int, ∃ p : Int, ∃ s : Int, ∃ z : Nat, (FunIs 6 [⟨1, a, no⟩, ⟨1, b, no⟩] ⟨1, g, no⟩) ∧ (¬ g < 1) ∧ ((a.tmod g != 0) = false) ∧ ((b.tmod g != 0) = false) ∧ (FunIs 7 [⟨1, a, no⟩, ⟨1, b, no⟩] ⟨4, 2, no⟩) ∧ (CallIs 15 #[.int .i64 (wrap64 (a.tdiv g))] (.int .u64 p)) ∧ (CallIs 15 #[.int .i64 b] (.int .u64 s)) ∧ (9223372036854775807 < z) ∧ (CallIs 14 #[.int .u64 p, .int .u64 s] (.tuple #[.int .u64 0, .int .u64 (z : Int)]))
def Cd_high (a b : Int) : Prop := ∃ g : Int, ∃ p : Int, ∃ s : Int, ∃ z : Nat, ∃ y : Nat, (FunIs 6 [⟨1, a, no⟩, ⟨1, b, no⟩] ⟨1, g, no⟩) ∧ (¬ g < 1) ∧ ((a.tmod g != 0) = false) ∧ ((b.tmod g != 0) = false) ∧ (FunIs 7 [⟨1, a, no⟩, ⟨1, b, no⟩] ⟨4, 2, no⟩) ∧ (CallIs 15 #[.int .i64 (wrap64 (a.tdiv g))] (.int .u64 p)) ∧ (CallIs 15 #[.int .i64 b] (.int .u64 s)) ∧ (((y : Int) != 0) = true) ∧ (CallIs 14 #[.int .u64 p, .int .u64 s] (.tuple #[.int .u64 (y : Int), .int .u64 (z : Int)]))
set_option maxHeartbeats 8000000 in
set_option maxRecDepth 100000 in
theorem cd_any (a b q m r qb : Int) (HQ : Hid (FunIs 4 [⟨1, a, no⟩, ⟨1, b, no⟩] ⟨1, q, no⟩)) (HM : Hid (FunIs 3 [⟨1, a, no⟩, ⟨1, b, no⟩] ⟨1, m, no⟩)) (HD : CallIs 12 #[.int .i64 3, vV 1 a no, vV 1 b no] (vV 1 q no)) (hb0 : (b == 0) = false) (hbs : Hid ((0 < b ∧ 0 ≤ m ∧ m < b) ∨ (b < 0 ∧ m ≤ 0 ∧ b < m))) (hln : Hid (¬ (a = -9223372036854775808 ∧ b = -1))) (hqb : Hid (wrap64 (q * b) = qb)) (har : Hid (wrap64 (a - qb) = r)) (hrm : Hid (r = m ∨ (r ≠ m ∧ wrap64 (m - b) = r))) (hrs : Hid (r = 0 ∨ (r < 0 ∧ a < 0) ∨ (0 < r ∧ ¬ a < 0))) (hcs : Hid (Cd_bigl a b ∨ Cd_bigz a b ∨ Cd_low a b ∨ Cd_mid a b ∨ Cd_high a b)) : CallB 4 #[.int .i64 a, .int .i64 b] (.bool true) := by
  intro w ht
  have HT := hide ht
  clear ht
  go_enter Tryz.func4, Tryz.ntmps4
  try simp only [List.append]
  go_wp2_with fail
  refine (begun14.out _ HT.out).mono ?_
  rintro e w1 ⟨rfl, hb1⟩
  have B1 := hide (next (Below.refl w.heap.size w) hb1)
  go_wp2_with fail
  refine ((lnum_is a).out _).mono ?_
  rintro e w2 ⟨rfl, hb2⟩
  have B2 := hide (next (B1.out) hb2)
  go_wp2_with fail
  refine ((lnum_is b).out _).mono ?_
  rintro e w3 ⟨rfl, hb3⟩
  have B3 := hide (next (B2.out) hb3)
  go_wp2_with fail
  refine (is2 4 ⟨1, a, no⟩ ⟨1, b, no⟩ ⟨1, q, no⟩ HQ.out _ (HT.out.keep (B3.out))).mono ?_
  rintro e w4 ⟨rfl, hb4⟩
  have B4 := hide (next (step (B3.out) _) hb4)
  go_wp2_with fail
  refine ((lnum_is a).out _).mono ?_
  rintro e w5 ⟨rfl, hb5⟩
  have B5 := hide (next (B4.out) hb5)
  go_wp2_with fail
  refine ((lnum_is b).out _).mono ?_
  rintro e w6 ⟨rfl, hb6⟩
  have B6 := hide (next (B5.out) hb6)
  go_wp2_with fail
  refine (is2 3 ⟨1, a, no⟩ ⟨1, b, no⟩ ⟨1, m, no⟩ HM.out _ (HT.out.keep (B6.out))).mono ?_
  rintro e w7 ⟨rfl, hb7⟩
  have B7 := hide (next (step (B6.out) _) hb7)
  go_wp2_with fail
  refine ((lnum_is a).out _).mono ?_
  rintro e w8 ⟨rfl, hb8⟩
  have B8 := hide (next (B7.out) hb8)
  go_wp2_with fail
  refine ((lnum_is b).out _).mono ?_
  rintro e w9 ⟨rfl, hb9⟩
  have B9 := hide (next (B8.out) hb9)
  go_wp2_with fail
  refine (HD.out _).mono ?_
  rintro e w10 ⟨rfl, hb10⟩
  have B10 := hide (next (B9.out) hb10)
  go_upto_region 4 with fail
  have cq : Hid (O3 (((w10.alloc (vO 1 q no)).alloc (vO 1 m no)).alloc (vO 1 q no)) (w10.heap.size) (.int .i64 1) (.int .i64 q) (.string no)) := hide (by have h0 := (((O3.new w10 (.int .i64 1) (.int .i64 q) (.string no) 26).alloc (vO 1 m no)).alloc (vO 1 q no)); exact h0)
  have cm : Hid (O3 (((w10.alloc (vO 1 q no)).alloc (vO 1 m no)).alloc (vO 1 q no)) (w10.heap.size + 1) (.int .i64 1) (.int .i64 m) (.string no)) := hide (by have h0 := ((O3.new (w10.alloc (vO 1 q no)) (.int .i64 1) (.int .i64 m) (.string no) 26).alloc (vO 1 q no)); simp only [World.size_alloc] at h0; exact h0)
  have cd : Hid (O3 (((w10.alloc (vO 1 q no)).alloc (vO 1 m no)).alloc (vO 1 q no)) (w10.heap.size + 1 + 1) (.int .i64 1) (.int .i64 q) (.string no)) := hide (by have h0 := (O3.new ((w10.alloc (vO 1 q no)).alloc (vO 1 m no)) (.int .i64 1) (.int .i64 q) (.string no) 26); simp only [World.size_alloc] at h0; exact h0)
  obtain ⟨wz, hwz⟩ : ∃ wz, (((w10.alloc (vO 1 q no)).alloc (vO 1 m no)).alloc (vO 1 q no)) = wz := ⟨_, rfl⟩
  have Bwz := hide (step (step (step (B10.out) (vO 1 q no)) (vO 1 m no)) (vO 1 q no))
  rw [hwz] at Bwz cq cm cd ⊢
  clear hwz
  have hneq := va_neq 1 q no
  have cqc1 := cq.out.1.1
  have cqc2 := cq.out.1.2.1
  have cqc3 := cq.out.1.2.2
  have cdc4 := cd.out.1.1
  have cdc5 := cd.out.1.2.1
  have cdc6 := cd.out.1.2.2
  have cmc7 := cm.out.1.1
  have cmc8 := cm.out.1.2.1
  have cmc9 := cm.out.1.2.2
  go_upto_region 8 with fail
  clear hneq
  go_cut [87] from 55 to 86 (fun c wx => c = .bool false ∧ wx = wz)
  case first =>
    rcases hbs.out with ⟨h1, h2, h3⟩ | ⟨h1, h2, h3⟩
    · have p1 : ¬ m < 0 := by omega
      have p2 : ¬ b ≤ m := by omega
      have p3 : ¬ b < 0 := by omega
      go_wp2_with fail
      go_meet
      exact ⟨rfl, rfl⟩
    · have p1 : ¬ 0 < m := by omega
      have p2 : ¬ m ≤ b := by omega
      have p3 : ¬ 0 < b := by omega
      go_wp2_with fail
      go_meet
      exact ⟨rfl, rfl⟩
  case rest =>
    obtain ⟨rfl, rfl⟩ := hcut
    go_upto_region 10 with fail
    go_cut [93] from 88 to 92 (fun c wx => c = .bool false ∧ wx = wc)
    case first =>
      by_cases hal : a = -9223372036854775808
      · have j1 : (a == -9223372036854775808) = true := by simp [hal]
        have j2 : (b == -1) = false := by simp; exact fun h => hln.out ⟨hal, h⟩
        clear hal
        go_wp2_with fail
        go_meet
        exact ⟨rfl, rfl⟩
      · have j1 : (a == -9223372036854775808) = false := by simp [hal]
        clear hal
        go_wp2_with fail
        go_meet
        exact ⟨rfl, rfl⟩
    case rest =>
      obtain ⟨rfl, rfl⟩ := hcut
      have hw1 := hqb.out
      have hw2 := har.out
      go_upto_region 15 with fail
      rw [hw2]
      clear hw1 hw2
      go_cut [133] from 111 to 132 (fun c wx => c = .bool false ∧ wx = wc)
      case first =>
        rcases hrm.out with e1 | ⟨e1, e2⟩
        · have j1 : (r != m) = false := by simp [e1]
          clear e1
          rcases hrs.out with f1 | ⟨f1, f2⟩ | ⟨f1, f2⟩
          · have j3 : (r != 0) = false := by simp [f1]
            clear f1
            go_wp2_with fail
            go_meet
            exact ⟨rfl, rfl⟩
          · have j3 : (r != 0) = true := by simp; omega
            go_wp2_with fail
            go_meet
            exact ⟨rfl, rfl⟩
          · have j3 : (r != 0) = true := by simp; omega
            have j4 : ¬ r < 0 := by omega
            go_wp2_with fail
            go_meet
            exact ⟨congrArg Value.bool (decide_eq_false (by omega)), rfl⟩
        · have j1 : (r != m) = true := by simp [e1]
          have j2 := e2
          clear e1 e2
          rcases hrs.out with f1 | ⟨f1, f2⟩ | ⟨f1, f2⟩
          · have j3 : (r != 0) = false := by simp [f1]
            clear f1
            go_wp2_with fail
            go_meet
            exact ⟨rfl, rfl⟩
          · have j3 : (r != 0) = true := by simp; omega
            go_wp2_with fail
            go_meet
            exact ⟨rfl, rfl⟩
          · have j3 : (r != 0) = true := by simp; omega
            have j4 : ¬ r < 0 := by omega
            go_wp2_with fail
            go_meet
            exact ⟨congrArg Value.bool (decide_eq_false (by omega)), rfl⟩
      case rest =>
        obtain ⟨rfl, rfl⟩ := hcut
        clear cqc1 cqc2 cqc3 cdc4 cdc5 cdc6 cmc7 cmc8 cmc9
        have Bc := hide Bwz.out
        go_wp2_with fail
        refine ((lnum_is a).out _).mono ?_
        rintro e w11 ⟨rfl, hb11⟩
        have B11 := hide (next (Bc.out) hb11)
        go_wp2_with fail
        refine ((lnum_is b).out _).mono ?_
        rintro e w12 ⟨rfl, hb12⟩
        have B12 := hide (next (B11.out) hb12)
        rcases hcs.out with ⟨HG, ja, jb⟩ | ⟨HG, ja, jz, jb⟩ | ⟨g, p, s, z, HG, hg, ja, jb, HL, HW1, HW2, hz, HU⟩ | ⟨g, p, s, z, HG, hg, ja, jb, HL, HW1, HW2, hz, HU⟩ | ⟨g, p, s, z, y, HG, hg, ja, jb, HL, HW1, HW2, hy, HU⟩
        · skip
          clear hcs
          replace HG := hide HG
          go_wp2_with fail
          refine (is2 6 ⟨1, a, no⟩ ⟨1, b, no⟩ ⟨4, 2, no⟩ HG.out _ (HT.out.keep (B12.out))).mono ?_
          rintro e w13 ⟨rfl, hb13⟩
          have B13 := hide (next (step (B12.out) _) hb13)
          go_upto_region 19 with fail
          have cg : Hid (O3 (w13.alloc (vO 4 2 no)) (w13.heap.size) (.int .i64 4) (.int .i64 2) (.string no)) := hide (by have h0 := (O3.new w13 (.int .i64 4) (.int .i64 2) (.string no) 26); exact h0)
          obtain ⟨wg, hwg⟩ : ∃ wg, (w13.alloc (vO 4 2 no)) = wg := ⟨_, rfl⟩
          have Bwg := hide (step (B13.out) (vO 4 2 no))
          rw [hwg] at Bwg cg ⊢
          clear hwg
          have heq := va_eq1 4 2 no
          have cgc10 := cell_regrown cg.out.1.1
          have cgc11 := cell_regrown cg.out.1.2.1
          have cgc12 := cell_regrown cg.out.1.2.2
          have kq0 := fun d' os => Calls.regrown_of ((lbad_is 2).out (grow (redrawn wg d') os))
          refine wp_region_quiet_below (by kernel_rfl) (by kernel_rfl) ?_
          repeat (go_big_quiet_step (first | (with_reducible exact kq0 _ _)))
          refine wpQuiet_nil ?_
          intro wq hwq
          have hbq : Below (wg).heap.size wg wq := by obtain ⟨⟨dq, osq⟩, hq⟩ := hwq; rw [hq]; exact below_regrown _ dq osq
          clear hwq cgc10 cgc11 cgc12 kq0
          go_wp2_with fail
          go_ret
          exact ⟨rfl, next (Bwg.out) hbq⟩
        · skip
          clear hcs
          replace HG := hide HG
          go_wp2_with fail
          refine (is2 6 ⟨1, a, no⟩ ⟨1, b, no⟩ ⟨4, 2, no⟩ HG.out _ (HT.out.keep (B12.out))).mono ?_
          rintro e w13 ⟨rfl, hb13⟩
          have B13 := hide (next (step (B12.out) _) hb13)
          go_upto_region 19 with fail
          have cg : Hid (O3 (w13.alloc (vO 4 2 no)) (w13.heap.size) (.int .i64 4) (.int .i64 2) (.string no)) := hide (by have h0 := (O3.new w13 (.int .i64 4) (.int .i64 2) (.string no) 26); exact h0)
          obtain ⟨wg, hwg⟩ : ∃ wg, (w13.alloc (vO 4 2 no)) = wg := ⟨_, rfl⟩
          have Bwg := hide (step (B13.out) (vO 4 2 no))
          rw [hwg] at Bwg cg ⊢
          clear hwg
          have heq := va_eq1 4 2 no
          have cgc10 := cell_regrown cg.out.1.1
          have cgc11 := cell_regrown cg.out.1.2.1
          have cgc12 := cell_regrown cg.out.1.2.2
          have kq0 := fun d' os => Calls.regrown_of ((lbad_is 2).out (grow (redrawn wg d') os))
          refine wp_region_quiet_below (by kernel_rfl) (by kernel_rfl) ?_
          repeat (go_big_quiet_step (first | (with_reducible exact kq0 _ _)))
          refine wpQuiet_nil ?_
          intro wq hwq
          have hbq : Below (wg).heap.size wg wq := by obtain ⟨⟨dq, osq⟩, hq⟩ := hwq; rw [hq]; exact below_regrown _ dq osq
          clear hwq cgc10 cgc11 cgc12 kq0
          go_wp2_with fail
          go_ret
          exact ⟨rfl, next (Bwg.out) hbq⟩
        · skip
          clear hcs
          replace HG := hide HG
          replace HL := hide HL
          go_wp2_with fail
          refine (is2 6 ⟨1, a, no⟩ ⟨1, b, no⟩ ⟨1, g, no⟩ HG.out _ (HT.out.keep (B12.out))).mono ?_
          rintro e w13 ⟨rfl, hb13⟩
          have B13 := hide (next (step (B12.out) _) hb13)
          have g0 : (g == 0) = false := by simp; omega
          go_upto_region 20 with fail
          have cg : Hid (O3 (w13.alloc (vO 1 g no)) (w13.heap.size) (.int .i64 1) (.int .i64 g) (.string no)) := hide (by have h0 := (O3.new w13 (.int .i64 1) (.int .i64 g) (.string no) 26); exact h0)
          obtain ⟨wg, hwg⟩ : ∃ wg, (w13.alloc (vO 1 g no)) = wg := ⟨_, rfl⟩
          have Bwg := hide (step (B13.out) (vO 1 g no))
          rw [hwg] at Bwg cg ⊢
          clear hwg
          have cgc10 := cg.out.1.1
          have cgc11 := cg.out.1.2.1
          have cgc12 := cg.out.1.2.2
          go_wp2_with fail
          refine ((lnum_is a).out _).mono ?_
          rintro e w14 ⟨rfl, hb14⟩
          have B14 := hide (next (Bwg.out) hb14)
          replace cg := hide (cg.out.keep hb14)
          clear cgc10 cgc11 cgc12
          go_wp2_with fail
          refine ((lnum_is b).out _).mono ?_
          rintro e w15 ⟨rfl, hb15⟩
          have B15 := hide (next (B14.out) hb15)
          replace cg := hide (cg.out.keep hb15)
          go_wp2_with fail
          refine (is2 7 ⟨1, a, no⟩ ⟨1, b, no⟩ ⟨1, (z : Int), no⟩ HL.out _ (HT.out.keep (B15.out))).mono ?_
          rintro e w16 ⟨rfl, hb16⟩
          have B16 := hide (next (step (B15.out) _) hb16)
          replace cg := hide ((cg.out.alloc _).keep hb16)
          replace cg := hide ((cg.out.alloc (vO 1 (z : Int) no)))
          have cl : Hid (O3 (w16.alloc (vO 1 (z : Int) no)) (w16.heap.size) (.int .i64 1) (.int .i64 (z : Int)) (.string no)) := hide (by have h0 := (O3.new w16 (.int .i64 1) (.int .i64 (z : Int)) (.string no) 26); exact h0)
          have cgc13 := cg.out.1.1
          have cgc14 := cg.out.1.2.1
          have cgc15 := cg.out.1.2.2
          go_wp2_with fail
          refine (HW1.out _).mono ?_
          rintro e w17 ⟨rfl, hb17⟩
          have B17 := hide (next (step (B16.out) (vO 1 (z : Int) no)) hb17)
          replace cg := hide (cg.out.keep hb17)
          replace cl := hide (cl.out.keep hb17)
          clear cgc13 cgc14 cgc15
          go_wp2_with fail
          refine (HW2.out _).mono ?_
          rintro e w18 ⟨rfl, hb18⟩
          have B18 := hide (next (B17.out) hb18)
          replace cg := hide (cg.out.keep hb18)
          replace cl := hide (cl.out.keep hb18)
          go_wp2_with fail
          refine (HU.out _).mono ?_
          rintro e w19 ⟨rfl, hb19⟩
          have B19 := hide (next (B18.out) hb19)
          replace cg := hide (cg.out.keep hb19)
          replace cl := hide (cl.out.keep hb19)
          have j5 : ¬ (9223372036854775807 : Int) < (z : Int) := by omega
          have hcv : wrap64 (z : Int) = (z : Int) := IntWalk.wrap64_in _ ⟨by omega, by omega⟩
          have heq := va_eq1 1 (z : Int) no
          go_upto_region 26 with fail
          have clc16 := cell_regrown cl.out.1.1
          have clc17 := cell_regrown cl.out.1.2.1
          have clc18 := cell_regrown cl.out.1.2.2
          have kq0 := fun d' os => Calls.regrown_of ((lnum_is (z : Int)).out (grow (redrawn w19 d') os))
          refine wp_region_quiet_below (by kernel_rfl) (by kernel_rfl) ?_
          repeat (go_big_quiet_step (first | (with_reducible exact kq0 _ _)))
          refine wpQuiet_nil ?_
          intro wq hwq
          have hbq : Below (w19).heap.size w19 wq := by obtain ⟨⟨dq, osq⟩, hq⟩ := hwq; rw [hq]; exact below_regrown _ dq osq
          clear hwq clc16 clc17 clc18 kq0
          go_wp2_with fail
          go_ret
          exact ⟨rfl, next (B19.out) hbq⟩
        · skip
          clear hcs
          replace HG := hide HG
          replace HL := hide HL
          go_wp2_with fail
          refine (is2 6 ⟨1, a, no⟩ ⟨1, b, no⟩ ⟨1, g, no⟩ HG.out _ (HT.out.keep (B12.out))).mono ?_
          rintro e w13 ⟨rfl, hb13⟩
          have B13 := hide (next (step (B12.out) _) hb13)
          have g0 : (g == 0) = false := by simp; omega
          go_upto_region 20 with fail
          have cg : Hid (O3 (w13.alloc (vO 1 g no)) (w13.heap.size) (.int .i64 1) (.int .i64 g) (.string no)) := hide (by have h0 := (O3.new w13 (.int .i64 1) (.int .i64 g) (.string no) 26); exact h0)
          obtain ⟨wg, hwg⟩ : ∃ wg, (w13.alloc (vO 1 g no)) = wg := ⟨_, rfl⟩
          have Bwg := hide (step (B13.out) (vO 1 g no))
          rw [hwg] at Bwg cg ⊢
          clear hwg
          have cgc10 := cg.out.1.1
          have cgc11 := cg.out.1.2.1
          have cgc12 := cg.out.1.2.2
          go_wp2_with fail
          refine ((lnum_is a).out _).mono ?_
          rintro e w14 ⟨rfl, hb14⟩
          have B14 := hide (next (Bwg.out) hb14)
          replace cg := hide (cg.out.keep hb14)
          clear cgc10 cgc11 cgc12
          go_wp2_with fail
          refine ((lnum_is b).out _).mono ?_
          rintro e w15 ⟨rfl, hb15⟩
          have B15 := hide (next (B14.out) hb15)
          replace cg := hide (cg.out.keep hb15)
          go_wp2_with fail
          refine (is2 7 ⟨1, a, no⟩ ⟨1, b, no⟩ ⟨4, 2, no⟩ HL.out _ (HT.out.keep (B15.out))).mono ?_
          rintro e w16 ⟨rfl, hb16⟩
          have B16 := hide (next (step (B15.out) _) hb16)
          replace cg := hide ((cg.out.alloc _).keep hb16)
          replace cg := hide ((cg.out.alloc (vO 4 2 no)))
          have cl : Hid (O3 (w16.alloc (vO 4 2 no)) (w16.heap.size) (.int .i64 4) (.int .i64 2) (.string no)) := hide (by have h0 := (O3.new w16 (.int .i64 4) (.int .i64 2) (.string no) 26); exact h0)
          have cgc13 := cg.out.1.1
          have cgc14 := cg.out.1.2.1
          have cgc15 := cg.out.1.2.2
          go_wp2_with fail
          refine (HW1.out _).mono ?_
          rintro e w17 ⟨rfl, hb17⟩
          have B17 := hide (next (step (B16.out) (vO 4 2 no)) hb17)
          replace cg := hide (cg.out.keep hb17)
          replace cl := hide (cl.out.keep hb17)
          clear cgc13 cgc14 cgc15
          go_wp2_with fail
          refine (HW2.out _).mono ?_
          rintro e w18 ⟨rfl, hb18⟩
          have B18 := hide (next (B17.out) hb18)
          replace cg := hide (cg.out.keep hb18)
          replace cl := hide (cl.out.keep hb18)
          go_wp2_with fail
          refine (HU.out _).mono ?_
          rintro e w19 ⟨rfl, hb19⟩
          have B19 := hide (next (B18.out) hb19)
          replace cg := hide (cg.out.keep hb19)
          replace cl := hide (cl.out.keep hb19)
          have j5 : (9223372036854775807 : Int) < (z : Int) := by omega
          have heq := va_eq1 4 2 no
          go_upto_region 25 with fail
          have clc16 := cell_regrown cl.out.1.1
          have clc17 := cell_regrown cl.out.1.2.1
          have clc18 := cell_regrown cl.out.1.2.2
          have kq0 := fun d' os => Calls.regrown_of ((lbad_is 2).out (grow (redrawn w19 d') os))
          refine wp_region_quiet_below (by kernel_rfl) (by kernel_rfl) ?_
          repeat (go_big_quiet_step (first | (with_reducible exact kq0 _ _)))
          refine wpQuiet_nil ?_
          intro wq hwq
          have hbq : Below (w19).heap.size w19 wq := by obtain ⟨⟨dq, osq⟩, hq⟩ := hwq; rw [hq]; exact below_regrown _ dq osq
          clear hwq clc16 clc17 clc18 kq0
          go_wp2_with fail
          go_ret
          exact ⟨rfl, next (B19.out) hbq⟩
        · skip
          clear hcs
          replace HG := hide HG
          replace HL := hide HL
          go_wp2_with fail
          refine (is2 6 ⟨1, a, no⟩ ⟨1, b, no⟩ ⟨1, g, no⟩ HG.out _ (HT.out.keep (B12.out))).mono ?_
          rintro e w13 ⟨rfl, hb13⟩
          have B13 := hide (next (step (B12.out) _) hb13)
          have g0 : (g == 0) = false := by simp; omega
          go_upto_region 20 with fail
          have cg : Hid (O3 (w13.alloc (vO 1 g no)) (w13.heap.size) (.int .i64 1) (.int .i64 g) (.string no)) := hide (by have h0 := (O3.new w13 (.int .i64 1) (.int .i64 g) (.string no) 26); exact h0)
          obtain ⟨wg, hwg⟩ : ∃ wg, (w13.alloc (vO 1 g no)) = wg := ⟨_, rfl⟩
          have Bwg := hide (step (B13.out) (vO 1 g no))
          rw [hwg] at Bwg cg ⊢
          clear hwg
          have cgc10 := cg.out.1.1
          have cgc11 := cg.out.1.2.1
          have cgc12 := cg.out.1.2.2
          go_wp2_with fail
          refine ((lnum_is a).out _).mono ?_
          rintro e w14 ⟨rfl, hb14⟩
          have B14 := hide (next (Bwg.out) hb14)
          replace cg := hide (cg.out.keep hb14)
          clear cgc10 cgc11 cgc12
          go_wp2_with fail
          refine ((lnum_is b).out _).mono ?_
          rintro e w15 ⟨rfl, hb15⟩
          have B15 := hide (next (B14.out) hb15)
          replace cg := hide (cg.out.keep hb15)
          go_wp2_with fail
          refine (is2 7 ⟨1, a, no⟩ ⟨1, b, no⟩ ⟨4, 2, no⟩ HL.out _ (HT.out.keep (B15.out))).mono ?_
          rintro e w16 ⟨rfl, hb16⟩
          have B16 := hide (next (step (B15.out) _) hb16)
          replace cg := hide ((cg.out.alloc _).keep hb16)
          replace cg := hide ((cg.out.alloc (vO 4 2 no)))
          have cl : Hid (O3 (w16.alloc (vO 4 2 no)) (w16.heap.size) (.int .i64 4) (.int .i64 2) (.string no)) := hide (by have h0 := (O3.new w16 (.int .i64 4) (.int .i64 2) (.string no) 26); exact h0)
          have cgc13 := cg.out.1.1
          have cgc14 := cg.out.1.2.1
          have cgc15 := cg.out.1.2.2
          go_wp2_with fail
          refine (HW1.out _).mono ?_
          rintro e w17 ⟨rfl, hb17⟩
          have B17 := hide (next (step (B16.out) (vO 4 2 no)) hb17)
          replace cg := hide (cg.out.keep hb17)
          replace cl := hide (cl.out.keep hb17)
          clear cgc13 cgc14 cgc15
          go_wp2_with fail
          refine (HW2.out _).mono ?_
          rintro e w18 ⟨rfl, hb18⟩
          have B18 := hide (next (B17.out) hb18)
          replace cg := hide (cg.out.keep hb18)
          replace cl := hide (cl.out.keep hb18)
          go_wp2_with fail
          refine (HU.out _).mono ?_
          rintro e w19 ⟨rfl, hb19⟩
          have B19 := hide (next (B18.out) hb19)
          replace cg := hide (cg.out.keep hb19)
          replace cl := hide (cl.out.keep hb19)
          have heq := va_eq1 4 2 no
          go_upto_region 25 with fail
          have clc16 := cell_regrown cl.out.1.1
          have clc17 := cell_regrown cl.out.1.2.1
          have clc18 := cell_regrown cl.out.1.2.2
          have kq0 := fun d' os => Calls.regrown_of ((lbad_is 2).out (grow (redrawn w19 d') os))
          refine wp_region_quiet_below (by kernel_rfl) (by kernel_rfl) ?_
          repeat (go_big_quiet_step (first | (with_reducible exact kq0 _ _)))
          refine wpQuiet_nil ?_
          intro wq hwq
          have hbq : Below (w19).heap.size w19 wq := by obtain ⟨⟨dq, osq⟩, hq⟩ := hwq; rw [hq]; exact below_regrown _ dq osq
          clear hwq clc16 clc17 clc18 kq0
          go_wp2_with fail
          go_ret
          exact ⟨rfl, next (B19.out) hbq⟩
theorem cd_bigl (a b q m r qb : Int) (HQ : Hid (FunIs 4 [⟨1, a, no⟩, ⟨1, b, no⟩] ⟨1, q, no⟩)) (HM : Hid (FunIs 3 [⟨1, a, no⟩, ⟨1, b, no⟩] ⟨1, m, no⟩)) (HD : CallIs 12 #[.int .i64 3, vV 1 a no, vV 1 b no] (vV 1 q no)) (hb0 : (b == 0) = false) (hbs : Hid ((0 < b ∧ 0 ≤ m ∧ m < b) ∨ (b < 0 ∧ m ≤ 0 ∧ b < m))) (hln : Hid (¬ (a = -9223372036854775808 ∧ b = -1))) (hqb : Hid (wrap64 (q * b) = qb)) (har : Hid (wrap64 (a - qb) = r)) (hrm : Hid (r = m ∨ (r ≠ m ∧ wrap64 (m - b) = r))) (hrs : Hid (r = 0 ∨ (r < 0 ∧ a < 0) ∨ (0 < r ∧ ¬ a < 0)))  (HG : Hid (FunIs 6 [⟨1, a, no⟩, ⟨1, b, no⟩] ⟨4, 2, no⟩)) (ja : Hid ((a == -9223372036854775808) = true)) (jb : Hid ((b == -9223372036854775808) = true)) : CallB 4 #[.int .i64 a, .int .i64 b] (.bool true) := cd_any a b q m r qb HQ HM HD hb0 hbs hln hqb har hrm hrs (hide (.inl ⟨HG.out, ja.out, jb.out⟩))
theorem cd_bigz (a b q m r qb : Int) (HQ : Hid (FunIs 4 [⟨1, a, no⟩, ⟨1, b, no⟩] ⟨1, q, no⟩)) (HM : Hid (FunIs 3 [⟨1, a, no⟩, ⟨1, b, no⟩] ⟨1, m, no⟩)) (HD : CallIs 12 #[.int .i64 3, vV 1 a no, vV 1 b no] (vV 1 q no)) (hb0 : (b == 0) = false) (hbs : Hid ((0 < b ∧ 0 ≤ m ∧ m < b) ∨ (b < 0 ∧ m ≤ 0 ∧ b < m))) (hln : Hid (¬ (a = -9223372036854775808 ∧ b = -1))) (hqb : Hid (wrap64 (q * b) = qb)) (har : Hid (wrap64 (a - qb) = r)) (hrm : Hid (r = m ∨ (r ≠ m ∧ wrap64 (m - b) = r))) (hrs : Hid (r = 0 ∨ (r < 0 ∧ a < 0) ∨ (0 < r ∧ ¬ a < 0)))  (HG : Hid (FunIs 6 [⟨1, a, no⟩, ⟨1, b, no⟩] ⟨4, 2, no⟩)) (ja : Hid ((a == -9223372036854775808) = false)) (jz : Hid ((a == 0) = true)) (jb : Hid ((b == -9223372036854775808) = true)) : CallB 4 #[.int .i64 a, .int .i64 b] (.bool true) := cd_any a b q m r qb HQ HM HD hb0 hbs hln hqb har hrm hrs (hide (.inr (.inl ⟨HG.out, ja.out, jz.out, jb.out⟩)))
theorem cd_low (a b q m r qb : Int) (HQ : Hid (FunIs 4 [⟨1, a, no⟩, ⟨1, b, no⟩] ⟨1, q, no⟩)) (HM : Hid (FunIs 3 [⟨1, a, no⟩, ⟨1, b, no⟩] ⟨1, m, no⟩)) (HD : CallIs 12 #[.int .i64 3, vV 1 a no, vV 1 b no] (vV 1 q no)) (hb0 : (b == 0) = false) (hbs : Hid ((0 < b ∧ 0 ≤ m ∧ m < b) ∨ (b < 0 ∧ m ≤ 0 ∧ b < m))) (hln : Hid (¬ (a = -9223372036854775808 ∧ b = -1))) (hqb : Hid (wrap64 (q * b) = qb)) (har : Hid (wrap64 (a - qb) = r)) (hrm : Hid (r = m ∨ (r ≠ m ∧ wrap64 (m - b) = r))) (hrs : Hid (r = 0 ∨ (r < 0 ∧ a < 0) ∨ (0 < r ∧ ¬ a < 0))) (g : Int) (p : Int) (s : Int) (z : Nat) (HG : Hid (FunIs 6 [⟨1, a, no⟩, ⟨1, b, no⟩] ⟨1, g, no⟩)) (hg : ¬ g < 1) (ja : (a.tmod g != 0) = false) (jb : (b.tmod g != 0) = false) (HL : Hid (FunIs 7 [⟨1, a, no⟩, ⟨1, b, no⟩] ⟨1, (z : Int), no⟩)) (HW1 : CallIs 15 #[.int .i64 (wrap64 (a.tdiv g))] (.int .u64 p)) (HW2 : CallIs 15 #[.int .i64 b] (.int .u64 s)) (hz : z ≤ 9223372036854775807) (HU : CallIs 14 #[.int .u64 p, .int .u64 s] (.tuple #[.int .u64 0, .int .u64 (z : Int)])) : CallB 4 #[.int .i64 a, .int .i64 b] (.bool true) := cd_any a b q m r qb HQ HM HD hb0 hbs hln hqb har hrm hrs (hide (.inr (.inr (.inl ⟨g, p, s, z, HG.out, hg, ja, jb, HL.out, HW1, HW2, hz, HU⟩))))
theorem cd_mid (a b q m r qb : Int) (HQ : Hid (FunIs 4 [⟨1, a, no⟩, ⟨1, b, no⟩] ⟨1, q, no⟩)) (HM : Hid (FunIs 3 [⟨1, a, no⟩, ⟨1, b, no⟩] ⟨1, m, no⟩)) (HD : CallIs 12 #[.int .i64 3, vV 1 a no, vV 1 b no] (vV 1 q no)) (hb0 : (b == 0) = false) (hbs : Hid ((0 < b ∧ 0 ≤ m ∧ m < b) ∨ (b < 0 ∧ m ≤ 0 ∧ b < m))) (hln : Hid (¬ (a = -9223372036854775808 ∧ b = -1))) (hqb : Hid (wrap64 (q * b) = qb)) (har : Hid (wrap64 (a - qb) = r)) (hrm : Hid (r = m ∨ (r ≠ m ∧ wrap64 (m - b) = r))) (hrs : Hid (r = 0 ∨ (r < 0 ∧ a < 0) ∨ (0 < r ∧ ¬ a < 0))) (g : Int) (p : Int) (s : Int) (z : Nat) (HG : Hid (FunIs 6 [⟨1, a, no⟩, ⟨1, b, no⟩] ⟨1, g, no⟩)) (hg : ¬ g < 1) (ja : (a.tmod g != 0) = false) (jb : (b.tmod g != 0) = false) (HL : Hid (FunIs 7 [⟨1, a, no⟩, ⟨1, b, no⟩] ⟨4, 2, no⟩)) (HW1 : CallIs 15 #[.int .i64 (wrap64 (a.tdiv g))] (.int .u64 p)) (HW2 : CallIs 15 #[.int .i64 b] (.int .u64 s)) (hz : 9223372036854775807 < z) (HU : CallIs 14 #[.int .u64 p, .int .u64 s] (.tuple #[.int .u64 0, .int .u64 (z : Int)])) : CallB 4 #[.int .i64 a, .int .i64 b] (.bool true) := cd_any a b q m r qb HQ HM HD hb0 hbs hln hqb har hrm hrs (hide (.inr (.inr (.inr (.inl ⟨g, p, s, z, HG.out, hg, ja, jb, HL.out, HW1, HW2, hz, HU⟩)))))
theorem cd_high (a b q m r qb : Int) (HQ : Hid (FunIs 4 [⟨1, a, no⟩, ⟨1, b, no⟩] ⟨1, q, no⟩)) (HM : Hid (FunIs 3 [⟨1, a, no⟩, ⟨1, b, no⟩] ⟨1, m, no⟩)) (HD : CallIs 12 #[.int .i64 3, vV 1 a no, vV 1 b no] (vV 1 q no)) (hb0 : (b == 0) = false) (hbs : Hid ((0 < b ∧ 0 ≤ m ∧ m < b) ∨ (b < 0 ∧ m ≤ 0 ∧ b < m))) (hln : Hid (¬ (a = -9223372036854775808 ∧ b = -1))) (hqb : Hid (wrap64 (q * b) = qb)) (har : Hid (wrap64 (a - qb) = r)) (hrm : Hid (r = m ∨ (r ≠ m ∧ wrap64 (m - b) = r))) (hrs : Hid (r = 0 ∨ (r < 0 ∧ a < 0) ∨ (0 < r ∧ ¬ a < 0))) (g : Int) (p : Int) (s : Int) (z : Nat) (y : Nat) (HG : Hid (FunIs 6 [⟨1, a, no⟩, ⟨1, b, no⟩] ⟨1, g, no⟩)) (hg : ¬ g < 1) (ja : (a.tmod g != 0) = false) (jb : (b.tmod g != 0) = false) (HL : Hid (FunIs 7 [⟨1, a, no⟩, ⟨1, b, no⟩] ⟨4, 2, no⟩)) (HW1 : CallIs 15 #[.int .i64 (wrap64 (a.tdiv g))] (.int .u64 p)) (HW2 : CallIs 15 #[.int .i64 b] (.int .u64 s)) (hy : ((y : Int) != 0) = true) (HU : CallIs 14 #[.int .u64 p, .int .u64 s] (.tuple #[.int .u64 (y : Int), .int .u64 (z : Int)])) : CallB 4 #[.int .i64 a, .int .i64 b] (.bool true) := cd_any a b q m r qb HQ HM HD hb0 hbs hln hqb har hrm hrs (hide (.inr (.inr (.inr (.inr (⟨g, p, s, z, y, HG.out, hg, ja, jb, HL.out, HW1, HW2, hy, HU⟩))))))
end Go.Proofs.YtfhgljepnieigaaGreatDoor
