/- CalcOrder: two values that are no errors. -/
import Derived.Test.YtgciccahmbghpaaGreatDoorCoK14
namespace Go.Proofs.YtgciccahmbghpaaGreatDoor
open Go.RowKit Go.Sort
set_option linter.unusedVariables false

set_option maxHeartbeats 8000000 in
set_option maxRecDepth 100000 in
theorem co_cm (x0 x1 : Int) (x2 : ByteArray) (y0 y1 : Int) (y2 : ByteArray) (R : Int → Va) (HBin : ∀ op : Int, 7 ≤ op → op ≤ 12 → CallIs 13 #[.int .i64 op, vV x0 x1 x2, vV y0 y1 y2] (R op).v) (hR7 : Hid (R 7 = ⟨2, 0, no⟩)) (hR8 : Hid (R 8 = ⟨2, 1, no⟩)) (hR9 : Hid (R 9 = ⟨2, 1, no⟩)) (hR10 : Hid (R 10 = ⟨2, 1, no⟩)) (hR11 : Hid (R 11 = ⟨2, 0, no⟩)) (hR12 : Hid (R 12 = ⟨2, 0, no⟩)) (hkx : (x0 == 4) = false) (HMx : CallIs 19 #[vV x0 x1 x2] (.bool true)) (hky : (y0 == 4) = false) (HMy : CallIs 19 #[vV y0 y1 y2] (.bool true)) (HE : CallIs 13 #[.int .i64 7, vV y0 y1 y2, vV x0 x1 x2] (vV 2 0 no)) (HL : CallIs 13 #[.int .i64 11, vV y0 y1 y2, vV x0 x1 x2] (vV 2 1 no)) : CallB 7 #[vV x0 x1 x2, vV y0 y1 y2] (.bool true) := by
  intro w ht
  have HT := hide ht
  clear ht
  replace HBin := hide HBin
  go_enter Tryz.func7, Tryz.ntmps7
  try simp only [List.append]
  go_wp2_with fail
  refine (begun14.out _ ((HT.out.alloc _).alloc _)).mono ?_
  rintro e w1 ⟨rfl, hb1⟩
  have B1 := hide (next (step (step (Below.refl w.heap.size w) _) _) hb1)
  have cx := hide (((O3.new w (.int .i64 x0) (.int .i64 x1) (.string x2) 26).alloc _).keep hb1)
  have cy := hide ((O3.new (w.alloc (vO x0 x1 x2)) (.int .i64 y0) (.int .i64 y1) (.string y2) 26).keep hb1)
  simp only [World.size_alloc] at cy
  clear HT
  go_wp2_with fail
  go_loopw [5, 6] (fun l op wr => ∃ (j : Nat) (va : Option Addr) (vn vc : Nat), j ≤ 6 ∧ l = .slice va vn vc ∧ op = .int .i64 (7 + (j : Int)) ∧ Hid (RowW wr w1.heap.size (.slice va vn vc) ((six R).take j)) ∧ Hid (Below w1.heap.size w1 wr)) (fun _ op _ => 13 - (intOf op).toNat)
  case atStart => exact ⟨0, none, 0, 0, Nat.zero_le _, rfl, rfl, hide (RowW.nil _ _), hide (Below.refl _ _)⟩
  case round =>
    obtain ⟨j, va, vn, vc, hj, rfl, rfl, HR, HW⟩ := hrel
    have ux := hide (cx.out.keep HW.out)
    have uy := hide (cy.out.keep HW.out)
    by_cases hlt : j < 6
    · have p0 : 7 + (j : Int) ≤ 12 := by omega
      have HB1 := HBin.out (7 + (j : Int)) (by omega) p0
      have hst := hide (six_take R j hlt)
      obtain ⟨r, hr⟩ : ∃ r, R (7 + (j : Int)) = r := ⟨_, rfl⟩
      rw [hr] at HB1 hst
      obtain ⟨k, i, t⟩ := r
      have wj : Hid (wrap64 (7 + (j : Int) + 1) = 7 + (j : Int) + 1) := hide (IntWalk.wrap64_in _ ⟨by omega, by omega⟩)
      have hll : Hid (((six R).take j).length < 1000000) := hide (by rw [List.length_take]; have : min j (six R).length ≤ j := Nat.min_le_left _ _; omega)
      clear hr
      have x0 := ux.out.1.1
      have x1 := ux.out.1.2.1
      have x2 := ux.out.1.2.2
      have y0 := uy.out.1.1
      have y1 := uy.out.1.2.1
      have y2 := uy.out.1.2.2
      go_wp2_with fail
      refine (HB1.out _).mono ?_
      rintro e w2 ⟨rfl, hb2⟩
      have HR2 := hide (((HR.out.keep hb2).keep ((Below.refl _ _).alloc (Nat.le_refl _) (vO k i t))).keep ((Below.refl _ _).alloc (Nat.le_refl _) (.cells #[.int .i64 k, .int .i64 i, .string t] 26)))
      have HW2 := hide (step (step (next HW.out hb2) (vO k i t)) (.cells #[.int .i64 k, .int .i64 i, .string t] 26))
      have rg := hide (range_va (w2.alloc (vO k i t)) k i t)
      rw [World.size_alloc] at rg
      clear hb2 x0 x1 x2 y0 y1 y2
      go_wp2_with (first
        | (at_builtin; refine wpList_appV rfl _ _ rfl rfl rfl HR2.out ⟨k, i, t⟩ rg.out hll.out HW2.out.size ?_; intro v3 w3 r1 r2; obtain ⟨va3, vn3, vc3, rfl, hvn3⟩ := r1.shapeN; clear hvn3; have R3 := hide r1; have B3 := hide (grown_below HR2.out HW2.out r2); clear r1 r2))
      refine ⟨⟨j + 1, va3, vn3, vc3, hlt, rfl, by show Value.int .i64 (7 + (j : Int) + 1) = .int .i64 (7 + ((j + 1 : Nat) : Int)); rw [Int.natCast_succ, Int.add_assoc], hide (by rw [hst.out]; exact R3.out), B3⟩, ?_⟩
      exact meas7 hlt
    · obtain rfl : j = 6 := by omega
      clear hlt hj
      have R6 : Hid (RowW wr w1.heap.size (.slice va vn vc) (six R)) := HR
      have BW := hide (next B1.out HW.out)
      obtain rfl : vn = 6 := by obtain ⟨a, n, c, h1, h2⟩ := R6.out.shapeN; simp only [Value.slice.injEq] at h1; rw [h1.2.1, h2]; rfl
      have hv := hide R6.out.vals
      clear HR R6 HW cx cy
      obtain ⟨b, o, rfl, hc⟩ : ∃ b o, va = some ⟨b, o, none⟩ ∧ ∀ (j : Nat) (x : Va), (six R)[j]? = some x → VaAt wr b (o + j * 3) x := by
        rcases hv.out with h | h
        · cases h
        · exact h
      replace hc := hide hc
      clear hv
      have uxc1 := ux.out.1.1
      have uxc2 := ux.out.1.2.1
      have uxc3 := ux.out.1.2.2
      go_wp2_with fail
      refine (HMx.out _).mono ?_
      rintro e w12 ⟨rfl, hb12⟩
      clear uxc1
      clear uxc2
      clear uxc3
      have B12 := hide (next (BW.out) hb12)
      replace ux := hide (ux.out.keep hb12)
      replace uy := hide (uy.out.keep hb12)
      replace hc := hide (fun j x hx => (hc.out j x hx).keep hb12)
      have uxc4 := ux.out.1.1
      have uxc5 := ux.out.1.2.1
      have uxc6 := ux.out.1.2.2
      have uyc7 := uy.out.1.1
      have uyc8 := uy.out.1.2.1
      have uyc9 := uy.out.1.2.2
      go_wp2_with fail
      refine (HMy.out _).mono ?_
      rintro e w23 ⟨rfl, hb23⟩
      clear uxc4
      clear uxc5
      clear uxc6
      clear uyc7
      clear uyc8
      clear uyc9
      have B23 := hide (next (B12.out) hb23)
      replace ux := hide (ux.out.keep hb23)
      replace uy := hide (uy.out.keep hb23)
      replace hc := hide (fun j x hx => (hc.out j x hx).keep hb23)
      have uyc10 := uy.out.1.1
      have uyc11 := uy.out.1.2.1
      have uyc12 := uy.out.1.2.2
      go_wp2_with fail
      clear uyc10
      clear uyc11
      clear uyc12
      go_loopw [10] (fun i wr => ∃ (j : Nat), j ≤ 6 ∧ i = .int .i64 (j : Int) ∧ Hid (Below w23.heap.size w23 wr)) (fun i _ => 6 - (intOf i).toNat)
      case atStart => exact ⟨0, Nat.zero_le _, rfl, hide (Below.refl _ _)⟩
      case round =>
        obtain ⟨j, hj, rfl, HW3⟩ := hrel
        replace hc := hide (fun j x hx => (hc.out j x hx).keep HW3.out)
        by_cases hlt : j < 6
        · have p0 : (j : Int) < 6 := by omega
          have hj6 := hlt
          obtain ⟨y, hy, hyk⟩ : ∃ y, (six R)[j]? = some y ∧ y.k = 2 := by
            match j, hlt with
            | 0, _ => exact ⟨R 7, rfl, by rw [hR7.out]⟩
            | 1, _ => exact ⟨R 8, rfl, by rw [hR8.out]⟩
            | 2, _ => exact ⟨R 9, rfl, by rw [hR9.out]⟩
            | 3, _ => exact ⟨R 10, rfl, by rw [hR10.out]⟩
            | 4, _ => exact ⟨R 11, rfl, by rw [hR11.out]⟩
            | 5, _ => exact ⟨R 12, rfl, by rw [hR12.out]⟩
          have hk0 := (hc.out j y hy).1
          rw [hyk] at hk0
          clear hy hyk
          go_wp2_with fail
          refine ⟨⟨j + 1, hlt, rfl, HW3⟩, ?_⟩
          exact meas6 hlt
        · obtain rfl : j = 6 := by omega
          clear hlt hj
          replace ux := hide (ux.out.keep HW3.out)
          replace uy := hide (uy.out.keep HW3.out)
          have BV := hide (next (B23.out) HW3.out)
          go_upto_region 24 with fail
          have lc00 : (wr).cell? ⟨b, o, none⟩ = some (.int .i64 2) := by have h := hc.out 0 (R 7) rfl; rw [hR7.out] at h; exact h.1
          replace lc00 := cell_regrown lc00
          have lc01 : (wr).cell? ⟨b, o + 1, none⟩ = some (.int .i64 0) := by have h := hc.out 0 (R 7) rfl; rw [hR7.out] at h; exact h.2.1
          replace lc01 := cell_regrown lc01
          have lc02 : (wr).cell? ⟨b, o + 2, none⟩ = some (.string no) := by have h := hc.out 0 (R 7) rfl; rw [hR7.out] at h; exact h.2.2
          replace lc02 := cell_regrown lc02
          have lc10 : (wr).cell? ⟨b, o + 3, none⟩ = some (.int .i64 2) := by have h := hc.out 1 (R 8) rfl; rw [hR8.out] at h; exact h.1
          replace lc10 := cell_regrown lc10
          have lc11 : (wr).cell? ⟨b, o + 4, none⟩ = some (.int .i64 1) := by have h := hc.out 1 (R 8) rfl; rw [hR8.out] at h; exact h.2.1
          replace lc11 := cell_regrown lc11
          have lc12 : (wr).cell? ⟨b, o + 5, none⟩ = some (.string no) := by have h := hc.out 1 (R 8) rfl; rw [hR8.out] at h; exact h.2.2
          replace lc12 := cell_regrown lc12
          have lc20 : (wr).cell? ⟨b, o + 6, none⟩ = some (.int .i64 2) := by have h := hc.out 2 (R 9) rfl; rw [hR9.out] at h; exact h.1
          replace lc20 := cell_regrown lc20
          have lc21 : (wr).cell? ⟨b, o + 7, none⟩ = some (.int .i64 1) := by have h := hc.out 2 (R 9) rfl; rw [hR9.out] at h; exact h.2.1
          replace lc21 := cell_regrown lc21
          have lc22 : (wr).cell? ⟨b, o + 8, none⟩ = some (.string no) := by have h := hc.out 2 (R 9) rfl; rw [hR9.out] at h; exact h.2.2
          replace lc22 := cell_regrown lc22
          have lc30 : (wr).cell? ⟨b, o + 9, none⟩ = some (.int .i64 2) := by have h := hc.out 3 (R 10) rfl; rw [hR10.out] at h; exact h.1
          replace lc30 := cell_regrown lc30
          have lc31 : (wr).cell? ⟨b, o + 10, none⟩ = some (.int .i64 1) := by have h := hc.out 3 (R 10) rfl; rw [hR10.out] at h; exact h.2.1
          replace lc31 := cell_regrown lc31
          have lc32 : (wr).cell? ⟨b, o + 11, none⟩ = some (.string no) := by have h := hc.out 3 (R 10) rfl; rw [hR10.out] at h; exact h.2.2
          replace lc32 := cell_regrown lc32
          have lc40 : (wr).cell? ⟨b, o + 12, none⟩ = some (.int .i64 2) := by have h := hc.out 4 (R 11) rfl; rw [hR11.out] at h; exact h.1
          replace lc40 := cell_regrown lc40
          have lc41 : (wr).cell? ⟨b, o + 13, none⟩ = some (.int .i64 0) := by have h := hc.out 4 (R 11) rfl; rw [hR11.out] at h; exact h.2.1
          replace lc41 := cell_regrown lc41
          have lc42 : (wr).cell? ⟨b, o + 14, none⟩ = some (.string no) := by have h := hc.out 4 (R 11) rfl; rw [hR11.out] at h; exact h.2.2
          replace lc42 := cell_regrown lc42
          have lc50 : (wr).cell? ⟨b, o + 15, none⟩ = some (.int .i64 2) := by have h := hc.out 5 (R 12) rfl; rw [hR12.out] at h; exact h.1
          replace lc50 := cell_regrown lc50
          have lc51 : (wr).cell? ⟨b, o + 16, none⟩ = some (.int .i64 0) := by have h := hc.out 5 (R 12) rfl; rw [hR12.out] at h; exact h.2.1
          replace lc51 := cell_regrown lc51
          have lc52 : (wr).cell? ⟨b, o + 17, none⟩ = some (.string no) := by have h := hc.out 5 (R 12) rfl; rw [hR12.out] at h; exact h.2.2
          replace lc52 := cell_regrown lc52
          refine wp_region_quiet_below (by kernel_rfl) (by kernel_rfl) ?_
          repeat (go_big_quiet_step (fail))
          refine wpQuiet_nil ?_
          intro wq hwq
          have hbq : Below (wr).heap.size wr wq := by obtain ⟨⟨dq, osq⟩, hq⟩ := hwq; rw [hq]; exact below_regrown _ dq osq
          clear hwq lc00 lc01 lc02 lc10 lc11 lc12 lc20 lc21 lc22 lc30 lc31 lc32 lc40 lc41 lc42 lc50 lc51 lc52 
          replace ux := hide (ux.out.keep hbq)
          replace uy := hide (uy.out.keep hbq)
          have Bq := hide (next (BV.out) hbq)
          have uxc13 := ux.out.1.1
          have uxc14 := ux.out.1.2.1
          have uxc15 := ux.out.1.2.2
          have uyc16 := uy.out.1.1
          have uyc17 := uy.out.1.2.1
          have uyc18 := uy.out.1.2.2
          have hfd := va_field
          go_wp2_with fail
          refine (HE.out _).mono ?_
          rintro e w25 ⟨rfl, hb25⟩
          clear uxc13
          clear uxc14
          clear uxc15
          clear uyc16
          clear uyc17
          clear uyc18
          have B25 := hide (next (Bq.out) hb25)
          replace ux := hide (ux.out.keep hb25)
          replace uy := hide (uy.out.keep hb25)
          have uxc19 := ux.out.1.1
          have uxc20 := ux.out.1.2.1
          have uxc21 := ux.out.1.2.2
          have uyc22 := uy.out.1.1
          have uyc23 := uy.out.1.2.1
          have uyc24 := uy.out.1.2.2
          go_wp2_with fail
          refine (HL.out _).mono ?_
          rintro e w26 ⟨rfl, hb26⟩
          clear uxc19
          clear uxc20
          clear uxc21
          clear uyc22
          clear uyc23
          clear uyc24
          have B26 := hide (next (B25.out) hb26)
          replace ux := hide (ux.out.keep hb26)
          replace uy := hide (uy.out.keep hb26)
          go_wp2_with fail
          go_ret
          exact ⟨rfl, B26.out⟩
set_option maxHeartbeats 8000000 in
set_option maxRecDepth 100000 in
theorem co_cz (x0 x1 : Int) (x2 : ByteArray) (y0 y1 : Int) (y2 : ByteArray) (R : Int → Va) (HBin : ∀ op : Int, 7 ≤ op → op ≤ 12 → CallIs 13 #[.int .i64 op, vV x0 x1 x2, vV y0 y1 y2] (R op).v) (hR7 : Hid (R 7 = ⟨2, 1, no⟩)) (hR8 : Hid (R 8 = ⟨2, 0, no⟩)) (hR9 : Hid (R 9 = ⟨2, 0, no⟩)) (hR10 : Hid (R 10 = ⟨2, 1, no⟩)) (hR11 : Hid (R 11 = ⟨2, 0, no⟩)) (hR12 : Hid (R 12 = ⟨2, 1, no⟩)) (hkx : (x0 == 4) = false) (HMx : CallIs 19 #[vV x0 x1 x2] (.bool true)) (hky : (y0 == 4) = false) (HMy : CallIs 19 #[vV y0 y1 y2] (.bool true)) (HE : CallIs 13 #[.int .i64 7, vV y0 y1 y2, vV x0 x1 x2] (vV 2 1 no)) (HL : CallIs 13 #[.int .i64 11, vV y0 y1 y2, vV x0 x1 x2] (vV 2 0 no)) : CallB 7 #[vV x0 x1 x2, vV y0 y1 y2] (.bool true) := by
  intro w ht
  have HT := hide ht
  clear ht
  replace HBin := hide HBin
  go_enter Tryz.func7, Tryz.ntmps7
  try simp only [List.append]
  go_wp2_with fail
  refine (begun14.out _ ((HT.out.alloc _).alloc _)).mono ?_
  rintro e w1 ⟨rfl, hb1⟩
  have B1 := hide (next (step (step (Below.refl w.heap.size w) _) _) hb1)
  have cx := hide (((O3.new w (.int .i64 x0) (.int .i64 x1) (.string x2) 26).alloc _).keep hb1)
  have cy := hide ((O3.new (w.alloc (vO x0 x1 x2)) (.int .i64 y0) (.int .i64 y1) (.string y2) 26).keep hb1)
  simp only [World.size_alloc] at cy
  clear HT
  go_wp2_with fail
  go_loopw [5, 6] (fun l op wr => ∃ (j : Nat) (va : Option Addr) (vn vc : Nat), j ≤ 6 ∧ l = .slice va vn vc ∧ op = .int .i64 (7 + (j : Int)) ∧ Hid (RowW wr w1.heap.size (.slice va vn vc) ((six R).take j)) ∧ Hid (Below w1.heap.size w1 wr)) (fun _ op _ => 13 - (intOf op).toNat)
  case atStart => exact ⟨0, none, 0, 0, Nat.zero_le _, rfl, rfl, hide (RowW.nil _ _), hide (Below.refl _ _)⟩
  case round =>
    obtain ⟨j, va, vn, vc, hj, rfl, rfl, HR, HW⟩ := hrel
    have ux := hide (cx.out.keep HW.out)
    have uy := hide (cy.out.keep HW.out)
    by_cases hlt : j < 6
    · have p0 : 7 + (j : Int) ≤ 12 := by omega
      have HB1 := HBin.out (7 + (j : Int)) (by omega) p0
      have hst := hide (six_take R j hlt)
      obtain ⟨r, hr⟩ : ∃ r, R (7 + (j : Int)) = r := ⟨_, rfl⟩
      rw [hr] at HB1 hst
      obtain ⟨k, i, t⟩ := r
      have wj : Hid (wrap64 (7 + (j : Int) + 1) = 7 + (j : Int) + 1) := hide (IntWalk.wrap64_in _ ⟨by omega, by omega⟩)
      have hll : Hid (((six R).take j).length < 1000000) := hide (by rw [List.length_take]; have : min j (six R).length ≤ j := Nat.min_le_left _ _; omega)
      clear hr
      have x0 := ux.out.1.1
      have x1 := ux.out.1.2.1
      have x2 := ux.out.1.2.2
      have y0 := uy.out.1.1
      have y1 := uy.out.1.2.1
      have y2 := uy.out.1.2.2
      go_wp2_with fail
      refine (HB1.out _).mono ?_
      rintro e w2 ⟨rfl, hb2⟩
      have HR2 := hide (((HR.out.keep hb2).keep ((Below.refl _ _).alloc (Nat.le_refl _) (vO k i t))).keep ((Below.refl _ _).alloc (Nat.le_refl _) (.cells #[.int .i64 k, .int .i64 i, .string t] 26)))
      have HW2 := hide (step (step (next HW.out hb2) (vO k i t)) (.cells #[.int .i64 k, .int .i64 i, .string t] 26))
      have rg := hide (range_va (w2.alloc (vO k i t)) k i t)
      rw [World.size_alloc] at rg
      clear hb2 x0 x1 x2 y0 y1 y2
      go_wp2_with (first
        | (at_builtin; refine wpList_appV rfl _ _ rfl rfl rfl HR2.out ⟨k, i, t⟩ rg.out hll.out HW2.out.size ?_; intro v3 w3 r1 r2; obtain ⟨va3, vn3, vc3, rfl, hvn3⟩ := r1.shapeN; clear hvn3; have R3 := hide r1; have B3 := hide (grown_below HR2.out HW2.out r2); clear r1 r2))
      refine ⟨⟨j + 1, va3, vn3, vc3, hlt, rfl, by show Value.int .i64 (7 + (j : Int) + 1) = .int .i64 (7 + ((j + 1 : Nat) : Int)); rw [Int.natCast_succ, Int.add_assoc], hide (by rw [hst.out]; exact R3.out), B3⟩, ?_⟩
      exact meas7 hlt
    · obtain rfl : j = 6 := by omega
      clear hlt hj
      have R6 : Hid (RowW wr w1.heap.size (.slice va vn vc) (six R)) := HR
      have BW := hide (next B1.out HW.out)
      obtain rfl : vn = 6 := by obtain ⟨a, n, c, h1, h2⟩ := R6.out.shapeN; simp only [Value.slice.injEq] at h1; rw [h1.2.1, h2]; rfl
      have hv := hide R6.out.vals
      clear HR R6 HW cx cy
      obtain ⟨b, o, rfl, hc⟩ : ∃ b o, va = some ⟨b, o, none⟩ ∧ ∀ (j : Nat) (x : Va), (six R)[j]? = some x → VaAt wr b (o + j * 3) x := by
        rcases hv.out with h | h
        · cases h
        · exact h
      replace hc := hide hc
      clear hv
      have uxc1 := ux.out.1.1
      have uxc2 := ux.out.1.2.1
      have uxc3 := ux.out.1.2.2
      go_wp2_with fail
      refine (HMx.out _).mono ?_
      rintro e w12 ⟨rfl, hb12⟩
      clear uxc1
      clear uxc2
      clear uxc3
      have B12 := hide (next (BW.out) hb12)
      replace ux := hide (ux.out.keep hb12)
      replace uy := hide (uy.out.keep hb12)
      replace hc := hide (fun j x hx => (hc.out j x hx).keep hb12)
      have uxc4 := ux.out.1.1
      have uxc5 := ux.out.1.2.1
      have uxc6 := ux.out.1.2.2
      have uyc7 := uy.out.1.1
      have uyc8 := uy.out.1.2.1
      have uyc9 := uy.out.1.2.2
      go_wp2_with fail
      refine (HMy.out _).mono ?_
      rintro e w23 ⟨rfl, hb23⟩
      clear uxc4
      clear uxc5
      clear uxc6
      clear uyc7
      clear uyc8
      clear uyc9
      have B23 := hide (next (B12.out) hb23)
      replace ux := hide (ux.out.keep hb23)
      replace uy := hide (uy.out.keep hb23)
      replace hc := hide (fun j x hx => (hc.out j x hx).keep hb23)
      have uyc10 := uy.out.1.1
      have uyc11 := uy.out.1.2.1
      have uyc12 := uy.out.1.2.2
      go_wp2_with fail
      clear uyc10
      clear uyc11
      clear uyc12
      go_loopw [10] (fun i wr => ∃ (j : Nat), j ≤ 6 ∧ i = .int .i64 (j : Int) ∧ Hid (Below w23.heap.size w23 wr)) (fun i _ => 6 - (intOf i).toNat)
      case atStart => exact ⟨0, Nat.zero_le _, rfl, hide (Below.refl _ _)⟩
      case round =>
        obtain ⟨j, hj, rfl, HW3⟩ := hrel
        replace hc := hide (fun j x hx => (hc.out j x hx).keep HW3.out)
        by_cases hlt : j < 6
        · have p0 : (j : Int) < 6 := by omega
          have hj6 := hlt
          obtain ⟨y, hy, hyk⟩ : ∃ y, (six R)[j]? = some y ∧ y.k = 2 := by
            match j, hlt with
            | 0, _ => exact ⟨R 7, rfl, by rw [hR7.out]⟩
            | 1, _ => exact ⟨R 8, rfl, by rw [hR8.out]⟩
            | 2, _ => exact ⟨R 9, rfl, by rw [hR9.out]⟩
            | 3, _ => exact ⟨R 10, rfl, by rw [hR10.out]⟩
            | 4, _ => exact ⟨R 11, rfl, by rw [hR11.out]⟩
            | 5, _ => exact ⟨R 12, rfl, by rw [hR12.out]⟩
          have hk0 := (hc.out j y hy).1
          rw [hyk] at hk0
          clear hy hyk
          go_wp2_with fail
          refine ⟨⟨j + 1, hlt, rfl, HW3⟩, ?_⟩
          exact meas6 hlt
        · obtain rfl : j = 6 := by omega
          clear hlt hj
          replace ux := hide (ux.out.keep HW3.out)
          replace uy := hide (uy.out.keep HW3.out)
          have BV := hide (next (B23.out) HW3.out)
          go_upto_region 24 with fail
          have lc00 : (wr).cell? ⟨b, o, none⟩ = some (.int .i64 2) := by have h := hc.out 0 (R 7) rfl; rw [hR7.out] at h; exact h.1
          replace lc00 := cell_regrown lc00
          have lc01 : (wr).cell? ⟨b, o + 1, none⟩ = some (.int .i64 1) := by have h := hc.out 0 (R 7) rfl; rw [hR7.out] at h; exact h.2.1
          replace lc01 := cell_regrown lc01
          have lc02 : (wr).cell? ⟨b, o + 2, none⟩ = some (.string no) := by have h := hc.out 0 (R 7) rfl; rw [hR7.out] at h; exact h.2.2
          replace lc02 := cell_regrown lc02
          have lc10 : (wr).cell? ⟨b, o + 3, none⟩ = some (.int .i64 2) := by have h := hc.out 1 (R 8) rfl; rw [hR8.out] at h; exact h.1
          replace lc10 := cell_regrown lc10
          have lc11 : (wr).cell? ⟨b, o + 4, none⟩ = some (.int .i64 0) := by have h := hc.out 1 (R 8) rfl; rw [hR8.out] at h; exact h.2.1
          replace lc11 := cell_regrown lc11
          have lc12 : (wr).cell? ⟨b, o + 5, none⟩ = some (.string no) := by have h := hc.out 1 (R 8) rfl; rw [hR8.out] at h; exact h.2.2
          replace lc12 := cell_regrown lc12
          have lc20 : (wr).cell? ⟨b, o + 6, none⟩ = some (.int .i64 2) := by have h := hc.out 2 (R 9) rfl; rw [hR9.out] at h; exact h.1
          replace lc20 := cell_regrown lc20
          have lc21 : (wr).cell? ⟨b, o + 7, none⟩ = some (.int .i64 0) := by have h := hc.out 2 (R 9) rfl; rw [hR9.out] at h; exact h.2.1
          replace lc21 := cell_regrown lc21
          have lc22 : (wr).cell? ⟨b, o + 8, none⟩ = some (.string no) := by have h := hc.out 2 (R 9) rfl; rw [hR9.out] at h; exact h.2.2
          replace lc22 := cell_regrown lc22
          have lc30 : (wr).cell? ⟨b, o + 9, none⟩ = some (.int .i64 2) := by have h := hc.out 3 (R 10) rfl; rw [hR10.out] at h; exact h.1
          replace lc30 := cell_regrown lc30
          have lc31 : (wr).cell? ⟨b, o + 10, none⟩ = some (.int .i64 1) := by have h := hc.out 3 (R 10) rfl; rw [hR10.out] at h; exact h.2.1
          replace lc31 := cell_regrown lc31
          have lc32 : (wr).cell? ⟨b, o + 11, none⟩ = some (.string no) := by have h := hc.out 3 (R 10) rfl; rw [hR10.out] at h; exact h.2.2
          replace lc32 := cell_regrown lc32
          have lc40 : (wr).cell? ⟨b, o + 12, none⟩ = some (.int .i64 2) := by have h := hc.out 4 (R 11) rfl; rw [hR11.out] at h; exact h.1
          replace lc40 := cell_regrown lc40
          have lc41 : (wr).cell? ⟨b, o + 13, none⟩ = some (.int .i64 0) := by have h := hc.out 4 (R 11) rfl; rw [hR11.out] at h; exact h.2.1
          replace lc41 := cell_regrown lc41
          have lc42 : (wr).cell? ⟨b, o + 14, none⟩ = some (.string no) := by have h := hc.out 4 (R 11) rfl; rw [hR11.out] at h; exact h.2.2
          replace lc42 := cell_regrown lc42
          have lc50 : (wr).cell? ⟨b, o + 15, none⟩ = some (.int .i64 2) := by have h := hc.out 5 (R 12) rfl; rw [hR12.out] at h; exact h.1
          replace lc50 := cell_regrown lc50
          have lc51 : (wr).cell? ⟨b, o + 16, none⟩ = some (.int .i64 1) := by have h := hc.out 5 (R 12) rfl; rw [hR12.out] at h; exact h.2.1
          replace lc51 := cell_regrown lc51
          have lc52 : (wr).cell? ⟨b, o + 17, none⟩ = some (.string no) := by have h := hc.out 5 (R 12) rfl; rw [hR12.out] at h; exact h.2.2
          replace lc52 := cell_regrown lc52
          refine wp_region_quiet_below (by kernel_rfl) (by kernel_rfl) ?_
          repeat (go_big_quiet_step (fail))
          refine wpQuiet_nil ?_
          intro wq hwq
          have hbq : Below (wr).heap.size wr wq := by obtain ⟨⟨dq, osq⟩, hq⟩ := hwq; rw [hq]; exact below_regrown _ dq osq
          clear hwq lc00 lc01 lc02 lc10 lc11 lc12 lc20 lc21 lc22 lc30 lc31 lc32 lc40 lc41 lc42 lc50 lc51 lc52 
          replace ux := hide (ux.out.keep hbq)
          replace uy := hide (uy.out.keep hbq)
          have Bq := hide (next (BV.out) hbq)
          have uxc13 := ux.out.1.1
          have uxc14 := ux.out.1.2.1
          have uxc15 := ux.out.1.2.2
          have uyc16 := uy.out.1.1
          have uyc17 := uy.out.1.2.1
          have uyc18 := uy.out.1.2.2
          have hfd := va_field
          go_wp2_with fail
          refine (HE.out _).mono ?_
          rintro e w25 ⟨rfl, hb25⟩
          clear uxc13
          clear uxc14
          clear uxc15
          clear uyc16
          clear uyc17
          clear uyc18
          have B25 := hide (next (Bq.out) hb25)
          replace ux := hide (ux.out.keep hb25)
          replace uy := hide (uy.out.keep hb25)
          have uxc19 := ux.out.1.1
          have uxc20 := ux.out.1.2.1
          have uxc21 := ux.out.1.2.2
          have uyc22 := uy.out.1.1
          have uyc23 := uy.out.1.2.1
          have uyc24 := uy.out.1.2.2
          go_wp2_with fail
          refine (HL.out _).mono ?_
          rintro e w26 ⟨rfl, hb26⟩
          clear uxc19
          clear uxc20
          clear uxc21
          clear uyc22
          clear uyc23
          clear uyc24
          have B26 := hide (next (B25.out) hb26)
          replace ux := hide (ux.out.keep hb26)
          replace uy := hide (uy.out.keep hb26)
          go_wp2_with fail
          go_ret
          exact ⟨rfl, B26.out⟩
set_option maxHeartbeats 8000000 in
set_option maxRecDepth 100000 in
theorem co_cp (x0 x1 : Int) (x2 : ByteArray) (y0 y1 : Int) (y2 : ByteArray) (R : Int → Va) (HBin : ∀ op : Int, 7 ≤ op → op ≤ 12 → CallIs 13 #[.int .i64 op, vV x0 x1 x2, vV y0 y1 y2] (R op).v) (hR7 : Hid (R 7 = ⟨2, 0, no⟩)) (hR8 : Hid (R 8 = ⟨2, 1, no⟩)) (hR9 : Hid (R 9 = ⟨2, 0, no⟩)) (hR10 : Hid (R 10 = ⟨2, 0, no⟩)) (hR11 : Hid (R 11 = ⟨2, 1, no⟩)) (hR12 : Hid (R 12 = ⟨2, 1, no⟩)) (hkx : (x0 == 4) = false) (HMx : CallIs 19 #[vV x0 x1 x2] (.bool true)) (hky : (y0 == 4) = false) (HMy : CallIs 19 #[vV y0 y1 y2] (.bool true)) (HE : CallIs 13 #[.int .i64 7, vV y0 y1 y2, vV x0 x1 x2] (vV 2 0 no)) (HL : CallIs 13 #[.int .i64 11, vV y0 y1 y2, vV x0 x1 x2] (vV 2 0 no)) : CallB 7 #[vV x0 x1 x2, vV y0 y1 y2] (.bool true) := by
  intro w ht
  have HT := hide ht
  clear ht
  replace HBin := hide HBin
  go_enter Tryz.func7, Tryz.ntmps7
  try simp only [List.append]
  go_wp2_with fail
  refine (begun14.out _ ((HT.out.alloc _).alloc _)).mono ?_
  rintro e w1 ⟨rfl, hb1⟩
  have B1 := hide (next (step (step (Below.refl w.heap.size w) _) _) hb1)
  have cx := hide (((O3.new w (.int .i64 x0) (.int .i64 x1) (.string x2) 26).alloc _).keep hb1)
  have cy := hide ((O3.new (w.alloc (vO x0 x1 x2)) (.int .i64 y0) (.int .i64 y1) (.string y2) 26).keep hb1)
  simp only [World.size_alloc] at cy
  clear HT
  go_wp2_with fail
  go_loopw [5, 6] (fun l op wr => ∃ (j : Nat) (va : Option Addr) (vn vc : Nat), j ≤ 6 ∧ l = .slice va vn vc ∧ op = .int .i64 (7 + (j : Int)) ∧ Hid (RowW wr w1.heap.size (.slice va vn vc) ((six R).take j)) ∧ Hid (Below w1.heap.size w1 wr)) (fun _ op _ => 13 - (intOf op).toNat)
  case atStart => exact ⟨0, none, 0, 0, Nat.zero_le _, rfl, rfl, hide (RowW.nil _ _), hide (Below.refl _ _)⟩
  case round =>
    obtain ⟨j, va, vn, vc, hj, rfl, rfl, HR, HW⟩ := hrel
    have ux := hide (cx.out.keep HW.out)
    have uy := hide (cy.out.keep HW.out)
    by_cases hlt : j < 6
    · have p0 : 7 + (j : Int) ≤ 12 := by omega
      have HB1 := HBin.out (7 + (j : Int)) (by omega) p0
      have hst := hide (six_take R j hlt)
      obtain ⟨r, hr⟩ : ∃ r, R (7 + (j : Int)) = r := ⟨_, rfl⟩
      rw [hr] at HB1 hst
      obtain ⟨k, i, t⟩ := r
      have wj : Hid (wrap64 (7 + (j : Int) + 1) = 7 + (j : Int) + 1) := hide (IntWalk.wrap64_in _ ⟨by omega, by omega⟩)
      have hll : Hid (((six R).take j).length < 1000000) := hide (by rw [List.length_take]; have : min j (six R).length ≤ j := Nat.min_le_left _ _; omega)
      clear hr
      have x0 := ux.out.1.1
      have x1 := ux.out.1.2.1
      have x2 := ux.out.1.2.2
      have y0 := uy.out.1.1
      have y1 := uy.out.1.2.1
      have y2 := uy.out.1.2.2
      go_wp2_with fail
      refine (HB1.out _).mono ?_
      rintro e w2 ⟨rfl, hb2⟩
      have HR2 := hide (((HR.out.keep hb2).keep ((Below.refl _ _).alloc (Nat.le_refl _) (vO k i t))).keep ((Below.refl _ _).alloc (Nat.le_refl _) (.cells #[.int .i64 k, .int .i64 i, .string t] 26)))
      have HW2 := hide (step (step (next HW.out hb2) (vO k i t)) (.cells #[.int .i64 k, .int .i64 i, .string t] 26))
      have rg := hide (range_va (w2.alloc (vO k i t)) k i t)
      rw [World.size_alloc] at rg
      clear hb2 x0 x1 x2 y0 y1 y2
      go_wp2_with (first
        | (at_builtin; refine wpList_appV rfl _ _ rfl rfl rfl HR2.out ⟨k, i, t⟩ rg.out hll.out HW2.out.size ?_; intro v3 w3 r1 r2; obtain ⟨va3, vn3, vc3, rfl, hvn3⟩ := r1.shapeN; clear hvn3; have R3 := hide r1; have B3 := hide (grown_below HR2.out HW2.out r2); clear r1 r2))
      refine ⟨⟨j + 1, va3, vn3, vc3, hlt, rfl, by show Value.int .i64 (7 + (j : Int) + 1) = .int .i64 (7 + ((j + 1 : Nat) : Int)); rw [Int.natCast_succ, Int.add_assoc], hide (by rw [hst.out]; exact R3.out), B3⟩, ?_⟩
      exact meas7 hlt
    · obtain rfl : j = 6 := by omega
      clear hlt hj
      have R6 : Hid (RowW wr w1.heap.size (.slice va vn vc) (six R)) := HR
      have BW := hide (next B1.out HW.out)
      obtain rfl : vn = 6 := by obtain ⟨a, n, c, h1, h2⟩ := R6.out.shapeN; simp only [Value.slice.injEq] at h1; rw [h1.2.1, h2]; rfl
      have hv := hide R6.out.vals
      clear HR R6 HW cx cy
      obtain ⟨b, o, rfl, hc⟩ : ∃ b o, va = some ⟨b, o, none⟩ ∧ ∀ (j : Nat) (x : Va), (six R)[j]? = some x → VaAt wr b (o + j * 3) x := by
        rcases hv.out with h | h
        · cases h
        · exact h
      replace hc := hide hc
      clear hv
      have uxc1 := ux.out.1.1
      have uxc2 := ux.out.1.2.1
      have uxc3 := ux.out.1.2.2
      go_wp2_with fail
      refine (HMx.out _).mono ?_
      rintro e w12 ⟨rfl, hb12⟩
      clear uxc1
      clear uxc2
      clear uxc3
      have B12 := hide (next (BW.out) hb12)
      replace ux := hide (ux.out.keep hb12)
      replace uy := hide (uy.out.keep hb12)
      replace hc := hide (fun j x hx => (hc.out j x hx).keep hb12)
      have uxc4 := ux.out.1.1
      have uxc5 := ux.out.1.2.1
      have uxc6 := ux.out.1.2.2
      have uyc7 := uy.out.1.1
      have uyc8 := uy.out.1.2.1
      have uyc9 := uy.out.1.2.2
      go_wp2_with fail
      refine (HMy.out _).mono ?_
      rintro e w23 ⟨rfl, hb23⟩
      clear uxc4
      clear uxc5
      clear uxc6
      clear uyc7
      clear uyc8
      clear uyc9
      have B23 := hide (next (B12.out) hb23)
      replace ux := hide (ux.out.keep hb23)
      replace uy := hide (uy.out.keep hb23)
      replace hc := hide (fun j x hx => (hc.out j x hx).keep hb23)
      have uyc10 := uy.out.1.1
      have uyc11 := uy.out.1.2.1
      have uyc12 := uy.out.1.2.2
      go_wp2_with fail
      clear uyc10
      clear uyc11
      clear uyc12
      go_loopw [10] (fun i wr => ∃ (j : Nat), j ≤ 6 ∧ i = .int .i64 (j : Int) ∧ Hid (Below w23.heap.size w23 wr)) (fun i _ => 6 - (intOf i).toNat)
      case atStart => exact ⟨0, Nat.zero_le _, rfl, hide (Below.refl _ _)⟩
      case round =>
        obtain ⟨j, hj, rfl, HW3⟩ := hrel
        replace hc := hide (fun j x hx => (hc.out j x hx).keep HW3.out)
        by_cases hlt : j < 6
        · have p0 : (j : Int) < 6 := by omega
          have hj6 := hlt
          obtain ⟨y, hy, hyk⟩ : ∃ y, (six R)[j]? = some y ∧ y.k = 2 := by
            match j, hlt with
            | 0, _ => exact ⟨R 7, rfl, by rw [hR7.out]⟩
            | 1, _ => exact ⟨R 8, rfl, by rw [hR8.out]⟩
            | 2, _ => exact ⟨R 9, rfl, by rw [hR9.out]⟩
            | 3, _ => exact ⟨R 10, rfl, by rw [hR10.out]⟩
            | 4, _ => exact ⟨R 11, rfl, by rw [hR11.out]⟩
            | 5, _ => exact ⟨R 12, rfl, by rw [hR12.out]⟩
          have hk0 := (hc.out j y hy).1
          rw [hyk] at hk0
          clear hy hyk
          go_wp2_with fail
          refine ⟨⟨j + 1, hlt, rfl, HW3⟩, ?_⟩
          exact meas6 hlt
        · obtain rfl : j = 6 := by omega
          clear hlt hj
          replace ux := hide (ux.out.keep HW3.out)
          replace uy := hide (uy.out.keep HW3.out)
          have BV := hide (next (B23.out) HW3.out)
          go_upto_region 24 with fail
          have lc00 : (wr).cell? ⟨b, o, none⟩ = some (.int .i64 2) := by have h := hc.out 0 (R 7) rfl; rw [hR7.out] at h; exact h.1
          replace lc00 := cell_regrown lc00
          have lc01 : (wr).cell? ⟨b, o + 1, none⟩ = some (.int .i64 0) := by have h := hc.out 0 (R 7) rfl; rw [hR7.out] at h; exact h.2.1
          replace lc01 := cell_regrown lc01
          have lc02 : (wr).cell? ⟨b, o + 2, none⟩ = some (.string no) := by have h := hc.out 0 (R 7) rfl; rw [hR7.out] at h; exact h.2.2
          replace lc02 := cell_regrown lc02
          have lc10 : (wr).cell? ⟨b, o + 3, none⟩ = some (.int .i64 2) := by have h := hc.out 1 (R 8) rfl; rw [hR8.out] at h; exact h.1
          replace lc10 := cell_regrown lc10
          have lc11 : (wr).cell? ⟨b, o + 4, none⟩ = some (.int .i64 1) := by have h := hc.out 1 (R 8) rfl; rw [hR8.out] at h; exact h.2.1
          replace lc11 := cell_regrown lc11
          have lc12 : (wr).cell? ⟨b, o + 5, none⟩ = some (.string no) := by have h := hc.out 1 (R 8) rfl; rw [hR8.out] at h; exact h.2.2
          replace lc12 := cell_regrown lc12
          have lc20 : (wr).cell? ⟨b, o + 6, none⟩ = some (.int .i64 2) := by have h := hc.out 2 (R 9) rfl; rw [hR9.out] at h; exact h.1
          replace lc20 := cell_regrown lc20
          have lc21 : (wr).cell? ⟨b, o + 7, none⟩ = some (.int .i64 0) := by have h := hc.out 2 (R 9) rfl; rw [hR9.out] at h; exact h.2.1
          replace lc21 := cell_regrown lc21
          have lc22 : (wr).cell? ⟨b, o + 8, none⟩ = some (.string no) := by have h := hc.out 2 (R 9) rfl; rw [hR9.out] at h; exact h.2.2
          replace lc22 := cell_regrown lc22
          have lc30 : (wr).cell? ⟨b, o + 9, none⟩ = some (.int .i64 2) := by have h := hc.out 3 (R 10) rfl; rw [hR10.out] at h; exact h.1
          replace lc30 := cell_regrown lc30
          have lc31 : (wr).cell? ⟨b, o + 10, none⟩ = some (.int .i64 0) := by have h := hc.out 3 (R 10) rfl; rw [hR10.out] at h; exact h.2.1
          replace lc31 := cell_regrown lc31
          have lc32 : (wr).cell? ⟨b, o + 11, none⟩ = some (.string no) := by have h := hc.out 3 (R 10) rfl; rw [hR10.out] at h; exact h.2.2
          replace lc32 := cell_regrown lc32
          have lc40 : (wr).cell? ⟨b, o + 12, none⟩ = some (.int .i64 2) := by have h := hc.out 4 (R 11) rfl; rw [hR11.out] at h; exact h.1
          replace lc40 := cell_regrown lc40
          have lc41 : (wr).cell? ⟨b, o + 13, none⟩ = some (.int .i64 1) := by have h := hc.out 4 (R 11) rfl; rw [hR11.out] at h; exact h.2.1
          replace lc41 := cell_regrown lc41
          have lc42 : (wr).cell? ⟨b, o + 14, none⟩ = some (.string no) := by have h := hc.out 4 (R 11) rfl; rw [hR11.out] at h; exact h.2.2
          replace lc42 := cell_regrown lc42
          have lc50 : (wr).cell? ⟨b, o + 15, none⟩ = some (.int .i64 2) := by have h := hc.out 5 (R 12) rfl; rw [hR12.out] at h; exact h.1
          replace lc50 := cell_regrown lc50
          have lc51 : (wr).cell? ⟨b, o + 16, none⟩ = some (.int .i64 1) := by have h := hc.out 5 (R 12) rfl; rw [hR12.out] at h; exact h.2.1
          replace lc51 := cell_regrown lc51
          have lc52 : (wr).cell? ⟨b, o + 17, none⟩ = some (.string no) := by have h := hc.out 5 (R 12) rfl; rw [hR12.out] at h; exact h.2.2
          replace lc52 := cell_regrown lc52
          refine wp_region_quiet_below (by kernel_rfl) (by kernel_rfl) ?_
          repeat (go_big_quiet_step (fail))
          refine wpQuiet_nil ?_
          intro wq hwq
          have hbq : Below (wr).heap.size wr wq := by obtain ⟨⟨dq, osq⟩, hq⟩ := hwq; rw [hq]; exact below_regrown _ dq osq
          clear hwq lc00 lc01 lc02 lc10 lc11 lc12 lc20 lc21 lc22 lc30 lc31 lc32 lc40 lc41 lc42 lc50 lc51 lc52 
          replace ux := hide (ux.out.keep hbq)
          replace uy := hide (uy.out.keep hbq)
          have Bq := hide (next (BV.out) hbq)
          have uxc13 := ux.out.1.1
          have uxc14 := ux.out.1.2.1
          have uxc15 := ux.out.1.2.2
          have uyc16 := uy.out.1.1
          have uyc17 := uy.out.1.2.1
          have uyc18 := uy.out.1.2.2
          have hfd := va_field
          go_wp2_with fail
          refine (HE.out _).mono ?_
          rintro e w25 ⟨rfl, hb25⟩
          clear uxc13
          clear uxc14
          clear uxc15
          clear uyc16
          clear uyc17
          clear uyc18
          have B25 := hide (next (Bq.out) hb25)
          replace ux := hide (ux.out.keep hb25)
          replace uy := hide (uy.out.keep hb25)
          have uxc19 := ux.out.1.1
          have uxc20 := ux.out.1.2.1
          have uxc21 := ux.out.1.2.2
          have uyc22 := uy.out.1.1
          have uyc23 := uy.out.1.2.1
          have uyc24 := uy.out.1.2.2
          go_wp2_with fail
          refine (HL.out _).mono ?_
          rintro e w26 ⟨rfl, hb26⟩
          clear uxc19
          clear uxc20
          clear uxc21
          clear uyc22
          clear uyc23
          clear uyc24
          have B26 := hide (next (B25.out) hb26)
          replace ux := hide (ux.out.keep hb26)
          replace uy := hide (uy.out.keep hb26)
          go_wp2_with fail
          go_ret
          exact ⟨rfl, B26.out⟩
end Go.Proofs.YtgciccahmbghpaaGreatDoor
