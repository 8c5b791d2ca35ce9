/- CalcOrder: one of the two is an error, or may not be. -/
import Derived.Test.YtgciccahmbghpaaGreatDoorCoK14
namespace Go.Proofs.YtgciccahmbghpaaGreatDoor
open Go.RowKit Go.Sort
set_option linter.unusedVariables false

set_option maxHeartbeats 8000000 in
set_option maxRecDepth 100000 in
theorem co_x4 (x0 x1 : Int) (x2 : ByteArray) (y0 y1 : Int) (y2 : ByteArray) (R : Int → Va) (HBin : ∀ op : Int, 7 ≤ op → op ≤ 12 → CallIs 13 #[.int .i64 op, vV x0 x1 x2, vV y0 y1 y2] (R op).v) (hR7 : Hid (R 7 = ⟨x0, x1, x2⟩)) (hR12 : Hid (R 12 = ⟨x0, x1, x2⟩)) (hk : (x0 == 4) = true) (HM : CallIs 19 #[vV x0 x1 x2] (.bool true)) (H1 : CallIs 13 #[.int .i64 1, vV x0 x1 x2, vV y0 y1 y2] (vV x0 x1 x2)) (H6 : CallIs 13 #[.int .i64 6, vV x0 x1 x2, vV y0 y1 y2] (vV x0 x1 x2)) : CallB 7 #[vV x0 x1 x2, vV y0 y1 y2] (.bool true) := by
  intro w ht
  have HT := hide ht
  clear ht
  replace HBin := hide HBin
  go_enter Tryz.func7, Tryz.ntmps7
  try simp only [List.append]
  go_wp2_with fail
  refine (begun14.out _ ((HT.out.alloc _).alloc _)).mono ?_
  rintro e w1 ⟨rfl, hb1⟩
  have B1 := hide (next (step (step (Below.refl w.heap.size w) _) _) hb1)
  have cx := hide (((O3.new w (.int .i64 x0) (.int .i64 x1) (.string x2) 26).alloc _).keep hb1)
  have cy := hide ((O3.new (w.alloc (vO x0 x1 x2)) (.int .i64 y0) (.int .i64 y1) (.string y2) 26).keep hb1)
  simp only [World.size_alloc] at cy
  clear HT
  go_wp2_with fail
  go_loopw [5, 6] (fun l op wr => ∃ (j : Nat) (va : Option Addr) (vn vc : Nat), j ≤ 6 ∧ l = .slice va vn vc ∧ op = .int .i64 (7 + (j : Int)) ∧ Hid (RowW wr w1.heap.size (.slice va vn vc) ((six R).take j)) ∧ Hid (Below w1.heap.size w1 wr)) (fun _ op _ => 13 - (intOf op).toNat)
  case atStart => exact ⟨0, none, 0, 0, Nat.zero_le _, rfl, rfl, hide (RowW.nil _ _), hide (Below.refl _ _)⟩
  case round =>
    obtain ⟨j, va, vn, vc, hj, rfl, rfl, HR, HW⟩ := hrel
    have ux := hide (cx.out.keep HW.out)
    have uy := hide (cy.out.keep HW.out)
    by_cases hlt : j < 6
    · have p0 : 7 + (j : Int) ≤ 12 := by omega
      have HB1 := HBin.out (7 + (j : Int)) (by omega) p0
      have hst := hide (six_take R j hlt)
      obtain ⟨r, hr⟩ : ∃ r, R (7 + (j : Int)) = r := ⟨_, rfl⟩
      rw [hr] at HB1 hst
      obtain ⟨k, i, t⟩ := r
      have wj : Hid (wrap64 (7 + (j : Int) + 1) = 7 + (j : Int) + 1) := hide (IntWalk.wrap64_in _ ⟨by omega, by omega⟩)
      have hll : Hid (((six R).take j).length < 1000000) := hide (by rw [List.length_take]; have : min j (six R).length ≤ j := Nat.min_le_left _ _; omega)
      clear hr
      have x0 := ux.out.1.1
      have x1 := ux.out.1.2.1
      have x2 := ux.out.1.2.2
      have y0 := uy.out.1.1
      have y1 := uy.out.1.2.1
      have y2 := uy.out.1.2.2
      go_wp2_with fail
      refine (HB1.out _).mono ?_
      rintro e w2 ⟨rfl, hb2⟩
      have HR2 := hide (((HR.out.keep hb2).keep ((Below.refl _ _).alloc (Nat.le_refl _) (vO k i t))).keep ((Below.refl _ _).alloc (Nat.le_refl _) (.cells #[.int .i64 k, .int .i64 i, .string t] 26)))
      have HW2 := hide (step (step (next HW.out hb2) (vO k i t)) (.cells #[.int .i64 k, .int .i64 i, .string t] 26))
      have rg := hide (range_va (w2.alloc (vO k i t)) k i t)
      rw [World.size_alloc] at rg
      clear hb2 x0 x1 x2 y0 y1 y2
      go_wp2_with (first
        | (at_builtin; refine wpList_appV rfl _ _ rfl rfl rfl HR2.out ⟨k, i, t⟩ rg.out hll.out HW2.out.size ?_; intro v3 w3 r1 r2; obtain ⟨va3, vn3, vc3, rfl, hvn3⟩ := r1.shapeN; clear hvn3; have R3 := hide r1; have B3 := hide (grown_below HR2.out HW2.out r2); clear r1 r2))
      refine ⟨⟨j + 1, va3, vn3, vc3, hlt, rfl, by show Value.int .i64 (7 + (j : Int) + 1) = .int .i64 (7 + ((j + 1 : Nat) : Int)); rw [Int.natCast_succ, Int.add_assoc], hide (by rw [hst.out]; exact R3.out), B3⟩, ?_⟩
      exact meas7 hlt
    · obtain rfl : j = 6 := by omega
      clear hlt hj
      have R6 : Hid (RowW wr w1.heap.size (.slice va vn vc) (six R)) := HR
      have BW := hide (next B1.out HW.out)
      obtain rfl : vn = 6 := by obtain ⟨a, n, c, h1, h2⟩ := R6.out.shapeN; simp only [Value.slice.injEq] at h1; rw [h1.2.1, h2]; rfl
      have hv := hide R6.out.vals
      clear HR R6 HW cx cy
      obtain ⟨b, o, rfl, hc⟩ : ∃ b o, va = some ⟨b, o, none⟩ ∧ ∀ (j : Nat) (x : Va), (six R)[j]? = some x → VaAt wr b (o + j * 3) x := by
        rcases hv.out with h | h
        · cases h
        · exact h
      replace hc := hide hc
      clear hv
      have heq := va_eq x0 x1 x2
      have uxc1 := ux.out.1.1
      have uxc2 := ux.out.1.2.1
      have uxc3 := ux.out.1.2.2
      go_wp2_with fail
      refine (HM.out _).mono ?_
      rintro e w12 ⟨rfl, hb12⟩
      clear uxc1
      clear uxc2
      clear uxc3
      have B12 := hide (next (BW.out) hb12)
      replace ux := hide (ux.out.keep hb12)
      replace uy := hide (uy.out.keep hb12)
      replace hc := hide (fun j x hx => (hc.out j x hx).keep hb12)
      have uxc4 := ux.out.1.1
      have uxc5 := ux.out.1.2.1
      have uxc6 := ux.out.1.2.2
      have hz1 := ux.out.lt
      have hz2 := uy.out.lt
      have hbn : Hid (b ≠ w12.heap.size) := hide (by have h := block_lt_of_cell (hc.out 0 (R 7) rfl).1; show b ≠ _; have h2 : b < w12.heap.size := h; omega)
      replace hc := hide (fun j x hx => (hc.out j x hx).keep ((Below.refl _ _).alloc (Nat.le_refl _) (vO x0 x1 x2)))
      replace ux := hide ((ux.out.alloc (vO x0 x1 x2)))
      replace uy := hide ((uy.out.alloc (vO x0 x1 x2)))
      have cw : Hid (O3 (w12.alloc (vO x0 x1 x2)) (w12.heap.size) (.int .i64 x0) (.int .i64 x1) (.string x2)) := hide (by have h0 := (O3.new w12 (.int .i64 x0) (.int .i64 x1) (.string x2) 26); exact h0)
      have uxc7 := ux.out.1.1
      have uxc8 := ux.out.1.2.1
      have uxc9 := ux.out.1.2.2
      go_wp2_with fail
      refine (HM.out _).mono ?_
      rintro e w23 ⟨rfl, hb23⟩
      clear uxc4
      clear uxc5
      clear uxc6
      clear uxc7
      clear uxc8
      clear uxc9
      have B23 := hide (next (step (B12.out) (vO x0 x1 x2)) hb23)
      replace ux := hide (ux.out.keep hb23)
      replace uy := hide (uy.out.keep hb23)
      replace cw := hide (cw.out.keep hb23)
      replace hc := hide (fun j x hx => (hc.out j x hx).keep hb23)
      go_upto_region 13 with fail
      have lc00 : (w23).cell? ⟨b, o, none⟩ = some (.int .i64 x0) := by have h := hc.out 0 (R 7) rfl; rw [hR7.out] at h; exact h.1
      replace lc00 := cell_regrown lc00
      have lc01 : (w23).cell? ⟨b, o + 1, none⟩ = some (.int .i64 x1) := by have h := hc.out 0 (R 7) rfl; rw [hR7.out] at h; exact h.2.1
      replace lc01 := cell_regrown lc01
      have lc02 : (w23).cell? ⟨b, o + 2, none⟩ = some (.string x2) := by have h := hc.out 0 (R 7) rfl; rw [hR7.out] at h; exact h.2.2
      replace lc02 := cell_regrown lc02
      have lc50 : (w23).cell? ⟨b, o + 15, none⟩ = some (.int .i64 x0) := by have h := hc.out 5 (R 12) rfl; rw [hR12.out] at h; exact h.1
      replace lc50 := cell_regrown lc50
      have lc51 : (w23).cell? ⟨b, o + 16, none⟩ = some (.int .i64 x1) := by have h := hc.out 5 (R 12) rfl; rw [hR12.out] at h; exact h.2.1
      replace lc51 := cell_regrown lc51
      have lc52 : (w23).cell? ⟨b, o + 17, none⟩ = some (.string x2) := by have h := hc.out 5 (R 12) rfl; rw [hR12.out] at h; exact h.2.2
      replace lc52 := cell_regrown lc52
      have uxc10 := cell_regrown ux.out.1.1
      have uxc11 := cell_regrown ux.out.1.2.1
      have uxc12 := cell_regrown ux.out.1.2.2
      have uyc13 := cell_regrown uy.out.1.1
      have uyc14 := cell_regrown uy.out.1.2.1
      have uyc15 := cell_regrown uy.out.1.2.2
      have cwc16 := cell_regrown cw.out.1.1
      have cwc17 := cell_regrown cw.out.1.2.1
      have cwc18 := cell_regrown cw.out.1.2.2
      have kq0 := fun d' os => Calls.regrown_of (H1.out (grow (redrawn w23 d') os))
      have kq1 := fun d' os => Calls.regrown_of (H6.out (grow (redrawn w23 d') os))
      refine wp_region_quiet_below (by kernel_rfl) (by kernel_rfl) ?_
      repeat (go_big_quiet_step (first | (with_reducible exact kq0 _ _) | (with_reducible exact kq1 _ _)))
      refine wpQuiet_nil ?_
      intro wq hwq
      have hbq : Below (w23).heap.size w23 wq := by obtain ⟨⟨dq, osq⟩, hq⟩ := hwq; rw [hq]; exact below_regrown _ dq osq
      clear hwq lc00 lc01 lc02 lc50 lc51 lc52 uxc10 uxc11 uxc12 uyc13 uyc14 uyc15 cwc16 cwc17 cwc18 kq0 kq1
      go_wp2_with fail
      go_ret
      exact ⟨rfl, next (B23.out) hbq⟩
set_option maxHeartbeats 8000000 in
set_option maxRecDepth 100000 in
theorem co_xb (x0 x1 : Int) (x2 : ByteArray) (y0 y1 : Int) (y2 : ByteArray) (R : Int → Va) (HBin : ∀ op : Int, 7 ≤ op → op ≤ 12 → CallIs 13 #[.int .i64 op, vV x0 x1 x2, vV y0 y1 y2] (R op).v) (hR7 : Hid (R 7 = ⟨4, 4, no⟩)) (hR12 : Hid (R 12 = ⟨4, 4, no⟩)) (HM : CallIs 19 #[vV x0 x1 x2] (.bool false)) (H1 : CallIs 13 #[.int .i64 1, vV x0 x1 x2, vV y0 y1 y2] (vV 4 4 no)) (H6 : CallIs 13 #[.int .i64 6, vV x0 x1 x2, vV y0 y1 y2] (vV 4 4 no)) : CallB 7 #[vV x0 x1 x2, vV y0 y1 y2] (.bool true) := by
  intro w ht
  have HT := hide ht
  clear ht
  replace HBin := hide HBin
  go_enter Tryz.func7, Tryz.ntmps7
  try simp only [List.append]
  go_wp2_with fail
  refine (begun14.out _ ((HT.out.alloc _).alloc _)).mono ?_
  rintro e w1 ⟨rfl, hb1⟩
  have B1 := hide (next (step (step (Below.refl w.heap.size w) _) _) hb1)
  have cx := hide (((O3.new w (.int .i64 x0) (.int .i64 x1) (.string x2) 26).alloc _).keep hb1)
  have cy := hide ((O3.new (w.alloc (vO x0 x1 x2)) (.int .i64 y0) (.int .i64 y1) (.string y2) 26).keep hb1)
  simp only [World.size_alloc] at cy
  clear HT
  go_wp2_with fail
  go_loopw [5, 6] (fun l op wr => ∃ (j : Nat) (va : Option Addr) (vn vc : Nat), j ≤ 6 ∧ l = .slice va vn vc ∧ op = .int .i64 (7 + (j : Int)) ∧ Hid (RowW wr w1.heap.size (.slice va vn vc) ((six R).take j)) ∧ Hid (Below w1.heap.size w1 wr)) (fun _ op _ => 13 - (intOf op).toNat)
  case atStart => exact ⟨0, none, 0, 0, Nat.zero_le _, rfl, rfl, hide (RowW.nil _ _), hide (Below.refl _ _)⟩
  case round =>
    obtain ⟨j, va, vn, vc, hj, rfl, rfl, HR, HW⟩ := hrel
    have ux := hide (cx.out.keep HW.out)
    have uy := hide (cy.out.keep HW.out)
    by_cases hlt : j < 6
    · have p0 : 7 + (j : Int) ≤ 12 := by omega
      have HB1 := HBin.out (7 + (j : Int)) (by omega) p0
      have hst := hide (six_take R j hlt)
      obtain ⟨r, hr⟩ : ∃ r, R (7 + (j : Int)) = r := ⟨_, rfl⟩
      rw [hr] at HB1 hst
      obtain ⟨k, i, t⟩ := r
      have wj : Hid (wrap64 (7 + (j : Int) + 1) = 7 + (j : Int) + 1) := hide (IntWalk.wrap64_in _ ⟨by omega, by omega⟩)
      have hll : Hid (((six R).take j).length < 1000000) := hide (by rw [List.length_take]; have : min j (six R).length ≤ j := Nat.min_le_left _ _; omega)
      clear hr
      have x0 := ux.out.1.1
      have x1 := ux.out.1.2.1
      have x2 := ux.out.1.2.2
      have y0 := uy.out.1.1
      have y1 := uy.out.1.2.1
      have y2 := uy.out.1.2.2
      go_wp2_with fail
      refine (HB1.out _).mono ?_
      rintro e w2 ⟨rfl, hb2⟩
      have HR2 := hide (((HR.out.keep hb2).keep ((Below.refl _ _).alloc (Nat.le_refl _) (vO k i t))).keep ((Below.refl _ _).alloc (Nat.le_refl _) (.cells #[.int .i64 k, .int .i64 i, .string t] 26)))
      have HW2 := hide (step (step (next HW.out hb2) (vO k i t)) (.cells #[.int .i64 k, .int .i64 i, .string t] 26))
      have rg := hide (range_va (w2.alloc (vO k i t)) k i t)
      rw [World.size_alloc] at rg
      clear hb2 x0 x1 x2 y0 y1 y2
      go_wp2_with (first
        | (at_builtin; refine wpList_appV rfl _ _ rfl rfl rfl HR2.out ⟨k, i, t⟩ rg.out hll.out HW2.out.size ?_; intro v3 w3 r1 r2; obtain ⟨va3, vn3, vc3, rfl, hvn3⟩ := r1.shapeN; clear hvn3; have R3 := hide r1; have B3 := hide (grown_below HR2.out HW2.out r2); clear r1 r2))
      refine ⟨⟨j + 1, va3, vn3, vc3, hlt, rfl, by show Value.int .i64 (7 + (j : Int) + 1) = .int .i64 (7 + ((j + 1 : Nat) : Int)); rw [Int.natCast_succ, Int.add_assoc], hide (by rw [hst.out]; exact R3.out), B3⟩, ?_⟩
      exact meas7 hlt
    · obtain rfl : j = 6 := by omega
      clear hlt hj
      have R6 : Hid (RowW wr w1.heap.size (.slice va vn vc) (six R)) := HR
      have BW := hide (next B1.out HW.out)
      obtain rfl : vn = 6 := by obtain ⟨a, n, c, h1, h2⟩ := R6.out.shapeN; simp only [Value.slice.injEq] at h1; rw [h1.2.1, h2]; rfl
      have hv := hide R6.out.vals
      clear HR R6 HW cx cy
      obtain ⟨b, o, rfl, hc⟩ : ∃ b o, va = some ⟨b, o, none⟩ ∧ ∀ (j : Nat) (x : Va), (six R)[j]? = some x → VaAt wr b (o + j * 3) x := by
        rcases hv.out with h | h
        · cases h
        · exact h
      replace hc := hide hc
      clear hv
      have heq := va_eq 4 4 no
      have uxc1 := ux.out.1.1
      have uxc2 := ux.out.1.2.1
      have uxc3 := ux.out.1.2.2
      go_wp2_with fail
      refine (HM.out _).mono ?_
      rintro e w12 ⟨rfl, hb12⟩
      clear uxc1
      clear uxc2
      clear uxc3
      have B12 := hide (next (BW.out) hb12)
      replace ux := hide (ux.out.keep hb12)
      replace uy := hide (uy.out.keep hb12)
      replace hc := hide (fun j x hx => (hc.out j x hx).keep hb12)
      have uxc4 := ux.out.1.1
      have uxc5 := ux.out.1.2.1
      have uxc6 := ux.out.1.2.2
      have hz1 := ux.out.lt
      have hz2 := uy.out.lt
      have hbn : Hid (b ≠ w12.heap.size) := hide (by have h := block_lt_of_cell (hc.out 0 (R 7) rfl).1; show b ≠ _; have h2 : b < w12.heap.size := h; omega)
      replace hc := hide (fun j x hx => (hc.out j x hx).keep ((Below.refl _ _).alloc (Nat.le_refl _) (vO x0 x1 x2)))
      replace ux := hide ((ux.out.alloc (vO x0 x1 x2)))
      replace uy := hide ((uy.out.alloc (vO x0 x1 x2)))
      have cw : Hid (O3 (w12.alloc (vO x0 x1 x2)) (w12.heap.size) (.int .i64 x0) (.int .i64 x1) (.string x2)) := hide (by have h0 := (O3.new w12 (.int .i64 x0) (.int .i64 x1) (.string x2) 26); exact h0)
      have uxc7 := ux.out.1.1
      have uxc8 := ux.out.1.2.1
      have uxc9 := ux.out.1.2.2
      go_wp2_with fail
      refine (HM.out _).mono ?_
      rintro e w23 ⟨rfl, hb23⟩
      clear uxc4
      clear uxc5
      clear uxc6
      clear uxc7
      clear uxc8
      clear uxc9
      have B23 := hide (next (step (B12.out) (vO x0 x1 x2)) hb23)
      replace ux := hide (ux.out.keep hb23)
      replace uy := hide (uy.out.keep hb23)
      replace cw := hide (cw.out.keep hb23)
      replace hc := hide (fun j x hx => (hc.out j x hx).keep hb23)
      go_wp2_with fail
      refine ((lbad_is 4).out _).mono ?_
      rintro e w34 ⟨rfl, hb34⟩
      have B34 := hide (next (B23.out) hb34)
      replace ux := hide (ux.out.keep hb34)
      replace uy := hide (uy.out.keep hb34)
      replace cw := hide (cw.out.keep hb34)
      replace hc := hide (fun j x hx => (hc.out j x hx).keep hb34)
      have hbl := block_lt_of_cell (hc.out 0 (R 7) rfl).1
      have cwu110 := cw.out.1.1
      have cwu111 := cw.out.1.2.1
      have cwu112 := cw.out.1.2.2
      have cwu11f := cw.out.2
      have Bq10 := hide (below_put3 (b := w12.heap.size) (B34.out) (by omega) (.int .i64 4) (.int .i64 4) (.string no))
      replace ux := hide (O3.other (b := w12.heap.size) (u0 := .int .i64 4) (u1 := .int .i64 4) (u2 := .string no) ux.out (by omega))
      replace uy := hide (O3.other (b := w12.heap.size) (u0 := .int .i64 4) (u1 := .int .i64 4) (u2 := .string no) uy.out (by omega))
      replace cw := hide (cw.out.put (.int .i64 4) (.int .i64 4) (.string no))
      obtain ⟨wq10, hwq10⟩ : ∃ wq10, put3 (w34) (w12.heap.size) (.int .i64 4) (.int .i64 4) (.string no) = wq10 := ⟨_, rfl⟩
      rw [hwq10] at Bq10 ux uy cw
      unfold put3 at hwq10
      replace hc : Hid (∀ (j : Nat) (x : Va), (six R)[j]? = some x → VaAt wq10 b (o + j * 3) x) := hide (by rw [← hwq10]; exact fun j x hx => VaAt.other (hc.out j x hx) hbn.out)
      go_upto_region 13 with fail
      clear cwu110
      clear cwu111
      clear cwu112
      clear cwu11f
      have lc00 : (wq10).cell? ⟨b, o, none⟩ = some (.int .i64 4) := by have h := hc.out 0 (R 7) rfl; rw [hR7.out] at h; exact h.1
      replace lc00 := cell_regrown lc00
      have lc01 : (wq10).cell? ⟨b, o + 1, none⟩ = some (.int .i64 4) := by have h := hc.out 0 (R 7) rfl; rw [hR7.out] at h; exact h.2.1
      replace lc01 := cell_regrown lc01
      have lc02 : (wq10).cell? ⟨b, o + 2, none⟩ = some (.string no) := by have h := hc.out 0 (R 7) rfl; rw [hR7.out] at h; exact h.2.2
      replace lc02 := cell_regrown lc02
      have lc50 : (wq10).cell? ⟨b, o + 15, none⟩ = some (.int .i64 4) := by have h := hc.out 5 (R 12) rfl; rw [hR12.out] at h; exact h.1
      replace lc50 := cell_regrown lc50
      have lc51 : (wq10).cell? ⟨b, o + 16, none⟩ = some (.int .i64 4) := by have h := hc.out 5 (R 12) rfl; rw [hR12.out] at h; exact h.2.1
      replace lc51 := cell_regrown lc51
      have lc52 : (wq10).cell? ⟨b, o + 17, none⟩ = some (.string no) := by have h := hc.out 5 (R 12) rfl; rw [hR12.out] at h; exact h.2.2
      replace lc52 := cell_regrown lc52
      have uxc12 := cell_regrown ux.out.1.1
      have uxc13 := cell_regrown ux.out.1.2.1
      have uxc14 := cell_regrown ux.out.1.2.2
      have uyc15 := cell_regrown uy.out.1.1
      have uyc16 := cell_regrown uy.out.1.2.1
      have uyc17 := cell_regrown uy.out.1.2.2
      have cwc18 := cell_regrown cw.out.1.1
      have cwc19 := cell_regrown cw.out.1.2.1
      have cwc20 := cell_regrown cw.out.1.2.2
      have kq0 := fun d' os => Calls.regrown_of (H1.out (grow (redrawn wq10 d') os))
      have kq1 := fun d' os => Calls.regrown_of (H6.out (grow (redrawn wq10 d') os))
      refine wp_region_quiet_below (by kernel_rfl) (by kernel_rfl) ?_
      repeat (go_big_quiet_step (first | (with_reducible exact kq0 _ _) | (with_reducible exact kq1 _ _)))
      refine wpQuiet_nil ?_
      intro wq hwq
      have hbq : Below (wq10).heap.size wq10 wq := by obtain ⟨⟨dq, osq⟩, hq⟩ := hwq; rw [hq]; exact below_regrown _ dq osq
      clear hwq lc00 lc01 lc02 lc50 lc51 lc52 uxc12 uxc13 uxc14 uyc15 uyc16 uyc17 cwc18 cwc19 cwc20 kq0 kq1
      go_wp2_with fail
      go_ret
      exact ⟨rfl, next (Bq10.out) hbq⟩
set_option maxHeartbeats 8000000 in
set_option maxRecDepth 100000 in
theorem co_y4 (x0 x1 : Int) (x2 : ByteArray) (y0 y1 : Int) (y2 : ByteArray) (R : Int → Va) (HBin : ∀ op : Int, 7 ≤ op → op ≤ 12 → CallIs 13 #[.int .i64 op, vV x0 x1 x2, vV y0 y1 y2] (R op).v) (hR7 : Hid (R 7 = ⟨y0, y1, y2⟩)) (hR12 : Hid (R 12 = ⟨y0, y1, y2⟩)) (hkx : (x0 == 4) = false) (HMx : CallIs 19 #[vV x0 x1 x2] (.bool true)) (hk : (y0 == 4) = true) (HM : CallIs 19 #[vV y0 y1 y2] (.bool true)) (H2 : CallIs 13 #[.int .i64 2, vV x0 x1 x2, vV y0 y1 y2] (vV y0 y1 y2)) : CallB 7 #[vV x0 x1 x2, vV y0 y1 y2] (.bool true) := by
  intro w ht
  have HT := hide ht
  clear ht
  replace HBin := hide HBin
  go_enter Tryz.func7, Tryz.ntmps7
  try simp only [List.append]
  go_wp2_with fail
  refine (begun14.out _ ((HT.out.alloc _).alloc _)).mono ?_
  rintro e w1 ⟨rfl, hb1⟩
  have B1 := hide (next (step (step (Below.refl w.heap.size w) _) _) hb1)
  have cx := hide (((O3.new w (.int .i64 x0) (.int .i64 x1) (.string x2) 26).alloc _).keep hb1)
  have cy := hide ((O3.new (w.alloc (vO x0 x1 x2)) (.int .i64 y0) (.int .i64 y1) (.string y2) 26).keep hb1)
  simp only [World.size_alloc] at cy
  clear HT
  go_wp2_with fail
  go_loopw [5, 6] (fun l op wr => ∃ (j : Nat) (va : Option Addr) (vn vc : Nat), j ≤ 6 ∧ l = .slice va vn vc ∧ op = .int .i64 (7 + (j : Int)) ∧ Hid (RowW wr w1.heap.size (.slice va vn vc) ((six R).take j)) ∧ Hid (Below w1.heap.size w1 wr)) (fun _ op _ => 13 - (intOf op).toNat)
  case atStart => exact ⟨0, none, 0, 0, Nat.zero_le _, rfl, rfl, hide (RowW.nil _ _), hide (Below.refl _ _)⟩
  case round =>
    obtain ⟨j, va, vn, vc, hj, rfl, rfl, HR, HW⟩ := hrel
    have ux := hide (cx.out.keep HW.out)
    have uy := hide (cy.out.keep HW.out)
    by_cases hlt : j < 6
    · have p0 : 7 + (j : Int) ≤ 12 := by omega
      have HB1 := HBin.out (7 + (j : Int)) (by omega) p0
      have hst := hide (six_take R j hlt)
      obtain ⟨r, hr⟩ : ∃ r, R (7 + (j : Int)) = r := ⟨_, rfl⟩
      rw [hr] at HB1 hst
      obtain ⟨k, i, t⟩ := r
      have wj : Hid (wrap64 (7 + (j : Int) + 1) = 7 + (j : Int) + 1) := hide (IntWalk.wrap64_in _ ⟨by omega, by omega⟩)
      have hll : Hid (((six R).take j).length < 1000000) := hide (by rw [List.length_take]; have : min j (six R).length ≤ j := Nat.min_le_left _ _; omega)
      clear hr
      have x0 := ux.out.1.1
      have x1 := ux.out.1.2.1
      have x2 := ux.out.1.2.2
      have y0 := uy.out.1.1
      have y1 := uy.out.1.2.1
      have y2 := uy.out.1.2.2
      go_wp2_with fail
      refine (HB1.out _).mono ?_
      rintro e w2 ⟨rfl, hb2⟩
      have HR2 := hide (((HR.out.keep hb2).keep ((Below.refl _ _).alloc (Nat.le_refl _) (vO k i t))).keep ((Below.refl _ _).alloc (Nat.le_refl _) (.cells #[.int .i64 k, .int .i64 i, .string t] 26)))
      have HW2 := hide (step (step (next HW.out hb2) (vO k i t)) (.cells #[.int .i64 k, .int .i64 i, .string t] 26))
      have rg := hide (range_va (w2.alloc (vO k i t)) k i t)
      rw [World.size_alloc] at rg
      clear hb2 x0 x1 x2 y0 y1 y2
      go_wp2_with (first
        | (at_builtin; refine wpList_appV rfl _ _ rfl rfl rfl HR2.out ⟨k, i, t⟩ rg.out hll.out HW2.out.size ?_; intro v3 w3 r1 r2; obtain ⟨va3, vn3, vc3, rfl, hvn3⟩ := r1.shapeN; clear hvn3; have R3 := hide r1; have B3 := hide (grown_below HR2.out HW2.out r2); clear r1 r2))
      refine ⟨⟨j + 1, va3, vn3, vc3, hlt, rfl, by show Value.int .i64 (7 + (j : Int) + 1) = .int .i64 (7 + ((j + 1 : Nat) : Int)); rw [Int.natCast_succ, Int.add_assoc], hide (by rw [hst.out]; exact R3.out), B3⟩, ?_⟩
      exact meas7 hlt
    · obtain rfl : j = 6 := by omega
      clear hlt hj
      have R6 : Hid (RowW wr w1.heap.size (.slice va vn vc) (six R)) := HR
      have BW := hide (next B1.out HW.out)
      obtain rfl : vn = 6 := by obtain ⟨a, n, c, h1, h2⟩ := R6.out.shapeN; simp only [Value.slice.injEq] at h1; rw [h1.2.1, h2]; rfl
      have hv := hide R6.out.vals
      clear HR R6 HW cx cy
      obtain ⟨b, o, rfl, hc⟩ : ∃ b o, va = some ⟨b, o, none⟩ ∧ ∀ (j : Nat) (x : Va), (six R)[j]? = some x → VaAt wr b (o + j * 3) x := by
        rcases hv.out with h | h
        · cases h
        · exact h
      replace hc := hide hc
      clear hv
      have heq := va_eq y0 y1 y2
      have uxc1 := ux.out.1.1
      have uxc2 := ux.out.1.2.1
      have uxc3 := ux.out.1.2.2
      go_wp2_with fail
      refine (HMx.out _).mono ?_
      rintro e w12 ⟨rfl, hb12⟩
      clear uxc1
      clear uxc2
      clear uxc3
      have B12 := hide (next (BW.out) hb12)
      replace ux := hide (ux.out.keep hb12)
      replace uy := hide (uy.out.keep hb12)
      replace hc := hide (fun j x hx => (hc.out j x hx).keep hb12)
      have uxc4 := ux.out.1.1
      have uxc5 := ux.out.1.2.1
      have uxc6 := ux.out.1.2.2
      have uyc7 := uy.out.1.1
      have uyc8 := uy.out.1.2.1
      have uyc9 := uy.out.1.2.2
      go_wp2_with fail
      refine (HM.out _).mono ?_
      rintro e w23 ⟨rfl, hb23⟩
      clear uxc4
      clear uxc5
      clear uxc6
      clear uyc7
      clear uyc8
      clear uyc9
      have B23 := hide (next (B12.out) hb23)
      replace ux := hide (ux.out.keep hb23)
      replace uy := hide (uy.out.keep hb23)
      replace hc := hide (fun j x hx => (hc.out j x hx).keep hb23)
      have uyc10 := uy.out.1.1
      have uyc11 := uy.out.1.2.1
      have uyc12 := uy.out.1.2.2
      have hz1 := ux.out.lt
      have hz2 := uy.out.lt
      have hbn : Hid (b ≠ w23.heap.size) := hide (by have h := block_lt_of_cell (hc.out 0 (R 7) rfl).1; show b ≠ _; have h2 : b < w23.heap.size := h; omega)
      replace hc := hide (fun j x hx => (hc.out j x hx).keep ((Below.refl _ _).alloc (Nat.le_refl _) (vO y0 y1 y2)))
      replace ux := hide ((ux.out.alloc (vO y0 y1 y2)))
      replace uy := hide ((uy.out.alloc (vO y0 y1 y2)))
      have cw : Hid (O3 (w23.alloc (vO y0 y1 y2)) (w23.heap.size) (.int .i64 y0) (.int .i64 y1) (.string y2)) := hide (by have h0 := (O3.new w23 (.int .i64 y0) (.int .i64 y1) (.string y2) 26); exact h0)
      have uyc13 := uy.out.1.1
      have uyc14 := uy.out.1.2.1
      have uyc15 := uy.out.1.2.2
      go_wp2_with fail
      refine (HM.out _).mono ?_
      rintro e w34 ⟨rfl, hb34⟩
      clear uyc10
      clear uyc11
      clear uyc12
      clear uyc13
      clear uyc14
      clear uyc15
      have B34 := hide (next (step (B23.out) (vO y0 y1 y2)) hb34)
      replace ux := hide (ux.out.keep hb34)
      replace uy := hide (uy.out.keep hb34)
      replace cw := hide (cw.out.keep hb34)
      replace hc := hide (fun j x hx => (hc.out j x hx).keep hb34)
      go_upto_region 18 with fail
      have lc00 : (w34).cell? ⟨b, o, none⟩ = some (.int .i64 y0) := by have h := hc.out 0 (R 7) rfl; rw [hR7.out] at h; exact h.1
      replace lc00 := cell_regrown lc00
      have lc01 : (w34).cell? ⟨b, o + 1, none⟩ = some (.int .i64 y1) := by have h := hc.out 0 (R 7) rfl; rw [hR7.out] at h; exact h.2.1
      replace lc01 := cell_regrown lc01
      have lc02 : (w34).cell? ⟨b, o + 2, none⟩ = some (.string y2) := by have h := hc.out 0 (R 7) rfl; rw [hR7.out] at h; exact h.2.2
      replace lc02 := cell_regrown lc02
      have lc50 : (w34).cell? ⟨b, o + 15, none⟩ = some (.int .i64 y0) := by have h := hc.out 5 (R 12) rfl; rw [hR12.out] at h; exact h.1
      replace lc50 := cell_regrown lc50
      have lc51 : (w34).cell? ⟨b, o + 16, none⟩ = some (.int .i64 y1) := by have h := hc.out 5 (R 12) rfl; rw [hR12.out] at h; exact h.2.1
      replace lc51 := cell_regrown lc51
      have lc52 : (w34).cell? ⟨b, o + 17, none⟩ = some (.string y2) := by have h := hc.out 5 (R 12) rfl; rw [hR12.out] at h; exact h.2.2
      replace lc52 := cell_regrown lc52
      have uxc16 := cell_regrown ux.out.1.1
      have uxc17 := cell_regrown ux.out.1.2.1
      have uxc18 := cell_regrown ux.out.1.2.2
      have uyc19 := cell_regrown uy.out.1.1
      have uyc20 := cell_regrown uy.out.1.2.1
      have uyc21 := cell_regrown uy.out.1.2.2
      have cwc22 := cell_regrown cw.out.1.1
      have cwc23 := cell_regrown cw.out.1.2.1
      have cwc24 := cell_regrown cw.out.1.2.2
      have kq0 := fun d' os => Calls.regrown_of (H2.out (grow (redrawn w34 d') os))
      refine wp_region_quiet_below (by kernel_rfl) (by kernel_rfl) ?_
      repeat (go_big_quiet_step (first | (with_reducible exact kq0 _ _)))
      refine wpQuiet_nil ?_
      intro wq hwq
      have hbq : Below (w34).heap.size w34 wq := by obtain ⟨⟨dq, osq⟩, hq⟩ := hwq; rw [hq]; exact below_regrown _ dq osq
      clear hwq lc00 lc01 lc02 lc50 lc51 lc52 uxc16 uxc17 uxc18 uyc19 uyc20 uyc21 cwc22 cwc23 cwc24 kq0
      go_wp2_with fail
      go_ret
      exact ⟨rfl, next (B34.out) hbq⟩
set_option maxHeartbeats 8000000 in
set_option maxRecDepth 100000 in
theorem co_yb (x0 x1 : Int) (x2 : ByteArray) (y0 y1 : Int) (y2 : ByteArray) (R : Int → Va) (HBin : ∀ op : Int, 7 ≤ op → op ≤ 12 → CallIs 13 #[.int .i64 op, vV x0 x1 x2, vV y0 y1 y2] (R op).v) (hR7 : Hid (R 7 = ⟨4, 4, no⟩)) (hR12 : Hid (R 12 = ⟨4, 4, no⟩)) (hkx : (x0 == 4) = false) (HMx : CallIs 19 #[vV x0 x1 x2] (.bool true)) (HM : CallIs 19 #[vV y0 y1 y2] (.bool false)) (H2 : CallIs 13 #[.int .i64 2, vV x0 x1 x2, vV y0 y1 y2] (vV 4 4 no)) : CallB 7 #[vV x0 x1 x2, vV y0 y1 y2] (.bool true) := by
  intro w ht
  have HT := hide ht
  clear ht
  replace HBin := hide HBin
  go_enter Tryz.func7, Tryz.ntmps7
  try simp only [List.append]
  go_wp2_with fail
  refine (begun14.out _ ((HT.out.alloc _).alloc _)).mono ?_
  rintro e w1 ⟨rfl, hb1⟩
  have B1 := hide (next (step (step (Below.refl w.heap.size w) _) _) hb1)
  have cx := hide (((O3.new w (.int .i64 x0) (.int .i64 x1) (.string x2) 26).alloc _).keep hb1)
  have cy := hide ((O3.new (w.alloc (vO x0 x1 x2)) (.int .i64 y0) (.int .i64 y1) (.string y2) 26).keep hb1)
  simp only [World.size_alloc] at cy
  clear HT
  go_wp2_with fail
  go_loopw [5, 6] (fun l op wr => ∃ (j : Nat) (va : Option Addr) (vn vc : Nat), j ≤ 6 ∧ l = .slice va vn vc ∧ op = .int .i64 (7 + (j : Int)) ∧ Hid (RowW wr w1.heap.size (.slice va vn vc) ((six R).take j)) ∧ Hid (Below w1.heap.size w1 wr)) (fun _ op _ => 13 - (intOf op).toNat)
  case atStart => exact ⟨0, none, 0, 0, Nat.zero_le _, rfl, rfl, hide (RowW.nil _ _), hide (Below.refl _ _)⟩
  case round =>
    obtain ⟨j, va, vn, vc, hj, rfl, rfl, HR, HW⟩ := hrel
    have ux := hide (cx.out.keep HW.out)
    have uy := hide (cy.out.keep HW.out)
    by_cases hlt : j < 6
    · have p0 : 7 + (j : Int) ≤ 12 := by omega
      have HB1 := HBin.out (7 + (j : Int)) (by omega) p0
      have hst := hide (six_take R j hlt)
      obtain ⟨r, hr⟩ : ∃ r, R (7 + (j : Int)) = r := ⟨_, rfl⟩
      rw [hr] at HB1 hst
      obtain ⟨k, i, t⟩ := r
      have wj : Hid (wrap64 (7 + (j : Int) + 1) = 7 + (j : Int) + 1) := hide (IntWalk.wrap64_in _ ⟨by omega, by omega⟩)
      have hll : Hid (((six R).take j).length < 1000000) := hide (by rw [List.length_take]; have : min j (six R).length ≤ j := Nat.min_le_left _ _; omega)
      clear hr
      have x0 := ux.out.1.1
      have x1 := ux.out.1.2.1
      have x2 := ux.out.1.2.2
      have y0 := uy.out.1.1
      have y1 := uy.out.1.2.1
      have y2 := uy.out.1.2.2
      go_wp2_with fail
      refine (HB1.out _).mono ?_
      rintro e w2 ⟨rfl, hb2⟩
      have HR2 := hide (((HR.out.keep hb2).keep ((Below.refl _ _).alloc (Nat.le_refl _) (vO k i t))).keep ((Below.refl _ _).alloc (Nat.le_refl _) (.cells #[.int .i64 k, .int .i64 i, .string t] 26)))
      have HW2 := hide (step (step (next HW.out hb2) (vO k i t)) (.cells #[.int .i64 k, .int .i64 i, .string t] 26))
      have rg := hide (range_va (w2.alloc (vO k i t)) k i t)
      rw [World.size_alloc] at rg
      clear hb2 x0 x1 x2 y0 y1 y2
      go_wp2_with (first
        | (at_builtin; refine wpList_appV rfl _ _ rfl rfl rfl HR2.out ⟨k, i, t⟩ rg.out hll.out HW2.out.size ?_; intro v3 w3 r1 r2; obtain ⟨va3, vn3, vc3, rfl, hvn3⟩ := r1.shapeN; clear hvn3; have R3 := hide r1; have B3 := hide (grown_below HR2.out HW2.out r2); clear r1 r2))
      refine ⟨⟨j + 1, va3, vn3, vc3, hlt, rfl, by show Value.int .i64 (7 + (j : Int) + 1) = .int .i64 (7 + ((j + 1 : Nat) : Int)); rw [Int.natCast_succ, Int.add_assoc], hide (by rw [hst.out]; exact R3.out), B3⟩, ?_⟩
      exact meas7 hlt
    · obtain rfl : j = 6 := by omega
      clear hlt hj
      have R6 : Hid (RowW wr w1.heap.size (.slice va vn vc) (six R)) := HR
      have BW := hide (next B1.out HW.out)
      obtain rfl : vn = 6 := by obtain ⟨a, n, c, h1, h2⟩ := R6.out.shapeN; simp only [Value.slice.injEq] at h1; rw [h1.2.1, h2]; rfl
      have hv := hide R6.out.vals
      clear HR R6 HW cx cy
      obtain ⟨b, o, rfl, hc⟩ : ∃ b o, va = some ⟨b, o, none⟩ ∧ ∀ (j : Nat) (x : Va), (six R)[j]? = some x → VaAt wr b (o + j * 3) x := by
        rcases hv.out with h | h
        · cases h
        · exact h
      replace hc := hide hc
      clear hv
      have heq := va_eq 4 4 no
      have uxc1 := ux.out.1.1
      have uxc2 := ux.out.1.2.1
      have uxc3 := ux.out.1.2.2
      go_wp2_with fail
      refine (HMx.out _).mono ?_
      rintro e w12 ⟨rfl, hb12⟩
      clear uxc1
      clear uxc2
      clear uxc3
      have B12 := hide (next (BW.out) hb12)
      replace ux := hide (ux.out.keep hb12)
      replace uy := hide (uy.out.keep hb12)
      replace hc := hide (fun j x hx => (hc.out j x hx).keep hb12)
      have uxc4 := ux.out.1.1
      have uxc5 := ux.out.1.2.1
      have uxc6 := ux.out.1.2.2
      have uyc7 := uy.out.1.1
      have uyc8 := uy.out.1.2.1
      have uyc9 := uy.out.1.2.2
      go_wp2_with fail
      refine (HM.out _).mono ?_
      rintro e w23 ⟨rfl, hb23⟩
      clear uxc4
      clear uxc5
      clear uxc6
      clear uyc7
      clear uyc8
      clear uyc9
      have B23 := hide (next (B12.out) hb23)
      replace ux := hide (ux.out.keep hb23)
      replace uy := hide (uy.out.keep hb23)
      replace hc := hide (fun j x hx => (hc.out j x hx).keep hb23)
      have uyc10 := uy.out.1.1
      have uyc11 := uy.out.1.2.1
      have uyc12 := uy.out.1.2.2
      have hz1 := ux.out.lt
      have hz2 := uy.out.lt
      have hbn : Hid (b ≠ w23.heap.size) := hide (by have h := block_lt_of_cell (hc.out 0 (R 7) rfl).1; show b ≠ _; have h2 : b < w23.heap.size := h; omega)
      replace hc := hide (fun j x hx => (hc.out j x hx).keep ((Below.refl _ _).alloc (Nat.le_refl _) (vO y0 y1 y2)))
      replace ux := hide ((ux.out.alloc (vO y0 y1 y2)))
      replace uy := hide ((uy.out.alloc (vO y0 y1 y2)))
      have cw : Hid (O3 (w23.alloc (vO y0 y1 y2)) (w23.heap.size) (.int .i64 y0) (.int .i64 y1) (.string y2)) := hide (by have h0 := (O3.new w23 (.int .i64 y0) (.int .i64 y1) (.string y2) 26); exact h0)
      have uyc13 := uy.out.1.1
      have uyc14 := uy.out.1.2.1
      have uyc15 := uy.out.1.2.2
      go_wp2_with fail
      refine (HM.out _).mono ?_
      rintro e w34 ⟨rfl, hb34⟩
      clear uyc10
      clear uyc11
      clear uyc12
      clear uyc13
      clear uyc14
      clear uyc15
      have B34 := hide (next (step (B23.out) (vO y0 y1 y2)) hb34)
      replace ux := hide (ux.out.keep hb34)
      replace uy := hide (uy.out.keep hb34)
      replace cw := hide (cw.out.keep hb34)
      replace hc := hide (fun j x hx => (hc.out j x hx).keep hb34)
      go_wp2_with fail
      refine ((lbad_is 4).out _).mono ?_
      rintro e w45 ⟨rfl, hb45⟩
      have B45 := hide (next (B34.out) hb45)
      replace ux := hide (ux.out.keep hb45)
      replace uy := hide (uy.out.keep hb45)
      replace cw := hide (cw.out.keep hb45)
      replace hc := hide (fun j x hx => (hc.out j x hx).keep hb45)
      have hbl := block_lt_of_cell (hc.out 0 (R 7) rfl).1
      have cwu170 := cw.out.1.1
      have cwu171 := cw.out.1.2.1
      have cwu172 := cw.out.1.2.2
      have cwu17f := cw.out.2
      have Bq16 := hide (below_put3 (b := w23.heap.size) (B45.out) (by omega) (.int .i64 4) (.int .i64 4) (.string no))
      replace ux := hide (O3.other (b := w23.heap.size) (u0 := .int .i64 4) (u1 := .int .i64 4) (u2 := .string no) ux.out (by omega))
      replace uy := hide (O3.other (b := w23.heap.size) (u0 := .int .i64 4) (u1 := .int .i64 4) (u2 := .string no) uy.out (by omega))
      replace cw := hide (cw.out.put (.int .i64 4) (.int .i64 4) (.string no))
      obtain ⟨wq16, hwq16⟩ : ∃ wq16, put3 (w45) (w23.heap.size) (.int .i64 4) (.int .i64 4) (.string no) = wq16 := ⟨_, rfl⟩
      rw [hwq16] at Bq16 ux uy cw
      unfold put3 at hwq16
      replace hc : Hid (∀ (j : Nat) (x : Va), (six R)[j]? = some x → VaAt wq16 b (o + j * 3) x) := hide (by rw [← hwq16]; exact fun j x hx => VaAt.other (hc.out j x hx) hbn.out)
      go_upto_region 18 with fail
      clear cwu170
      clear cwu171
      clear cwu172
      clear cwu17f
      have lc00 : (wq16).cell? ⟨b, o, none⟩ = some (.int .i64 4) := by have h := hc.out 0 (R 7) rfl; rw [hR7.out] at h; exact h.1
      replace lc00 := cell_regrown lc00
      have lc01 : (wq16).cell? ⟨b, o + 1, none⟩ = some (.int .i64 4) := by have h := hc.out 0 (R 7) rfl; rw [hR7.out] at h; exact h.2.1
      replace lc01 := cell_regrown lc01
      have lc02 : (wq16).cell? ⟨b, o + 2, none⟩ = some (.string no) := by have h := hc.out 0 (R 7) rfl; rw [hR7.out] at h; exact h.2.2
      replace lc02 := cell_regrown lc02
      have lc50 : (wq16).cell? ⟨b, o + 15, none⟩ = some (.int .i64 4) := by have h := hc.out 5 (R 12) rfl; rw [hR12.out] at h; exact h.1
      replace lc50 := cell_regrown lc50
      have lc51 : (wq16).cell? ⟨b, o + 16, none⟩ = some (.int .i64 4) := by have h := hc.out 5 (R 12) rfl; rw [hR12.out] at h; exact h.2.1
      replace lc51 := cell_regrown lc51
      have lc52 : (wq16).cell? ⟨b, o + 17, none⟩ = some (.string no) := by have h := hc.out 5 (R 12) rfl; rw [hR12.out] at h; exact h.2.2
      replace lc52 := cell_regrown lc52
      have uxc18 := cell_regrown ux.out.1.1
      have uxc19 := cell_regrown ux.out.1.2.1
      have uxc20 := cell_regrown ux.out.1.2.2
      have uyc21 := cell_regrown uy.out.1.1
      have uyc22 := cell_regrown uy.out.1.2.1
      have uyc23 := cell_regrown uy.out.1.2.2
      have cwc24 := cell_regrown cw.out.1.1
      have cwc25 := cell_regrown cw.out.1.2.1
      have cwc26 := cell_regrown cw.out.1.2.2
      have kq0 := fun d' os => Calls.regrown_of (H2.out (grow (redrawn wq16 d') os))
      refine wp_region_quiet_below (by kernel_rfl) (by kernel_rfl) ?_
      repeat (go_big_quiet_step (first | (with_reducible exact kq0 _ _)))
      refine wpQuiet_nil ?_
      intro wq hwq
      have hbq : Below (wq16).heap.size wq16 wq := by obtain ⟨⟨dq, osq⟩, hq⟩ := hwq; rw [hq]; exact below_regrown _ dq osq
      clear hwq lc00 lc01 lc02 lc50 lc51 lc52 uxc18 uxc19 uxc20 uyc21 uyc22 uyc23 cwc24 cwc25 cwc26 kq0
      go_wp2_with fail
      go_ret
      exact ⟨rfl, next (Bq16.out) hbq⟩
end Go.Proofs.YtgciccahmbghpaaGreatDoor
