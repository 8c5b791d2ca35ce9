/- The fixed calls ahead of each law of stage 15 answer as the document fixes them. Proved of the Go text. -/
import Derived.Test.YtnpdkojhlgchlaaGreatDoorRun15
namespace Go.Proofs.YtnpdkojhlgchlaaGreatDoor
open Go.RowKit Go.Sort
open T9 (Blk Chg)
set_option linter.unusedVariables false

theorem info54 : CallIs 20 #[.int .i64 54] (.tuple #[.agg #[.string ⟨#[83, 85, 77]⟩, .int .i64 6, .int .i64 1, .int .i64 (-1)], .int .i64 0]) := fun w => by
  have h := T9.info_yes 53 (by decide) w
  have e : T9.tab[53]'(by rw [T9.tab_len]; decide) = (⟨#[83, 85, 77]⟩, 1, -1) := by
    have : T9.tab[53]? = some (⟨#[83, 85, 77]⟩, 1, -1) := by kernel_rfl
    exact (List.getElem?_eq_some_iff.1 this).2
  rw [e] at h
  exact h
theorem info1 : CallIs 20 #[.int .i64 1] (.tuple #[.agg #[.string ⟨#[65, 66, 83]⟩, .int .i64 1, .int .i64 1, .int .i64 1], .int .i64 0]) := fun w => by
  have h := T9.info_yes 0 (by decide) w
  have e : T9.tab[0]'(by rw [T9.tab_len]; decide) = (⟨#[65, 66, 83]⟩, 1, 1) := by
    have : T9.tab[0]? = some (⟨#[65, 66, 83]⟩, 1, 1) := by kernel_rfl
    exact (List.getElem?_eq_some_iff.1 this).2
  rw [e] at h
  exact h
theorem idx54 (w : World) : (Instr.index 76 (.agg fcatC) (.int .i64 54)).run Tryz.prog w = .ok (.func (.func 40) #[] #[]) w := index77 0 _ rfl w
set_option maxHeartbeats 1000000 in
set_option maxRecDepth 100000 in
theorem begin_kind (s : Value) (nm : ByteArray) (cl mn mx : Int) (fI : Int) (hc : (cl != 6) = true) (HI : CallIs 20 #[.int .i64 fI] (.tuple #[.agg #[.string nm, .int .i64 cl, .int .i64 mn, .int .i64 mx], .int .i64 0])) : CallIs 10 #[.int .i64 fI, s] (.tuple #[.pointer none, .int .i64 5]) := by
  intro w
  go_enter Tryz.func10, Tryz.ntmps10
  go_wp2_with fail
  refine (HI.out _).mono ?_
  rintro e w1 ⟨rfl, hb1⟩
  go_wp2_with fail
  go_ret2
  exact ⟨rfl, step (next (Below.refl _ _) hb1) _⟩
abbrev agC (n : Int) : Ag := ⟨true, 0, 0, n - 1, 0, ⟨0, 0, no⟩⟩
abbrev agN (n : Int) : Ag := ⟨false, 0, 0, 0, 0, ⟨1, n, no⟩⟩
theorem va_int (n : Int) (h1 : -9223372036854775808 ≤ n) (h2 : n ≤ 9223372036854775807) : VaOk ⟨1, n, no⟩ := ⟨.inr (.inl ⟨rfl, rfl⟩), h1, h2⟩
theorem agC_ok (n : Int) (h0 : 1 ≤ n) (h1 : n ≤ 300) : AgOk (agC n) := by
  unfold AgOk
  simp only [if_true]
  refine ⟨by omega, ?_⟩
  unfold Ag.many Ag.cols
  show (n - 1 - 0 + 1).toNat * 1 ≤ 4096
  omega
abbrev lastS (n : Int) : Va := ⟨1, n, no⟩
theorem bg_st0 (nm : Va → Int × Int) : goOn (givN nm sumT) lastS [agC 2, agN 5] 0 0 = .wait [agC 2, agN 5] 1 0 0 false 0 := by
  rw [goOn]
  rfl
theorem bg_st1 (nm : Va → Int × Int) : giv (givN nm sumT) lastS [agC 2, agN 5] 1 (celN sumT 0 ⟨1, 2, no⟩) = .wait [agC 2, agN 5] 2 1 0 false 2 := by
  rw [show celN sumT 0 ⟨1, 2, no⟩ = (.on, 2) from rfl, giv, goOn]
  rfl
theorem bg_st2 (nm : Va → Int × Int) (hnm : NmbIs nm) : giv (givN nm sumT) lastS [agC 2, agN 5] 2 (celN sumT 2 ⟨3, 0, ⟨#[55]⟩⟩) = .over ⟨1, 7, no⟩ := by
  have h5 : nm ⟨1, 5, no⟩ = (5, 0) := (hnm ⟨1, 5, no⟩ (va_int 5 (by decide) (by decide))).2.2 rfl
  have hg : givN nm sumT 2 ⟨1, 5, no⟩ = (.on, 7) := by unfold givN; rw [h5]; rfl
  rw [show celN sumT 2 ⟨3, 0, ⟨#[55]⟩⟩ = (.on, 2) from rfl, giv, goOn, if_pos rfl, if_neg (by decide), goOn, if_neg (by decide)]
  rw [show givN nm sumT 2 (agN 5).v = (.on, 7) from hg]
  simp only [goOn]
theorem args2 (w : World) (x y : Ag) : ArgsAt (w.alloc (.cells #[.bool x.is, .int .i64 x.t, .int .i64 x.l, .int .i64 x.b, .int .i64 x.r, .int .i64 x.v.k, .int .i64 x.v.i, .string x.v.t, .bool y.is, .int .i64 y.t, .int .i64 y.l, .int .i64 y.b, .int .i64 y.r, .int .i64 y.v.k, .int .i64 y.v.i, .string y.v.t] 41)) (· < (w.alloc (.cells #[.bool x.is, .int .i64 x.t, .int .i64 x.l, .int .i64 x.b, .int .i64 x.r, .int .i64 x.v.k, .int .i64 x.v.i, .string x.v.t, .bool y.is, .int .i64 y.t, .int .i64 y.l, .int .i64 y.b, .int .i64 y.r, .int .i64 y.v.k, .int .i64 y.v.i, .string y.v.t] 41)).heap.size) (some ⟨w.heap.size, 0, none⟩) [x, y] := by
  have hb := Blk.new w #[.bool x.is, .int .i64 x.t, .int .i64 x.l, .int .i64 x.b, .int .i64 x.r, .int .i64 x.v.k, .int .i64 x.v.i, .string x.v.t, .bool y.is, .int .i64 y.t, .int .i64 y.l, .int .i64 y.b, .int .i64 y.r, .int .i64 y.v.k, .int .i64 y.v.i, .string y.v.t] 41
  refine .inr ⟨_, _, rfl, by simp, fun j z hz i v hv => ?_⟩
  rw [hb.at']
  match j, hz with
  | 0, hz => obtain rfl : x = z := by simpa using hz
             match i, hv with
             | 0, hv | 1, hv | 2, hv | 3, hv | 4, hv | 5, hv | 6, hv | 7, hv => exact hv
             | i + 8, hv => simp at hv
  | 1, hz => obtain rfl : y = z := by simpa using hz
             match i, hv with
             | 0, hv | 1, hv | 2, hv | 3, hv | 4, hv | 5, hv | 6, hv | 7, hv => exact hv
             | i + 8, hv => simp at hv
set_option maxHeartbeats 4000000 in
set_option maxRecDepth 100000 in
theorem begun15 : CallIs 5 #[] (.bool true) := by
  intro w
  obtain ⟨nm, hnm⟩ := nmb_ex
  have HB := hide (fun w2 => begin_ok 54 _ 0 _ _ lastS (sum_mkis nm hnm) _ _ _ info54 idx54 [agC 2, agN 5] (by decide) (by decide) (by decide) (.inr rfl) (fun a ha => by rcases List.mem_cons.1 ha with rfl | ha; exact agC_ok 2 (by decide) (by decide); rcases List.mem_cons.1 ha with rfl | ha; exact va_int 5 (by decide) (by decide); cases ha) _ 2 _ (args2 w2 (agC 2) (agN 5)))
  rw [bg_st0] at HB
  have e1 := hide (bg_st1 nm)
  have e2 := hide (bg_st2 nm hnm)
  have HC2 := cells_is 2 (by decide) (by decide)
  have HN5 := lnum_is 5
  have HN2 := lnum_is 2
  have HK := fun s => begin_kind s _ 1 1 1 1 rfl info1
  go_enter Tryz.func5, Tryz.ntmps5
  go_wp2_with fail
  refine (HC2.out _).mono ?_
  rintro e w1 ⟨rfl, hb1⟩
  have K1 := hide (next (Below.refl w.heap.size w) hb1)
  go_wp2_with fail
  refine (HN5.out _).mono ?_
  rintro e w2 ⟨rfl, hb2⟩
  have K2 := hide (next K1.out hb2)
  clear hb1 hb2
  go_wp2_with fail
  refine (HB.out w2).mono ?_
  rintro e w3 ⟨B, S, F, M, rfl, hR, hF, hM, hb3⟩
  have K3 := hide (next (step K2.out _) hb3)
  have hS := hide hR.stay
  replace hR := hide hR
  replace hF := hide hF
  have hMw : Hid (∀ k, M k → w.heap.size ≤ k) := hide (fun k hk => Nat.le_trans (Nat.le_trans K2.out.size (by simp)) (hM k hk))
  clear hb3 hM HB
  have hM3 : Hid (∀ k, M k → k < w3.heap.size) := hide hF.out.lt
  go_wp2_with fail
  refine (HN5.out _).mono ?_
  rintro e w4 ⟨rfl, hb4⟩
  have K4 := hide (next K3.out hb4)
  have F4 := hide (hF.out.keep hS.out hb4)
  have s34 := hide hb4.size
  clear hb4 hF
  go_wp2_with fail
  refine ((HK _).out _).mono ?_
  rintro e w5 ⟨rfl, hb5⟩
  have K5 := hide (next (step K4.out _) hb5)
  have F5 := hide ((F4.out.keep hS.out (step (Below.refl _ _) _)).keep hS.out hb5)
  have s45 : Hid (w4.heap.size ≤ w5.heap.size) := hide (Nat.le_trans (by simp) hb5.size)
  clear hb5 F4
  obtain ⟨th5, rst5, bk5⟩ := fold_blk F5.out
  have HN := hide (next_any bk5)
  clear bk5
  go_wp2_with fail
  refine HN.out.mono ?_
  rintro e w6 ⟨rfl, hb6⟩
  have K6 := hide (next K5.out hb6)
  have F6 := hide ((F5.out.keep hS.out hb6).keep hS.out (step (Below.refl _ _) (.cells #[.int .i64 0, .int .i64 0] 47)))
  have P5 := hide (Blk.new w6 #[.int .i64 0, .int .i64 0] 47)
  have s56 := hide hb6.size
  clear hb6 F5
  obtain ⟨th6, rst6, bk6⟩ := fold_blk F6.out
  have HE := hide (end_any bk6)
  clear bk6
  go_wp2_with fail
  refine HE.out.mono ?_
  rintro e w7 ⟨rfl, hb7⟩
  have K7 := hide (next (step K6.out (.cells #[.int .i64 0, .int .i64 0] 47)) hb7)
  have F7 := hide ((F6.out.keep hS.out hb7).keep hS.out (step (Below.refl _ _) (vO 0 0 no)))
  have P7 := hide ((P5.out.keep hb7).alloc (vO 0 0 no))
  have s67 := hide hb7.size
  clear hb7 F6 P5
  go_wp2_with fail
  refine (HN2.out _).mono ?_
  rintro e w8 ⟨rfl, hb8⟩
  have K8 := hide (next (step K7.out (vO 0 0 no)) hb8)
  have F8 := hide (F7.out.keep hS.out hb8)
  have P8 := hide (P7.out.keep hb8)
  clear hb8 F7 P7
  obtain ⟨nL, cL, hla, HL⟩ := hR.out.la
  obtain ⟨nC, cC, hce, HCe⟩ := hR.out.ce
  have HG8 := hide (give_ok hS.out F _ _ lastS nL cL hla HL nC cC hce HCe [agC 2, agN 5] (.inr hR.out.gi) (givN_nb sumT_nb) 1 0 0 0 _ B M F8.out 1 2 no (va_int 2 (by decide) (by decide)) (celN_nb sumT_nb _ _))
  rw [e1.out] at HG8
  have HG9 := hide (fun w9 M9 F9 => give_ok hS.out F _ _ lastS nL cL hla HL nC cC hce HCe [agC 2, agN 5] (.inr hR.out.gi) (givN_nb (nm := nm) sumT_nb) 2 1 0 2 w9 B M9 F9 3 0 ⟨#[55]⟩ ⟨.inr (.inr (.inr (.inl ⟨rfl, rfl, by decide⟩))), by decide, by decide⟩ (celN_nb sumT_nb _ _))
  rw [e2.out] at HG9
  clear hla HL hce HCe
  have n6 : Hid (¬ M w6.heap.size) := hide (fun e => by have := hM3.out _ e; have := s34.out; have := s45.out; have := s56.out; omega)
  go_wp2_with fail
  refine HG8.out.mono ?_
  rintro e w9 ⟨rfl, M9, k1, k2, k3⟩
  have P9 := hide (k3.blk P8.out n6.out)
  have n69 : Hid (¬ M9 w6.heap.size) := hide (fun e => by rcases k2 _ e with h | h; exact n6.out h; have := P8.out.lt; omega)
  have hMw9 : Hid (∀ k, M9 k → w.heap.size ≤ k) := hide (fun k hk => by rcases k2 k hk with h | h; exact hMw.out k h; exact Nat.le_trans K8.out.size h)
  have K9 : Hid (Below w.heap.size w w9) := hide ⟨k3.os.trans K8.out.os, k3.tape.trans K8.out.tape, k3.output.trans K8.out.output, Nat.le_trans K8.out.size k3.size, fun k hk => (k3.block k (Nat.lt_of_lt_of_le hk K8.out.size) (fun e => absurd (hMw.out k e) (Nat.not_le_of_lt hk))).trans (K8.out.block k hk)⟩
  have F9 := hide k1
  clear k1 k2 k3 P8 F8 HG8
  obtain ⟨th9, rst9, bk9⟩ := fold_blk F9.out
  have HN9 := hide (next_any bk9)
  clear bk9
  go_wp2_with fail
  refine HN9.out.mono ?_
  rintro e w10 ⟨rfl, hb10⟩
  have K10 := hide (step (next K9.out hb10) (.cells #[.int .i64 1, .int .i64 0] 47))
  have F10 := hide ((F9.out.keep hS.out hb10).keep hS.out (step (Below.refl _ _) (.cells #[.int .i64 1, .int .i64 0] 47)))
  have P10 := hide ((P9.out.keep hb10).alloc (.cells #[.int .i64 1, .int .i64 0] 47))
  have Q10 := hide (Blk.new w10 #[.int .i64 1, .int .i64 0] 47)
  have n10 : Hid (¬ M9 w10.heap.size) := hide (fun e => Nat.lt_irrefl _ (Nat.lt_of_lt_of_le (F9.out.lt _ e) hb10.size))
  have HG10 := hide (HG9.out _ M9 F10.out)
  clear hb10 F9 P9 HG9
  go_wp2_with fail
  refine HG10.out.mono ?_
  rintro e w11 ⟨rfl, M11, k1, k2, k3⟩
  have P11 := hide (k3.blk P10.out n69.out)
  have Q11 := hide (k3.blk Q10.out n10.out)
  have O11 : Hid (Ovr w11 B ⟨1, 7, no⟩) := hide k1.1
  have K11 : Hid (Below w.heap.size w w11) := hide ⟨k3.os.trans K10.out.os, k3.tape.trans K10.out.tape, k3.output.trans K10.out.output, Nat.le_trans K10.out.size k3.size, fun k hk => (k3.block k (Nat.lt_of_lt_of_le hk K10.out.size) (fun e => absurd (hMw9.out k e) (Nat.not_le_of_lt hk))).trans (K10.out.block k hk)⟩
  clear k1 k2 k3 P10 Q10 F10 HG10
  have HE11 := hide (end_any O11.out)
  go_wp2_with fail
  refine HE11.out.mono ?_
  rintro e w12 ⟨rfl, hb12⟩
  have K12 := hide (step (next K11.out hb12) (vO 1 7 no))
  have P12 := hide ((P11.out.keep hb12).alloc (vO 1 7 no))
  have Q12 := hide ((Q11.out.keep hb12).alloc (vO 1 7 no))
  have O12 := hide (T9.Blk.alloc (T9.Blk.keep O11.out hb12) (vO 1 7 no))
  have V12 := hide (Blk.new w12 #[.int .i64 1, .int .i64 7, .string no] 31)
  clear hb12
  go_upto_region 11 with fail
  obtain ⟨wz, hwz⟩ : ∃ wz, w12.alloc (.cells #[.int .i64 1, .int .i64 7, .string no] 31) = wz := ⟨_, rfl⟩
  simp only [vO] at K12 P12 Q12 O12
  rw [hwz] at K12 P12 Q12 O12 V12 ⊢
  clear hwz
  have a50 : wz.cell? ⟨w6.heap.size, 0, none⟩ = some (.int .i64 0) := P12.out.at' 0
  have a51 : wz.cell? ⟨w6.heap.size, 1, none⟩ = some (.int .i64 0) := P12.out.at' 1
  have a60 : wz.cell? ⟨w10.heap.size, 0, none⟩ = some (.int .i64 1) := Q12.out.at' 0
  have a61 : wz.cell? ⟨w10.heap.size, 1, none⟩ = some (.int .i64 0) := Q12.out.at' 1
  have a70 : wz.cell? ⟨w12.heap.size, 0, none⟩ = some (.int .i64 1) := V12.out.at' 0
  have a71 : wz.cell? ⟨w12.heap.size, 1, none⟩ = some (.int .i64 7) := V12.out.at' 1
  have a72 : wz.cell? ⟨w12.heap.size, 2, none⟩ = some (.string no) := V12.out.at' 2
  replace a50 := cell_regrown a50
  replace a51 := cell_regrown a51
  replace a60 := cell_regrown a60
  replace a61 := cell_regrown a61
  replace a70 := cell_regrown a70
  replace a71 := cell_regrown a71
  replace a72 := cell_regrown a72
  have q5 : ∀ w, (binOp .eql 47 (.agg #[.int .i64 0, .int .i64 0]) (.agg #[.int .i64 0, .int .i64 0])).run Tryz.prog w = .ok (.bool true) w := fun w => by go_simp
  have q6 : ∀ w, (binOp .eql 47 (.agg #[.int .i64 1, .int .i64 0]) (.agg #[.int .i64 1, .int .i64 0])).run Tryz.prog w = .ok (.bool true) w := fun w => by go_simp
  have q7 : ∀ w, (binOp .eql 31 (vV 1 7 no) (vV 1 7 no)).run Tryz.prog w = .ok (.bool true) w := fun w => by go_simp
  have kq0 := fun d' os => Calls.regrown_of ((lnum_is 7).out (grow (redrawn wz d') os))
  have kq1 := fun d' os => Calls.regrown_of ((lnum_is 1).out (grow (redrawn wz d') os))
  have kq2 := fun d' os => Calls.regrown_of (give_over (B := B) (x := ⟨1, 7, no⟩) (w := grow (redrawn wz d') os) (T9.Blk.keep O12.out (below_regrown wz d' os)) 1 1 no)
  clear HN HE HN9 HE11 HK HC2 HN5 HN2
  refine wp_region_quiet_below (by kernel_rfl) (by kernel_rfl) ?_
  repeat (go_big_quiet_step (first | (with_reducible exact kq0 _ _) | (with_reducible exact kq1 _ _) | (with_reducible exact kq2 _ _)))
  refine wpQuiet_nil ?_
  intro wq hwq
  have hbq : Below wz.heap.size wz wq := by obtain ⟨⟨dq, osq⟩, hq⟩ := hwq; rw [hq]; exact below_regrown _ dq osq
  clear hwq a50 a51 a60 a61 a70 a71 a72 kq0 kq1 kq2
  go_wp2_with fail
  go_ret
  exact ⟨rfl, next K12.out hbq⟩
end Go.Proofs.YtnpdkojhlgchlaaGreatDoor
