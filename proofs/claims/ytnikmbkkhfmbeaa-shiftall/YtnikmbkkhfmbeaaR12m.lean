/- The document's numbers on a line, and the program's; nodes; no Go in sight but the contracts. -/
import Derived.Test.YtnikmbkkhfmbeaaR12c
import Derived.Test.YtnikmbkkhfmbeaaR12d
namespace Go.Proofs.Ytnikmbkkhfmbeaa
open Go.RowKit Go.Sort
set_option linter.unusedVariables false

/-- Two numbers that are one, or both off the line. -/
def Eqv (most x y : Int) : Prop := ((0 ≤ x ∧ x < most) ↔ (0 ≤ y ∧ y < most)) ∧ (0 ≤ y → y < most → x = y)
theorem Eqv.refl (most x : Int) : Eqv most x x := ⟨Iff.rfl, fun _ _ => rfl⟩
theorem eqv_moved {a d most : Int} (h0 : 0 ≤ a) (h1 : a < most) (hm : most ≤ 65536) : Eqv most (movedR a d most) (stp a d) := by
  unfold Eqv movedR stp
  split
  · omega
  · split
    · omega
    · split
      · omega
      · split <;> omega
theorem lnow_neg {x y t n most : Int} (hn : n < 0) (h0 : 0 ≤ x) (h1 : x < most) (y0 : 0 ≤ y) (y1 : y < most) (t0 : 0 ≤ t) (t1 : t < most) (hm : most ≤ 65536) :
    lnow x y t n = if x < t then x else if t + goneR n most ≤ x then x - goneR n most else if y < t then t - 1 else if t + goneR n most ≤ y then t else -1 := by
  unfold lnow goneR stp
  by_cases c1 : x < t
  · rw [if_pos c1, if_pos c1]
  · rw [if_neg c1, if_neg c1, if_neg (by omega)]
    by_cases c2 : n ≤ -most
    · rw [if_pos c2, if_neg (show ¬ t - max n (-65536) ≤ x by omega), if_neg (show ¬ t + most ≤ x by omega)]
      by_cases c3 : y < t
      · rw [if_pos c3, if_pos c3]
      · rw [if_neg c3, if_neg c3, if_neg (show ¬ t - max n (-65536) ≤ y by omega), if_neg (show ¬ t + most ≤ y by omega)]
    · rw [if_neg c2]
      have e : t - max n (-65536) = t + -n := by omega
      rw [e]
      by_cases c4 : t + -n ≤ x
      · rw [if_pos c4, if_pos c4]; omega
      · rw [if_neg c4, if_neg c4]
theorem eqv_single {x t n most : Int} (h0 : 0 ≤ x) (h1 : x < most) (t0 : 0 ≤ t) (t1 : t < most) (hm : most ≤ 65536) :
    (outR t n x most = true → lnow x x t n = -1) ∧ (outR t n x most = false → Eqv most (lineR t n x most) (lnow x x t n)) := by
  refine ⟨fun h => ?_, fun h => ?_⟩
  · obtain ⟨a1, a2, a3⟩ := out_iff.1 h
    rw [lnow_neg a1 h0 h1 h0 h1 t0 t1 hm, if_neg (by omega), if_neg (by omega), if_neg (by omega), if_neg (by omega)]
  · by_cases c : n < 0
    · have hno : ¬ (n < 0 ∧ t ≤ x ∧ x < t + goneR n most) := fun q => by rw [out_iff.2 q] at h; cases h
      rw [lnow_neg c h0 h1 h0 h1 t0 t1 hm]
      unfold lineR
      by_cases c1 : x < t
      · rw [if_pos c1, if_pos c1]; exact Eqv.refl _ _
      · rw [if_neg c1, if_neg c1, if_pos c, if_pos (by omega)]; exact Eqv.refl _ _
    · unfold lineR lnow
      by_cases c1 : x < t
      · rw [if_pos c1, if_pos c1]; exact Eqv.refl _ _
      · rw [if_neg c1, if_neg c1, if_neg c, if_pos (by omega)]; exact eqv_moved h0 h1 hm
theorem eqv_double {x y t n most : Int} (h0 : 0 ≤ x) (h1 : x < most) (y0 : 0 ≤ y) (y1 : y < most) (t0 : 0 ≤ t) (t1 : t < most) (hm : most ≤ 65536) :
    ((outR t n x most && outR t n y most) = true → lnow x y t n = -1) ∧ ((outR t n x most && outR t n y most) = false → Eqv most (endA t n x y most) (lnow x y t n)) := by
  refine ⟨fun h => ?_, fun h => ?_⟩
  · rw [Bool.and_eq_true] at h
    obtain ⟨a1, a2, a3⟩ := out_iff.1 h.1
    obtain ⟨b1, b2, b3⟩ := out_iff.1 h.2
    rw [lnow_neg a1 h0 h1 y0 y1 t0 t1 hm, if_neg (by omega), if_neg (by omega), if_neg (by omega), if_neg (by omega)]
  · cases qx : outR t n x most
    · have e : endA t n x y most = lineR t n x most := by unfold endA; rw [qx]; rfl
      rw [e]
      have hs := (eqv_single (x := x) (t := t) (n := n) h0 h1 t0 t1 hm).2 qx
      have hl : lnow x y t n = lnow x x t n := by
        by_cases c : n < 0
        · have hno : ¬ (n < 0 ∧ t ≤ x ∧ x < t + goneR n most) := fun q => by rw [out_iff.2 q] at qx; cases qx
          rw [lnow_neg c h0 h1 y0 y1 t0 t1 hm, lnow_neg c h0 h1 h0 h1 t0 t1 hm]
          by_cases c1 : x < t
          · rw [if_pos c1, if_pos c1]
          · rw [if_neg c1, if_neg c1, if_pos (by omega), if_pos (by omega)]
        · unfold lnow
          by_cases c1 : x < t
          · rw [if_pos c1, if_pos c1]
          · rw [if_neg c1, if_neg c1, if_pos (show 0 ≤ n by omega), if_pos (show 0 ≤ n by omega)]
      rw [hl]; exact hs
    · rw [qx, Bool.true_and] at h
      obtain ⟨a1, a2, a3⟩ := out_iff.1 qx
      have hno : ¬ (n < 0 ∧ t ≤ y ∧ y < t + goneR n most) := fun q => by rw [out_iff.2 q] at h; cases h
      have hg := gone_bd (most := most) a1 (by omega)
      have e : endA t n x y most = lineR t n (nearR t n x y most) most := by unfold endA; rw [qx]; rfl
      rw [e, lnow_neg a1 h0 h1 y0 y1 t0 t1 hm, if_neg (by omega), if_neg (by omega)]
      unfold nearR lineR
      by_cases c1 : y < t
      · rw [if_neg (show ¬ x < y by omega), if_pos (show t - 1 < t by omega), if_pos c1]; exact Eqv.refl _ _
      · rw [if_pos (show x < y by omega), if_neg (show ¬ t + goneR n most < t by omega), if_pos a1, if_neg c1, if_pos (by omega)]
        rw [show t + goneR n most - goneR n most = t by omega]; exact Eqv.refl _ _
theorem may_eqv_row {x y c : Int} (h : Eqv 65536 x y) : mayB x c = mayB y c ∧ (mayB y c = true → x = y) := by
  refine ⟨?_, fun q => ?_⟩
  · rw [Bool.eq_iff_iff, mayB_iff, mayB_iff]; have := h.1; omega
  · have := mayB_iff.1 q; exact h.2 this.1 this.2.1
theorem may_eqv_col {x y r : Int} (h : Eqv 702 x y) : mayB r x = mayB r y ∧ (mayB r y = true → x = y) := by
  refine ⟨?_, fun q => ?_⟩
  · rw [Bool.eq_iff_iff, mayB_iff, mayB_iff]; have := h.1; omega
  · have := mayB_iff.1 q; exact h.2 this.2.2.1 this.2.2.2
theorem may_eqv_pas {dr dc : Int} {r p : Rf} (hr : mayB r.row r.col = true) : mayB (rfM dr dc r).row (rfM dr dc r).col = mayB (pasR dr dc r p).row (pasR dr dc r p).col ∧ (mayB (pasR dr dc r p).row (pasR dr dc r p).col = true → rfM dr dc r = pasR dr dc r p) := by
  have hr := mayB_iff.1 hr
  have e1 : Eqv 65536 (rfM dr dc r).row (pasR dr dc r p).row := by
    unfold rfM pasR; dsimp only
    cases r.pr
    · exact eqv_moved hr.1 hr.2.1 (by omega)
    · exact Eqv.refl _ _
  have e2 : Eqv 702 (rfM dr dc r).col (pasR dr dc r p).col := by
    unfold rfM pasR; dsimp only
    cases r.pc
    · exact eqv_moved hr.2.2.1 hr.2.2.2 (by omega)
    · exact Eqv.refl _ _
  refine ⟨?_, fun q => ?_⟩
  · rw [Bool.eq_iff_iff, mayB_iff, mayB_iff]; have := e1.1; have := e2.1; omega
  · have q := mayB_iff.1 q
    have a1 := e1.2 q.1 q.2.1
    have a2 := e2.2 q.2.2.1 q.2.2.2
    show Rf.mk (rfM dr dc r).row (rfM dr dc r).col r.pr r.pc = Rf.mk (pasR dr dc r p).row (pasR dr dc r p).col r.pr r.pc
    rw [a1, a2]
theorem node5_on {f : Mv} {nd : Nd} {s : Value} (h5 : nd.kind = 5) (h0 : nd.to = rf0) (hq : mayB (f nd.ref nd.ref).row (f nd.ref nd.ref).col = true) : movN f nd = { nd with ref := f nd.ref nd.ref } ∧ slM f nd s = s := by
  have hg : gridB (putN f nd) = true := by unfold putN gridB; rw [if_pos h5]; dsimp only; rw [hq, h0]; rfl
  refine ⟨?_, (slM_yes hg).1⟩
  rw [movN_5 f h5 h0, hq]; rfl
theorem node5_off {f : Mv} {nd : Nd} {s : Value} (h5 : nd.kind = 5) (h0 : nd.to = rf0) (hq : mayB (f nd.ref nd.ref).row (f nd.ref nd.ref).col = false) : movN f nd = lostN ∧ slM f nd s = .slice none 0 0 := by
  have hg : gridB (putN f nd) = false := by unfold putN gridB; rw [if_pos h5]; dsimp only; rw [hq]; rfl
  exact ⟨(slM_no (s := s) hg).2, (slM_no hg).1⟩
theorem node6_on {f : Mv} {nd : Nd} {s : Value} (h6 : nd.kind = 6) (hq : mayB (f nd.ref nd.to).row (f nd.ref nd.to).col = true) (hq2 : mayB (f nd.to nd.ref).row (f nd.to nd.ref).col = true) : movN f nd = { nd with ref := f nd.ref nd.to, to := f nd.to nd.ref } ∧ slM f nd s = s := by
  have hg : gridB (putN f nd) = true := by unfold putN gridB; rw [if_neg (by rw [h6]; decide), if_pos h6]; dsimp only; rw [hq, hq2]; rfl
  refine ⟨?_, (slM_yes hg).1⟩
  rw [movN_6 f h6, hq, hq2]; rfl
theorem node6_off {f : Mv} {nd : Nd} {s : Value} (h6 : nd.kind = 6) (hq : (mayB (f nd.ref nd.to).row (f nd.ref nd.to).col && mayB (f nd.to nd.ref).row (f nd.to nd.ref).col) = false) : movN f nd = lostN ∧ slM f nd s = .slice none 0 0 := by
  have hg : gridB (putN f nd) = false := by unfold putN gridB; rw [if_neg (by rw [h6]; decide), if_pos h6]; dsimp only; exact hq
  exact ⟨(slM_no (s := s) hg).2, (slM_no hg).1⟩
/-- What the move is. -/
def Mvd (K dr dc t n : Int) (f : Mv) : Prop := (K = 1 ∧ f = pasR dr dc) ∨ (K = 2 ∧ f = rowR t n ∧ 0 ≤ t ∧ t < 65536) ∨ (K = 3 ∧ f = colR t n ∧ 0 ≤ t ∧ t < 702)
theorem single_any {K dr dc t n : Int} {f : Mv} (hK : Mvd K dr dc t n f) (nd : Nd) (a : Option Addr) (len cap : Nat) (ht : toldB nd len = true) (h5 : nd.kind = 5) (w : World) :
    Calls Try.prog 46 #[mvV K dr dc t n, exV nd (.slice a len cap)] w fun e w' => e = .returned (exV (movN f nd) (slM f nd (.slice a len cap))) ∧ Below w.heap.size w w' := by
  obtain ⟨e, hm, rfl⟩ := shape5 ht h5
  have h0 : nd.to = rf0 := by rw [e]
  have hb := mayB_iff.1 hm
  rcases hK with ⟨rfl, rfl⟩ | ⟨rfl, rfl, t0, t1⟩ | ⟨rfl, rfl, t0, t1⟩
  · obtain ⟨q1, q2⟩ := may_eqv_pas (dr := dr) (dc := dc) (p := nd.ref) hm
    cases q : mayB (pasR dr dc nd.ref nd.ref).row (pasR dr dc nd.ref nd.ref).col
    · obtain ⟨p1, p2⟩ := node5_off (s := .slice a 0 cap) h5 h0 q
      rw [p1, p2]; exact single_1f dr dc t n nd a 0 cap w hm (q1.trans q)
    · obtain ⟨p1, p2⟩ := node5_on (s := .slice a 0 cap) h5 h0 q
      rw [p1, p2, ← q2 q]; exact single_1t dr dc t n nd a 0 cap w hm (q1.trans q)
  · obtain ⟨s1, s2⟩ := eqv_single (x := nd.ref.row) (t := t) (n := n) hb.1 hb.2.1 t0 t1 (by omega)
    cases qo : outR t n nd.ref.row 65536
    · obtain ⟨q1, q2⟩ := may_eqv_row (c := nd.ref.col) (s2 qo)
      cases q : mayB (lnow nd.ref.row nd.ref.row t n) nd.ref.col
      · obtain ⟨p1, p2⟩ := node5_off (f := rowR t n) (s := .slice a 0 cap) h5 h0 q
        rw [p1, p2]; exact single_2f dr dc t n nd a 0 cap w hm t0 t1 qo (q1.trans q)
      · obtain ⟨p1, p2⟩ := node5_on (f := rowR t n) (s := .slice a 0 cap) h5 h0 q
        have hx : rowR t n nd.ref nd.ref = ⟨lineR t n nd.ref.row 65536, nd.ref.col, nd.ref.pr, nd.ref.pc⟩ := by unfold rowR; rw [q2 q]
        rw [p1, p2, hx]; exact single_2t dr dc t n nd a 0 cap w hm t0 t1 qo (q1.trans q)
    · obtain ⟨p1, p2⟩ := node5_off (f := rowR t n) (s := .slice a 0 cap) h5 h0 (by show mayB (lnow nd.ref.row nd.ref.row t n) _ = false; rw [s1 qo]; rfl)
      rw [p1, p2]; exact single_2o dr dc t n nd a 0 cap w hm t0 t1 qo
  · obtain ⟨s1, s2⟩ := eqv_single (x := nd.ref.col) (t := t) (n := n) (most := 702) hb.2.2.1 hb.2.2.2 t0 t1 (by omega)
    cases qo : outR t n nd.ref.col 702
    · obtain ⟨q1, q2⟩ := may_eqv_col (r := nd.ref.row) (s2 qo)
      cases q : mayB nd.ref.row (lnow nd.ref.col nd.ref.col t n)
      · obtain ⟨p1, p2⟩ := node5_off (f := colR t n) (s := .slice a 0 cap) h5 h0 q
        rw [p1, p2]; exact single_3f dr dc t n nd a 0 cap w hm t0 t1 qo (q1.trans q)
      · obtain ⟨p1, p2⟩ := node5_on (f := colR t n) (s := .slice a 0 cap) h5 h0 q
        have hx : colR t n nd.ref nd.ref = ⟨nd.ref.row, lineR t n nd.ref.col 702, nd.ref.pr, nd.ref.pc⟩ := by unfold colR; rw [q2 q]
        rw [p1, p2, hx]; exact single_3t dr dc t n nd a 0 cap w hm t0 t1 qo (q1.trans q)
    · obtain ⟨p1, p2⟩ := node5_off (f := colR t n) (s := .slice a 0 cap) h5 h0 (by show mayB nd.ref.row (lnow nd.ref.col nd.ref.col t n) = false; rw [s1 qo]; cases qq : mayB nd.ref.row (-1); rfl; (have := mayB_iff.1 qq; omega))
      rw [p1, p2]; exact single_3o dr dc t n nd a 0 cap w hm t0 t1 qo
theorem double_any {K dr dc t n : Int} {f : Mv} (hK : Mvd K dr dc t n f) (nd : Nd) (a : Option Addr) (len cap : Nat) (ht : toldB nd len = true) (h6 : nd.kind = 6) (w : World) :
    Calls Try.prog 47 #[mvV K dr dc t n, exV nd (.slice a len cap)] w fun e w' => e = .returned (exV (movN f nd) (slM f nd (.slice a len cap))) ∧ Below w.heap.size w w' := by
  obtain ⟨e, hm, hm', rfl⟩ := shape6 ht h6
  have hb := mayB_iff.1 hm
  have hc := mayB_iff.1 hm'
  rcases hK with ⟨rfl, rfl⟩ | ⟨rfl, rfl, t0, t1⟩ | ⟨rfl, rfl, t0, t1⟩
  · obtain ⟨q1, q2⟩ := may_eqv_pas (dr := dr) (dc := dc) (p := nd.to) hm
    obtain ⟨q3, q4⟩ := may_eqv_pas (dr := dr) (dc := dc) (p := nd.ref) hm'
    cases q : mayB (pasR dr dc nd.ref nd.to).row (pasR dr dc nd.ref nd.to).col
    · obtain ⟨p1, p2⟩ := node6_off (f := pasR dr dc) (s := .slice a 0 cap) h6 (by rw [q]; rfl)
      rw [p1, p2]; exact double_1f dr dc t n nd a 0 cap w hm hm' (q1.trans q)
    · cases q' : mayB (pasR dr dc nd.to nd.ref).row (pasR dr dc nd.to nd.ref).col
      · obtain ⟨p1, p2⟩ := node6_off (f := pasR dr dc) (s := .slice a 0 cap) h6 (by rw [q, q']; rfl)
        rw [p1, p2]; exact double_1tf dr dc t n nd a 0 cap w hm hm' (q1.trans q) (q3.trans q')
      · obtain ⟨p1, p2⟩ := node6_on (s := .slice a 0 cap) h6 q q'
        rw [p1, p2, ← q2 q, ← q4 q']; exact double_1tt dr dc t n nd a 0 cap w hm hm' (q1.trans q) (q3.trans q')
  · obtain ⟨s1, s2⟩ := eqv_double (x := nd.ref.row) (y := nd.to.row) (t := t) (n := n) (most := 65536) hb.1 hb.2.1 hc.1 hc.2.1 t0 t1 (by omega)
    obtain ⟨r1, r2⟩ := eqv_double (x := nd.to.row) (y := nd.ref.row) (t := t) (n := n) (most := 65536) hc.1 hc.2.1 hb.1 hb.2.1 t0 t1 (by omega)
    cases qo : (outR t n nd.ref.row 65536 && outR t n nd.to.row 65536)
    · obtain ⟨q1, q2⟩ := may_eqv_row (c := nd.ref.col) (s2 qo)
      obtain ⟨q3, q4⟩ := may_eqv_row (c := nd.to.col) (r2 (by rw [Bool.and_comm]; exact qo))
      cases q : mayB (lnow nd.ref.row nd.to.row t n) nd.ref.col
      · obtain ⟨p1, p2⟩ := node6_off (f := rowR t n) (s := .slice a 0 cap) h6 (by show (mayB (lnow nd.ref.row nd.to.row t n) nd.ref.col && _) = false; rw [q]; rfl)
        rw [p1, p2]; exact double_2f dr dc t n nd a 0 cap w hm hm' t0 t1 qo (q1.trans q)
      · cases q' : mayB (lnow nd.to.row nd.ref.row t n) nd.to.col
        · obtain ⟨p1, p2⟩ := node6_off (f := rowR t n) (s := .slice a 0 cap) h6 (by show (mayB (lnow nd.ref.row nd.to.row t n) nd.ref.col && mayB (lnow nd.to.row nd.ref.row t n) nd.to.col) = false; rw [q, q']; rfl)
          rw [p1, p2]; exact double_2tf dr dc t n nd a 0 cap w hm hm' t0 t1 qo (q1.trans q) (q3.trans q')
        · obtain ⟨p1, p2⟩ := node6_on (f := rowR t n) (s := .slice a 0 cap) h6 q q'
          have hx : (rowR t n) nd.ref nd.to = ⟨endA t n nd.ref.row nd.to.row 65536, nd.ref.col, nd.ref.pr, nd.ref.pc⟩ := by unfold rowR; rw [q2 q]
          have hy : (rowR t n) nd.to nd.ref = ⟨endA t n nd.to.row nd.ref.row 65536, nd.to.col, nd.to.pr, nd.to.pc⟩ := by unfold rowR; rw [q4 q']
          rw [p1, p2, hx, hy]; exact double_2tt dr dc t n nd a 0 cap w hm hm' t0 t1 qo (q1.trans q) (q3.trans q')
    · obtain ⟨p1, p2⟩ := node6_off (f := rowR t n) (s := .slice a 0 cap) h6 (by have e : mayB (lnow nd.ref.row nd.to.row t n) nd.ref.col = false := (by rw [s1 qo]; rfl); show (mayB (lnow nd.ref.row nd.to.row t n) nd.ref.col && _) = false; rw [e]; rfl)
      rw [p1, p2]; exact double_2o dr dc t n nd a 0 cap w hm hm' t0 t1 qo
  · obtain ⟨s1, s2⟩ := eqv_double (x := nd.ref.col) (y := nd.to.col) (t := t) (n := n) (most := 702) hb.2.2.1 hb.2.2.2 hc.2.2.1 hc.2.2.2 t0 t1 (by omega)
    obtain ⟨r1, r2⟩ := eqv_double (x := nd.to.col) (y := nd.ref.col) (t := t) (n := n) (most := 702) hc.2.2.1 hc.2.2.2 hb.2.2.1 hb.2.2.2 t0 t1 (by omega)
    cases qo : (outR t n nd.ref.col 702 && outR t n nd.to.col 702)
    · obtain ⟨q1, q2⟩ := may_eqv_col (r := nd.ref.row) (s2 qo)
      obtain ⟨q3, q4⟩ := may_eqv_col (r := nd.to.row) (r2 (by rw [Bool.and_comm]; exact qo))
      cases q : mayB nd.ref.row (lnow nd.ref.col nd.to.col t n)
      · obtain ⟨p1, p2⟩ := node6_off (f := colR t n) (s := .slice a 0 cap) h6 (by show (mayB nd.ref.row (lnow nd.ref.col nd.to.col t n) && _) = false; rw [q]; rfl)
        rw [p1, p2]; exact double_3f dr dc t n nd a 0 cap w hm hm' t0 t1 qo (q1.trans q)
      · cases q' : mayB nd.to.row (lnow nd.to.col nd.ref.col t n)
        · obtain ⟨p1, p2⟩ := node6_off (f := colR t n) (s := .slice a 0 cap) h6 (by show (mayB nd.ref.row (lnow nd.ref.col nd.to.col t n) && mayB nd.to.row (lnow nd.to.col nd.ref.col t n)) = false; rw [q, q']; rfl)
          rw [p1, p2]; exact double_3tf dr dc t n nd a 0 cap w hm hm' t0 t1 qo (q1.trans q) (q3.trans q')
        · obtain ⟨p1, p2⟩ := node6_on (f := colR t n) (s := .slice a 0 cap) h6 q q'
          have hx : (colR t n) nd.ref nd.to = ⟨nd.ref.row, endA t n nd.ref.col nd.to.col 702, nd.ref.pr, nd.ref.pc⟩ := by unfold colR; rw [q2 q]
          have hy : (colR t n) nd.to nd.ref = ⟨nd.to.row, endA t n nd.to.col nd.ref.col 702, nd.to.pr, nd.to.pc⟩ := by unfold colR; rw [q4 q']
          rw [p1, p2, hx, hy]; exact double_3tt dr dc t n nd a 0 cap w hm hm' t0 t1 qo (q1.trans q) (q3.trans q')
    · obtain ⟨p1, p2⟩ := node6_off (f := colR t n) (s := .slice a 0 cap) h6 (by have e : mayB nd.ref.row (lnow nd.ref.col nd.to.col t n) = false := (by rw [s1 qo]; cases qq : mayB nd.ref.row (-1); rfl; (have := mayB_iff.1 qq; omega)); show (mayB nd.ref.row (lnow nd.ref.col nd.to.col t n) && _) = false; rw [e]; rfl)
      rw [p1, p2]; exact double_3o dr dc t n nd a 0 cap w hm hm' t0 t1 qo
end Go.Proofs.Ytnikmbkkhfmbeaa
