/- quadrillelaw12.call: of every call. Rows, or columns, put in and taken out again; what stands ahead of them; no Go in sight. quadrillelaw12.ahead: does all that a tree speaks of stand ahead of a row, or column? -/
import Derived.Test.YtbljdmegdejboaaCl12
import Derived.Test.YtbljdmegdejboaaShM12
import Derived.Test.YtbljdmegdejboaaNd12
namespace Go.Proofs.Ytbljdmegdejboaa
open Go.RowKit Go.Sort
set_option linter.unusedVariables false

/-- The error that a call answers. -/
def clEr (K M : Int) (u : Ex) : Int := if K = 1 then mayR u else if K = 2 then spotR u M 0 else spotR u 0 M
/-- How a call moves. -/
def clMv (K M N : Int) : Mv := if K = 1 then pasR M N else if K = 2 then rowR M N else colR M N
theorem call_any (K M N : Int) (u : Ex) (n1 n2 : Nd) (a1 a2 : Option Addr) (l1 c1 l2 c2 : Nat) (w : World) (h1 : Tree w (exV n1 (.slice a1 l1 c1)) u) (h2 : Tree w (exV n2 (.slice a2 l2 c2)) u) :
    Calls Try.prog 9 #[.agg (opX K M N n2 (.slice a2 l2 c2)), exV n1 (.slice a1 l1 c1)] w fun e w' => ClP w (clEr K M u) (movE (clMv K M N) u) e w' := by
  unfold clEr clMv
  by_cases k1 : K = 1
  · rw [if_pos k1, if_pos k1]
    by_cases he : mayR u = 0
    · exact call_1t K M N u n1 n2 a1 a2 l1 c1 l2 c2 w h1 h2 (by simp [k1]) he
    · exact call_1f K M N u n1 n2 a1 a2 l1 c1 l2 c2 w h1 h2 (by simp [k1]) he
  · rw [if_neg k1, if_neg k1]
    by_cases k2 : K = 2
    · rw [if_pos k2, if_pos k2]
      by_cases he : spotR u M 0 = 0
      · exact call_2t K M N u n1 n2 a1 a2 l1 c1 l2 c2 w h1 h2 (by simp [k1]) (by simp [k2]) he
      · exact call_2f K M N u n1 n2 a1 a2 l1 c1 l2 c2 w h1 h2 (by simp [k1]) (by simp [k2]) he
    · rw [if_neg k2, if_neg k2]
      by_cases he : spotR u 0 M = 0
      · exact call_3t K M N u n1 n2 a1 a2 l1 c1 l2 c2 w h1 h2 (by simp [k1]) (by simp [k2]) he
      · exact call_3f K M N u n1 n2 a1 a2 l1 c1 l2 c2 w h1 h2 (by simp [k1]) (by simp [k2]) he
end Go.Proofs.Ytbljdmegdejboaa
namespace Go.Proofs.Ytbljdmegdejboaa
open Go.RowKit
set_option linter.unusedVariables false

theorem lnow_back {x y z t n most : Int} (hm : most ≤ 65536) (h0 : 0 ≤ x) (h1 : x < most) (t0 : 0 ≤ t) (n0 : 1 ≤ n) (g0 : 0 ≤ lnow x y t n) (g1 : lnow x y t n < most) : lnow (lnow x y t n) z t (-n) = x := by
  unfold lnow at g0 g1 ⊢
  by_cases c : x < t
  · simp only [if_pos c]
  · simp only [if_neg c, if_pos (show 0 ≤ n by omega)] at g0 g1 ⊢
    unfold stp at g0 g1 ⊢
    rw [if_neg (by omega), if_neg (by omega), if_pos (by omega)]
    omega
theorem row_back {t n : Int} (t0 : 0 ≤ t) (n0 : 1 ≤ n) {u : Ex} (ha : allE u = true) (hk : kpE (rowR t n) u) : movE (rowR t (-n)) (movE (rowR t n) u) = u := by
  rw [mov_mov (rowR t n) (rowR t (-n)) idR (movN_movN (fun r p hr hp hf hf' => ?_)) u ha hk, mov_id ha]
  have hr' := mayB_iff.1 hr
  have hf := mayB_iff.1 hf
  have e : rowR t (-n) (rowR t n r p) (rowR t n p r) = idR r p := by
    show Rf.mk (lnow (lnow r.row p.row t n) _ t (-n)) r.col r.pr r.pc = r
    rw [lnow_back (by omega) hr'.1 hr'.2.1 t0 n0 hf.1 hf.2.1]
  rw [e]
  exact ⟨rfl, fun _ => rfl⟩
theorem col_back {t n : Int} (t0 : 0 ≤ t) (n0 : 1 ≤ n) {u : Ex} (ha : allE u = true) (hk : kpE (colR t n) u) : movE (colR t (-n)) (movE (colR t n) u) = u := by
  rw [mov_mov (colR t n) (colR t (-n)) idR (movN_movN (fun r p hr hp hf hf' => ?_)) u ha hk, mov_id ha]
  have hr' := mayB_iff.1 hr
  have hf := mayB_iff.1 hf
  have e : colR t (-n) (colR t n r p) (colR t n p r) = idR r p := by
    show Rf.mk r.row (lnow (lnow r.col p.col t n) _ t (-n)) r.pr r.pc = r
    rw [lnow_back (most := 702) (by omega) hr'.2.2.1 hr'.2.2.2 t0 n0 hf.2.2.1 hf.2.2.2]
  rw [e]
  exact ⟨rfl, fun _ => rfl⟩
/-- Does all that a node speaks of stand ahead? -/
def ahdN (n : Nd) (t : Int) (cols : Bool) : Bool :=
  if cols then decide (n.ref.col < t) && (decide (n.to.col < t) || decide (n.kind = 5)) else decide (n.ref.row < t) && (decide (n.to.row < t) || decide (n.kind = 5))
mutual
def ahdE (t : Int) (cols : Bool) : Ex → Bool | .mk nd ks => if placeB nd then ahdN nd t cols else ahdL t cols ks
def ahdL (t : Int) (cols : Bool) : List Ex → Bool | [] => true | k :: r => ahdE t cols k && ahdL t cols r
end
theorem ahdN_stay {n : Nd} {len : Nat} {t k : Int} {cols : Bool} (h : toldB n len = true) (hp : placeB n = true) (ha : ahdN n t cols = true) : movN (if cols then colR t k else rowR t k) n = n := by
  rcases of_decide_eq_true hp with h5 | h6
  · obtain ⟨e, hm, rfl⟩ := shape5 h h5
    rw [movN_5 _ h5 (by rw [e])]
    cases cols
    · have hl : n.ref.row < t := by unfold ahdN at ha; simp at ha; exact ha.1
      have hx : rowR t k n.ref n.ref = n.ref := by unfold rowR lnow; rw [if_pos hl]
      show (if mayB (rowR t k n.ref n.ref).row (rowR t k n.ref n.ref).col then { n with ref := rowR t k n.ref n.ref } else lostN) = n
      rw [hx, hm]; rfl
    · have hl : n.ref.col < t := by unfold ahdN at ha; simp at ha; exact ha.1
      have hx : colR t k n.ref n.ref = n.ref := by unfold colR lnow; rw [if_pos hl]
      show (if mayB (colR t k n.ref n.ref).row (colR t k n.ref n.ref).col then { n with ref := colR t k n.ref n.ref } else lostN) = n
      rw [hx, hm]; rfl
  · obtain ⟨e, hm, hm', rfl⟩ := shape6 h h6
    rw [movN_6 _ h6]
    cases cols
    · have hl : n.ref.row < t ∧ n.to.row < t := by unfold ahdN at ha; simp at ha; exact ⟨ha.1, ha.2.resolve_right (by omega)⟩
      have hx : rowR t k n.ref n.to = n.ref := by unfold rowR lnow; rw [if_pos hl.1]
      have hy : rowR t k n.to n.ref = n.to := by unfold rowR lnow; rw [if_pos hl.2]
      show (if mayB (rowR t k n.ref n.to).row (rowR t k n.ref n.to).col && mayB (rowR t k n.to n.ref).row (rowR t k n.to n.ref).col then { n with ref := rowR t k n.ref n.to, to := rowR t k n.to n.ref } else lostN) = n
      rw [hx, hy, hm, hm']; rfl
    · have hl : n.ref.col < t ∧ n.to.col < t := by unfold ahdN at ha; simp at ha; exact ⟨ha.1, ha.2.resolve_right (by omega)⟩
      have hx : colR t k n.ref n.to = n.ref := by unfold colR lnow; rw [if_pos hl.1]
      have hy : colR t k n.to n.ref = n.to := by unfold colR lnow; rw [if_pos hl.2]
      show (if mayB (colR t k n.ref n.to).row (colR t k n.ref n.to).col && mayB (colR t k n.to n.ref).row (colR t k n.to n.ref).col then { n with ref := colR t k n.ref n.to, to := colR t k n.to n.ref } else lostN) = n
      rw [hx, hy, hm, hm']; rfl
mutual
theorem ahd_stay {t k : Int} {cols : Bool} : ∀ u : Ex, allE u = true → ahdE t cols u = true → movE (if cols then colR t k else rowR t k) u = u
  | .mk nd ks, h, ha => by
    obtain ⟨h1, h2⟩ := all_mk h
    rw [ahdE] at ha
    cases q : placeB nd
    · rw [q] at ha
      have q' := of_decide_eq_false q
      rw [movE, movN_other _ h1 (fun e => q' (.inl e)) (fun e => q' (.inr e)), ahd_stayL ks h2 ha]
    · rw [q] at ha
      have hk : ks = [] := by
        rcases of_decide_eq_true q with e | e
        · exact List.eq_nil_of_length_eq_zero (shape5 h1 e).2.2
        · exact List.eq_nil_of_length_eq_zero (shape6 h1 e).2.2.2
      subst hk
      rw [movE, ahdN_stay h1 q ha, movL]
theorem ahd_stayL {t k : Int} {cols : Bool} : ∀ ks : List Ex, allL ks = true → ahdL t cols ks = true → movL (if cols then colR t k else rowR t k) ks = ks
  | [], h, ha => by rw [movL]
  | u :: r, h, ha => by
    obtain ⟨h1, h2⟩ := allL_cons h
    rw [ahdL, Bool.and_eq_true] at ha
    rw [movL, ahd_stay u h1 ha.1, ahd_stayL r h2 ha.2]
end
end Go.Proofs.Ytbljdmegdejboaa
namespace Go.Proofs.Ytbljdmegdejboaa
open Go.RowKit Go.Sort
set_option linter.unusedVariables false

set_option maxHeartbeats 1000000 in
set_option maxRecDepth 100000 in
theorem ah_5rf (nd : Nd) (s : Value) (t : Int) (w : World) (hk : nd.kind = 5) (ha : ¬ nd.ref.row < t) : Calls Try.prog 15 #[exV nd s, .int .i64 t, .bool false] w fun e w' => e = .returned (.bool false) ∧ Below w.heap.size w w' := by
  have k5 : (nd.kind == 5) = true := by rw [hk]; rfl
  have k6 : (nd.kind == 6) = false := by rw [hk]; rfl
  have d1 : decide (nd.ref.row < t) = false := decide_eq_false ha
  have P0 := hide (Blk.new w (exC nd s) 29)
  have B0 := hide (step (Below.refl w.heap.size w) (exO nd s))
  obtain ⟨w0, hw0⟩ : ∃ w0, w.alloc (exO nd s) = w0 := ⟨_, rfl⟩
  rw [hw0] at P0 B0
  clear hk ha
  obtain ⟨z0, z1, z2, z3, z4, z5, z6, z7, z8, z9, z10, z11, z12, z13⟩ := P0.out.c14
  have y0 := cell_rg z0
  have y1 := cell_rg z1
  have y2 := cell_rg z2
  have y3 := cell_rg z3
  have y4 := cell_rg z4
  have y5 := cell_rg z5
  have y6 := cell_rg z6
  have y7 := cell_rg z7
  have y8 := cell_rg z8
  have y9 := cell_rg z9
  have y10 := cell_rg z10
  have y11 := cell_rg z11
  have y12 := cell_rg z12
  have y13 := cell_rg z13
  go_enter Try.func15, Try.ntmps15
  go_wp2_with fail
  clear hw0
  refine wp_region_quiet_below (by kernel_rfl) (by kernel_rfl) ?_
  repeat (go_big_quiet_step (fail))
  refine wpQuiet_nil ?_
  intro _ hw'
  obtain ⟨⟨dq1, osq1⟩, hw''⟩ := hw'
  subst hw''
  have B1 := hide (next B0.out (below_regrown _ dq1 osq1))
  have P1 := hide (P0.out.keep (below_regrown _ dq1 osq1))
  obtain ⟨w1, hw1⟩ : ∃ w1, grow (redrawn w0 dq1) osq1 = w1 := ⟨_, rfl⟩
  rw [hw1] at B1 P1 ⊢
  clear hw1 z0 y0 z1 y1 z2 y2 z3 y3 z4 y4 z5 y5 z6 y6 z7 y7 z8 y8 z9 y9 z10 y10 z11 y11 z12 y12 z13 y13
  obtain ⟨z0, z1, z2, z3, z4, z5, z6, z7, z8, z9, z10, z11, z12, z13⟩ := P1.out.c14
  have y0 := cell_rg z0
  have y1 := cell_rg z1
  have y2 := cell_rg z2
  have y3 := cell_rg z3
  have y4 := cell_rg z4
  have y5 := cell_rg z5
  have y6 := cell_rg z6
  have y7 := cell_rg z7
  have y8 := cell_rg z8
  have y9 := cell_rg z9
  have y10 := cell_rg z10
  have y11 := cell_rg z11
  have y12 := cell_rg z12
  have y13 := cell_rg z13
  go_wp2_with fail
  go_ret
  exact ⟨rfl, B1.out⟩
set_option maxHeartbeats 1000000 in
set_option maxRecDepth 100000 in
theorem ah_5rtt (nd : Nd) (s : Value) (t : Int) (w : World) (hk : nd.kind = 5) (ha : nd.ref.row < t) (hb : nd.to.row < t) : Calls Try.prog 15 #[exV nd s, .int .i64 t, .bool false] w fun e w' => e = .returned (.bool true) ∧ Below w.heap.size w w' := by
  have k5 : (nd.kind == 5) = true := by rw [hk]; rfl
  have k6 : (nd.kind == 6) = false := by rw [hk]; rfl
  have d1 : decide (nd.ref.row < t) = true := decide_eq_true ha
  have d2 : decide (nd.to.row < t) = true := decide_eq_true hb
  have P0 := hide (Blk.new w (exC nd s) 29)
  have B0 := hide (step (Below.refl w.heap.size w) (exO nd s))
  obtain ⟨w0, hw0⟩ : ∃ w0, w.alloc (exO nd s) = w0 := ⟨_, rfl⟩
  rw [hw0] at P0 B0
  clear hk ha hb
  obtain ⟨z0, z1, z2, z3, z4, z5, z6, z7, z8, z9, z10, z11, z12, z13⟩ := P0.out.c14
  have y0 := cell_rg z0
  have y1 := cell_rg z1
  have y2 := cell_rg z2
  have y3 := cell_rg z3
  have y4 := cell_rg z4
  have y5 := cell_rg z5
  have y6 := cell_rg z6
  have y7 := cell_rg z7
  have y8 := cell_rg z8
  have y9 := cell_rg z9
  have y10 := cell_rg z10
  have y11 := cell_rg z11
  have y12 := cell_rg z12
  have y13 := cell_rg z13
  go_enter Try.func15, Try.ntmps15
  go_wp2_with fail
  clear hw0
  refine wp_region_quiet_below (by kernel_rfl) (by kernel_rfl) ?_
  repeat (go_big_quiet_step (fail))
  refine wpQuiet_nil ?_
  intro _ hw'
  obtain ⟨⟨dq1, osq1⟩, hw''⟩ := hw'
  subst hw''
  have B1 := hide (next B0.out (below_regrown _ dq1 osq1))
  have P1 := hide (P0.out.keep (below_regrown _ dq1 osq1))
  obtain ⟨w1, hw1⟩ : ∃ w1, grow (redrawn w0 dq1) osq1 = w1 := ⟨_, rfl⟩
  rw [hw1] at B1 P1 ⊢
  clear hw1 z0 y0 z1 y1 z2 y2 z3 y3 z4 y4 z5 y5 z6 y6 z7 y7 z8 y8 z9 y9 z10 y10 z11 y11 z12 y12 z13 y13
  obtain ⟨z0, z1, z2, z3, z4, z5, z6, z7, z8, z9, z10, z11, z12, z13⟩ := P1.out.c14
  have y0 := cell_rg z0
  have y1 := cell_rg z1
  have y2 := cell_rg z2
  have y3 := cell_rg z3
  have y4 := cell_rg z4
  have y5 := cell_rg z5
  have y6 := cell_rg z6
  have y7 := cell_rg z7
  have y8 := cell_rg z8
  have y9 := cell_rg z9
  have y10 := cell_rg z10
  have y11 := cell_rg z11
  have y12 := cell_rg z12
  have y13 := cell_rg z13
  go_wp2_with fail
  go_ret
  exact ⟨rfl, B1.out⟩
set_option maxHeartbeats 1000000 in
set_option maxRecDepth 100000 in
theorem ah_5rtf (nd : Nd) (s : Value) (t : Int) (w : World) (hk : nd.kind = 5) (ha : nd.ref.row < t) (hb : ¬ nd.to.row < t) : Calls Try.prog 15 #[exV nd s, .int .i64 t, .bool false] w fun e w' => e = .returned (.bool true) ∧ Below w.heap.size w w' := by
  have k5 : (nd.kind == 5) = true := by rw [hk]; rfl
  have k6 : (nd.kind == 6) = false := by rw [hk]; rfl
  have d1 : decide (nd.ref.row < t) = true := decide_eq_true ha
  have d2 : decide (nd.to.row < t) = false := decide_eq_false hb
  have P0 := hide (Blk.new w (exC nd s) 29)
  have B0 := hide (step (Below.refl w.heap.size w) (exO nd s))
  obtain ⟨w0, hw0⟩ : ∃ w0, w.alloc (exO nd s) = w0 := ⟨_, rfl⟩
  rw [hw0] at P0 B0
  clear hk ha hb
  obtain ⟨z0, z1, z2, z3, z4, z5, z6, z7, z8, z9, z10, z11, z12, z13⟩ := P0.out.c14
  have y0 := cell_rg z0
  have y1 := cell_rg z1
  have y2 := cell_rg z2
  have y3 := cell_rg z3
  have y4 := cell_rg z4
  have y5 := cell_rg z5
  have y6 := cell_rg z6
  have y7 := cell_rg z7
  have y8 := cell_rg z8
  have y9 := cell_rg z9
  have y10 := cell_rg z10
  have y11 := cell_rg z11
  have y12 := cell_rg z12
  have y13 := cell_rg z13
  go_enter Try.func15, Try.ntmps15
  go_wp2_with fail
  clear hw0
  refine wp_region_quiet_below (by kernel_rfl) (by kernel_rfl) ?_
  repeat (go_big_quiet_step (fail))
  refine wpQuiet_nil ?_
  intro _ hw'
  obtain ⟨⟨dq1, osq1⟩, hw''⟩ := hw'
  subst hw''
  have B1 := hide (next B0.out (below_regrown _ dq1 osq1))
  have P1 := hide (P0.out.keep (below_regrown _ dq1 osq1))
  obtain ⟨w1, hw1⟩ : ∃ w1, grow (redrawn w0 dq1) osq1 = w1 := ⟨_, rfl⟩
  rw [hw1] at B1 P1 ⊢
  clear hw1 z0 y0 z1 y1 z2 y2 z3 y3 z4 y4 z5 y5 z6 y6 z7 y7 z8 y8 z9 y9 z10 y10 z11 y11 z12 y12 z13 y13
  obtain ⟨z0, z1, z2, z3, z4, z5, z6, z7, z8, z9, z10, z11, z12, z13⟩ := P1.out.c14
  have y0 := cell_rg z0
  have y1 := cell_rg z1
  have y2 := cell_rg z2
  have y3 := cell_rg z3
  have y4 := cell_rg z4
  have y5 := cell_rg z5
  have y6 := cell_rg z6
  have y7 := cell_rg z7
  have y8 := cell_rg z8
  have y9 := cell_rg z9
  have y10 := cell_rg z10
  have y11 := cell_rg z11
  have y12 := cell_rg z12
  have y13 := cell_rg z13
  go_wp2_with fail
  go_ret
  exact ⟨rfl, B1.out⟩
set_option maxHeartbeats 1000000 in
set_option maxRecDepth 100000 in
theorem ah_5cf (nd : Nd) (s : Value) (t : Int) (w : World) (hk : nd.kind = 5) (ha : ¬ nd.ref.col < t) : Calls Try.prog 15 #[exV nd s, .int .i64 t, .bool true] w fun e w' => e = .returned (.bool false) ∧ Below w.heap.size w w' := by
  have k5 : (nd.kind == 5) = true := by rw [hk]; rfl
  have k6 : (nd.kind == 6) = false := by rw [hk]; rfl
  have d1 : decide (nd.ref.col < t) = false := decide_eq_false ha
  have P0 := hide (Blk.new w (exC nd s) 29)
  have B0 := hide (step (Below.refl w.heap.size w) (exO nd s))
  obtain ⟨w0, hw0⟩ : ∃ w0, w.alloc (exO nd s) = w0 := ⟨_, rfl⟩
  rw [hw0] at P0 B0
  clear hk ha
  obtain ⟨z0, z1, z2, z3, z4, z5, z6, z7, z8, z9, z10, z11, z12, z13⟩ := P0.out.c14
  have y0 := cell_rg z0
  have y1 := cell_rg z1
  have y2 := cell_rg z2
  have y3 := cell_rg z3
  have y4 := cell_rg z4
  have y5 := cell_rg z5
  have y6 := cell_rg z6
  have y7 := cell_rg z7
  have y8 := cell_rg z8
  have y9 := cell_rg z9
  have y10 := cell_rg z10
  have y11 := cell_rg z11
  have y12 := cell_rg z12
  have y13 := cell_rg z13
  go_enter Try.func15, Try.ntmps15
  go_wp2_with fail
  clear hw0
  refine wp_region_quiet_below (by kernel_rfl) (by kernel_rfl) ?_
  repeat (go_big_quiet_step (fail))
  refine wpQuiet_nil ?_
  intro _ hw'
  obtain ⟨⟨dq1, osq1⟩, hw''⟩ := hw'
  subst hw''
  have B1 := hide (next B0.out (below_regrown _ dq1 osq1))
  have P1 := hide (P0.out.keep (below_regrown _ dq1 osq1))
  obtain ⟨w1, hw1⟩ : ∃ w1, grow (redrawn w0 dq1) osq1 = w1 := ⟨_, rfl⟩
  rw [hw1] at B1 P1 ⊢
  clear hw1 z0 y0 z1 y1 z2 y2 z3 y3 z4 y4 z5 y5 z6 y6 z7 y7 z8 y8 z9 y9 z10 y10 z11 y11 z12 y12 z13 y13
  obtain ⟨z0, z1, z2, z3, z4, z5, z6, z7, z8, z9, z10, z11, z12, z13⟩ := P1.out.c14
  have y0 := cell_rg z0
  have y1 := cell_rg z1
  have y2 := cell_rg z2
  have y3 := cell_rg z3
  have y4 := cell_rg z4
  have y5 := cell_rg z5
  have y6 := cell_rg z6
  have y7 := cell_rg z7
  have y8 := cell_rg z8
  have y9 := cell_rg z9
  have y10 := cell_rg z10
  have y11 := cell_rg z11
  have y12 := cell_rg z12
  have y13 := cell_rg z13
  go_wp2_with fail
  refine wp_region_quiet_below (by kernel_rfl) (by kernel_rfl) ?_
  repeat (go_big_quiet_step (fail))
  refine wpQuiet_nil ?_
  intro _ hw'
  obtain ⟨⟨dq2, osq2⟩, hw''⟩ := hw'
  subst hw''
  have B2 := hide (next B1.out (below_regrown _ dq2 osq2))
  have P2 := hide (P1.out.keep (below_regrown _ dq2 osq2))
  obtain ⟨w2, hw2⟩ : ∃ w2, grow (redrawn w1 dq2) osq2 = w2 := ⟨_, rfl⟩
  rw [hw2] at B2 P2 ⊢
  clear hw2 z0 y0 z1 y1 z2 y2 z3 y3 z4 y4 z5 y5 z6 y6 z7 y7 z8 y8 z9 y9 z10 y10 z11 y11 z12 y12 z13 y13
  obtain ⟨z0, z1, z2, z3, z4, z5, z6, z7, z8, z9, z10, z11, z12, z13⟩ := P2.out.c14
  have y0 := cell_rg z0
  have y1 := cell_rg z1
  have y2 := cell_rg z2
  have y3 := cell_rg z3
  have y4 := cell_rg z4
  have y5 := cell_rg z5
  have y6 := cell_rg z6
  have y7 := cell_rg z7
  have y8 := cell_rg z8
  have y9 := cell_rg z9
  have y10 := cell_rg z10
  have y11 := cell_rg z11
  have y12 := cell_rg z12
  have y13 := cell_rg z13
  go_wp2_with fail
  go_ret
  exact ⟨rfl, B2.out⟩
set_option maxHeartbeats 1000000 in
set_option maxRecDepth 100000 in
theorem ah_5ctt (nd : Nd) (s : Value) (t : Int) (w : World) (hk : nd.kind = 5) (ha : nd.ref.col < t) (hb : nd.to.col < t) : Calls Try.prog 15 #[exV nd s, .int .i64 t, .bool true] w fun e w' => e = .returned (.bool true) ∧ Below w.heap.size w w' := by
  have k5 : (nd.kind == 5) = true := by rw [hk]; rfl
  have k6 : (nd.kind == 6) = false := by rw [hk]; rfl
  have d1 : decide (nd.ref.col < t) = true := decide_eq_true ha
  have d2 : decide (nd.to.col < t) = true := decide_eq_true hb
  have P0 := hide (Blk.new w (exC nd s) 29)
  have B0 := hide (step (Below.refl w.heap.size w) (exO nd s))
  obtain ⟨w0, hw0⟩ : ∃ w0, w.alloc (exO nd s) = w0 := ⟨_, rfl⟩
  rw [hw0] at P0 B0
  clear hk ha hb
  obtain ⟨z0, z1, z2, z3, z4, z5, z6, z7, z8, z9, z10, z11, z12, z13⟩ := P0.out.c14
  have y0 := cell_rg z0
  have y1 := cell_rg z1
  have y2 := cell_rg z2
  have y3 := cell_rg z3
  have y4 := cell_rg z4
  have y5 := cell_rg z5
  have y6 := cell_rg z6
  have y7 := cell_rg z7
  have y8 := cell_rg z8
  have y9 := cell_rg z9
  have y10 := cell_rg z10
  have y11 := cell_rg z11
  have y12 := cell_rg z12
  have y13 := cell_rg z13
  go_enter Try.func15, Try.ntmps15
  go_wp2_with fail
  clear hw0
  refine wp_region_quiet_below (by kernel_rfl) (by kernel_rfl) ?_
  repeat (go_big_quiet_step (fail))
  refine wpQuiet_nil ?_
  intro _ hw'
  obtain ⟨⟨dq1, osq1⟩, hw''⟩ := hw'
  subst hw''
  have B1 := hide (next B0.out (below_regrown _ dq1 osq1))
  have P1 := hide (P0.out.keep (below_regrown _ dq1 osq1))
  obtain ⟨w1, hw1⟩ : ∃ w1, grow (redrawn w0 dq1) osq1 = w1 := ⟨_, rfl⟩
  rw [hw1] at B1 P1 ⊢
  clear hw1 z0 y0 z1 y1 z2 y2 z3 y3 z4 y4 z5 y5 z6 y6 z7 y7 z8 y8 z9 y9 z10 y10 z11 y11 z12 y12 z13 y13
  obtain ⟨z0, z1, z2, z3, z4, z5, z6, z7, z8, z9, z10, z11, z12, z13⟩ := P1.out.c14
  have y0 := cell_rg z0
  have y1 := cell_rg z1
  have y2 := cell_rg z2
  have y3 := cell_rg z3
  have y4 := cell_rg z4
  have y5 := cell_rg z5
  have y6 := cell_rg z6
  have y7 := cell_rg z7
  have y8 := cell_rg z8
  have y9 := cell_rg z9
  have y10 := cell_rg z10
  have y11 := cell_rg z11
  have y12 := cell_rg z12
  have y13 := cell_rg z13
  go_wp2_with fail
  refine wp_region_quiet_below (by kernel_rfl) (by kernel_rfl) ?_
  repeat (go_big_quiet_step (fail))
  refine wpQuiet_nil ?_
  intro _ hw'
  obtain ⟨⟨dq2, osq2⟩, hw''⟩ := hw'
  subst hw''
  have B2 := hide (next B1.out (below_regrown _ dq2 osq2))
  have P2 := hide (P1.out.keep (below_regrown _ dq2 osq2))
  obtain ⟨w2, hw2⟩ : ∃ w2, grow (redrawn w1 dq2) osq2 = w2 := ⟨_, rfl⟩
  rw [hw2] at B2 P2 ⊢
  clear hw2 z0 y0 z1 y1 z2 y2 z3 y3 z4 y4 z5 y5 z6 y6 z7 y7 z8 y8 z9 y9 z10 y10 z11 y11 z12 y12 z13 y13
  obtain ⟨z0, z1, z2, z3, z4, z5, z6, z7, z8, z9, z10, z11, z12, z13⟩ := P2.out.c14
  have y0 := cell_rg z0
  have y1 := cell_rg z1
  have y2 := cell_rg z2
  have y3 := cell_rg z3
  have y4 := cell_rg z4
  have y5 := cell_rg z5
  have y6 := cell_rg z6
  have y7 := cell_rg z7
  have y8 := cell_rg z8
  have y9 := cell_rg z9
  have y10 := cell_rg z10
  have y11 := cell_rg z11
  have y12 := cell_rg z12
  have y13 := cell_rg z13
  go_wp2_with fail
  go_ret
  exact ⟨rfl, B2.out⟩
set_option maxHeartbeats 1000000 in
set_option maxRecDepth 100000 in
theorem ah_5ctf (nd : Nd) (s : Value) (t : Int) (w : World) (hk : nd.kind = 5) (ha : nd.ref.col < t) (hb : ¬ nd.to.col < t) : Calls Try.prog 15 #[exV nd s, .int .i64 t, .bool true] w fun e w' => e = .returned (.bool true) ∧ Below w.heap.size w w' := by
  have k5 : (nd.kind == 5) = true := by rw [hk]; rfl
  have k6 : (nd.kind == 6) = false := by rw [hk]; rfl
  have d1 : decide (nd.ref.col < t) = true := decide_eq_true ha
  have d2 : decide (nd.to.col < t) = false := decide_eq_false hb
  have P0 := hide (Blk.new w (exC nd s) 29)
  have B0 := hide (step (Below.refl w.heap.size w) (exO nd s))
  obtain ⟨w0, hw0⟩ : ∃ w0, w.alloc (exO nd s) = w0 := ⟨_, rfl⟩
  rw [hw0] at P0 B0
  clear hk ha hb
  obtain ⟨z0, z1, z2, z3, z4, z5, z6, z7, z8, z9, z10, z11, z12, z13⟩ := P0.out.c14
  have y0 := cell_rg z0
  have y1 := cell_rg z1
  have y2 := cell_rg z2
  have y3 := cell_rg z3
  have y4 := cell_rg z4
  have y5 := cell_rg z5
  have y6 := cell_rg z6
  have y7 := cell_rg z7
  have y8 := cell_rg z8
  have y9 := cell_rg z9
  have y10 := cell_rg z10
  have y11 := cell_rg z11
  have y12 := cell_rg z12
  have y13 := cell_rg z13
  go_enter Try.func15, Try.ntmps15
  go_wp2_with fail
  clear hw0
  refine wp_region_quiet_below (by kernel_rfl) (by kernel_rfl) ?_
  repeat (go_big_quiet_step (fail))
  refine wpQuiet_nil ?_
  intro _ hw'
  obtain ⟨⟨dq1, osq1⟩, hw''⟩ := hw'
  subst hw''
  have B1 := hide (next B0.out (below_regrown _ dq1 osq1))
  have P1 := hide (P0.out.keep (below_regrown _ dq1 osq1))
  obtain ⟨w1, hw1⟩ : ∃ w1, grow (redrawn w0 dq1) osq1 = w1 := ⟨_, rfl⟩
  rw [hw1] at B1 P1 ⊢
  clear hw1 z0 y0 z1 y1 z2 y2 z3 y3 z4 y4 z5 y5 z6 y6 z7 y7 z8 y8 z9 y9 z10 y10 z11 y11 z12 y12 z13 y13
  obtain ⟨z0, z1, z2, z3, z4, z5, z6, z7, z8, z9, z10, z11, z12, z13⟩ := P1.out.c14
  have y0 := cell_rg z0
  have y1 := cell_rg z1
  have y2 := cell_rg z2
  have y3 := cell_rg z3
  have y4 := cell_rg z4
  have y5 := cell_rg z5
  have y6 := cell_rg z6
  have y7 := cell_rg z7
  have y8 := cell_rg z8
  have y9 := cell_rg z9
  have y10 := cell_rg z10
  have y11 := cell_rg z11
  have y12 := cell_rg z12
  have y13 := cell_rg z13
  go_wp2_with fail
  refine wp_region_quiet_below (by kernel_rfl) (by kernel_rfl) ?_
  repeat (go_big_quiet_step (fail))
  refine wpQuiet_nil ?_
  intro _ hw'
  obtain ⟨⟨dq2, osq2⟩, hw''⟩ := hw'
  subst hw''
  have B2 := hide (next B1.out (below_regrown _ dq2 osq2))
  have P2 := hide (P1.out.keep (below_regrown _ dq2 osq2))
  obtain ⟨w2, hw2⟩ : ∃ w2, grow (redrawn w1 dq2) osq2 = w2 := ⟨_, rfl⟩
  rw [hw2] at B2 P2 ⊢
  clear hw2 z0 y0 z1 y1 z2 y2 z3 y3 z4 y4 z5 y5 z6 y6 z7 y7 z8 y8 z9 y9 z10 y10 z11 y11 z12 y12 z13 y13
  obtain ⟨z0, z1, z2, z3, z4, z5, z6, z7, z8, z9, z10, z11, z12, z13⟩ := P2.out.c14
  have y0 := cell_rg z0
  have y1 := cell_rg z1
  have y2 := cell_rg z2
  have y3 := cell_rg z3
  have y4 := cell_rg z4
  have y5 := cell_rg z5
  have y6 := cell_rg z6
  have y7 := cell_rg z7
  have y8 := cell_rg z8
  have y9 := cell_rg z9
  have y10 := cell_rg z10
  have y11 := cell_rg z11
  have y12 := cell_rg z12
  have y13 := cell_rg z13
  go_wp2_with fail
  go_ret
  exact ⟨rfl, B2.out⟩
set_option maxHeartbeats 1000000 in
set_option maxRecDepth 100000 in
theorem ah_6rf (nd : Nd) (s : Value) (t : Int) (w : World) (hk : nd.kind = 6) (ha : ¬ nd.ref.row < t) : Calls Try.prog 15 #[exV nd s, .int .i64 t, .bool false] w fun e w' => e = .returned (.bool false) ∧ Below w.heap.size w w' := by
  have k5 : (nd.kind == 5) = false := by rw [hk]; rfl
  have k6 : (nd.kind == 6) = true := by rw [hk]; rfl
  have d1 : decide (nd.ref.row < t) = false := decide_eq_false ha
  have P0 := hide (Blk.new w (exC nd s) 29)
  have B0 := hide (step (Below.refl w.heap.size w) (exO nd s))
  obtain ⟨w0, hw0⟩ : ∃ w0, w.alloc (exO nd s) = w0 := ⟨_, rfl⟩
  rw [hw0] at P0 B0
  clear hk ha
  obtain ⟨z0, z1, z2, z3, z4, z5, z6, z7, z8, z9, z10, z11, z12, z13⟩ := P0.out.c14
  have y0 := cell_rg z0
  have y1 := cell_rg z1
  have y2 := cell_rg z2
  have y3 := cell_rg z3
  have y4 := cell_rg z4
  have y5 := cell_rg z5
  have y6 := cell_rg z6
  have y7 := cell_rg z7
  have y8 := cell_rg z8
  have y9 := cell_rg z9
  have y10 := cell_rg z10
  have y11 := cell_rg z11
  have y12 := cell_rg z12
  have y13 := cell_rg z13
  go_enter Try.func15, Try.ntmps15
  go_wp2_with fail
  clear hw0
  refine wp_region_quiet_below (by kernel_rfl) (by kernel_rfl) ?_
  repeat (go_big_quiet_step (fail))
  refine wpQuiet_nil ?_
  intro _ hw'
  obtain ⟨⟨dq1, osq1⟩, hw''⟩ := hw'
  subst hw''
  have B1 := hide (next B0.out (below_regrown _ dq1 osq1))
  have P1 := hide (P0.out.keep (below_regrown _ dq1 osq1))
  obtain ⟨w1, hw1⟩ : ∃ w1, grow (redrawn w0 dq1) osq1 = w1 := ⟨_, rfl⟩
  rw [hw1] at B1 P1 ⊢
  clear hw1 z0 y0 z1 y1 z2 y2 z3 y3 z4 y4 z5 y5 z6 y6 z7 y7 z8 y8 z9 y9 z10 y10 z11 y11 z12 y12 z13 y13
  obtain ⟨z0, z1, z2, z3, z4, z5, z6, z7, z8, z9, z10, z11, z12, z13⟩ := P1.out.c14
  have y0 := cell_rg z0
  have y1 := cell_rg z1
  have y2 := cell_rg z2
  have y3 := cell_rg z3
  have y4 := cell_rg z4
  have y5 := cell_rg z5
  have y6 := cell_rg z6
  have y7 := cell_rg z7
  have y8 := cell_rg z8
  have y9 := cell_rg z9
  have y10 := cell_rg z10
  have y11 := cell_rg z11
  have y12 := cell_rg z12
  have y13 := cell_rg z13
  go_wp2_with fail
  go_ret
  exact ⟨rfl, B1.out⟩
set_option maxHeartbeats 1000000 in
set_option maxRecDepth 100000 in
theorem ah_6rtt (nd : Nd) (s : Value) (t : Int) (w : World) (hk : nd.kind = 6) (ha : nd.ref.row < t) (hb : nd.to.row < t) : Calls Try.prog 15 #[exV nd s, .int .i64 t, .bool false] w fun e w' => e = .returned (.bool true) ∧ Below w.heap.size w w' := by
  have k5 : (nd.kind == 5) = false := by rw [hk]; rfl
  have k6 : (nd.kind == 6) = true := by rw [hk]; rfl
  have d1 : decide (nd.ref.row < t) = true := decide_eq_true ha
  have d2 : decide (nd.to.row < t) = true := decide_eq_true hb
  have P0 := hide (Blk.new w (exC nd s) 29)
  have B0 := hide (step (Below.refl w.heap.size w) (exO nd s))
  obtain ⟨w0, hw0⟩ : ∃ w0, w.alloc (exO nd s) = w0 := ⟨_, rfl⟩
  rw [hw0] at P0 B0
  clear hk ha hb
  obtain ⟨z0, z1, z2, z3, z4, z5, z6, z7, z8, z9, z10, z11, z12, z13⟩ := P0.out.c14
  have y0 := cell_rg z0
  have y1 := cell_rg z1
  have y2 := cell_rg z2
  have y3 := cell_rg z3
  have y4 := cell_rg z4
  have y5 := cell_rg z5
  have y6 := cell_rg z6
  have y7 := cell_rg z7
  have y8 := cell_rg z8
  have y9 := cell_rg z9
  have y10 := cell_rg z10
  have y11 := cell_rg z11
  have y12 := cell_rg z12
  have y13 := cell_rg z13
  go_enter Try.func15, Try.ntmps15
  go_wp2_with fail
  clear hw0
  refine wp_region_quiet_below (by kernel_rfl) (by kernel_rfl) ?_
  repeat (go_big_quiet_step (fail))
  refine wpQuiet_nil ?_
  intro _ hw'
  obtain ⟨⟨dq1, osq1⟩, hw''⟩ := hw'
  subst hw''
  have B1 := hide (next B0.out (below_regrown _ dq1 osq1))
  have P1 := hide (P0.out.keep (below_regrown _ dq1 osq1))
  obtain ⟨w1, hw1⟩ : ∃ w1, grow (redrawn w0 dq1) osq1 = w1 := ⟨_, rfl⟩
  rw [hw1] at B1 P1 ⊢
  clear hw1 z0 y0 z1 y1 z2 y2 z3 y3 z4 y4 z5 y5 z6 y6 z7 y7 z8 y8 z9 y9 z10 y10 z11 y11 z12 y12 z13 y13
  obtain ⟨z0, z1, z2, z3, z4, z5, z6, z7, z8, z9, z10, z11, z12, z13⟩ := P1.out.c14
  have y0 := cell_rg z0
  have y1 := cell_rg z1
  have y2 := cell_rg z2
  have y3 := cell_rg z3
  have y4 := cell_rg z4
  have y5 := cell_rg z5
  have y6 := cell_rg z6
  have y7 := cell_rg z7
  have y8 := cell_rg z8
  have y9 := cell_rg z9
  have y10 := cell_rg z10
  have y11 := cell_rg z11
  have y12 := cell_rg z12
  have y13 := cell_rg z13
  go_wp2_with fail
  go_ret
  exact ⟨rfl, B1.out⟩
set_option maxHeartbeats 1000000 in
set_option maxRecDepth 100000 in
theorem ah_6rtf (nd : Nd) (s : Value) (t : Int) (w : World) (hk : nd.kind = 6) (ha : nd.ref.row < t) (hb : ¬ nd.to.row < t) : Calls Try.prog 15 #[exV nd s, .int .i64 t, .bool false] w fun e w' => e = .returned (.bool false) ∧ Below w.heap.size w w' := by
  have k5 : (nd.kind == 5) = false := by rw [hk]; rfl
  have k6 : (nd.kind == 6) = true := by rw [hk]; rfl
  have d1 : decide (nd.ref.row < t) = true := decide_eq_true ha
  have d2 : decide (nd.to.row < t) = false := decide_eq_false hb
  have P0 := hide (Blk.new w (exC nd s) 29)
  have B0 := hide (step (Below.refl w.heap.size w) (exO nd s))
  obtain ⟨w0, hw0⟩ : ∃ w0, w.alloc (exO nd s) = w0 := ⟨_, rfl⟩
  rw [hw0] at P0 B0
  clear hk ha hb
  obtain ⟨z0, z1, z2, z3, z4, z5, z6, z7, z8, z9, z10, z11, z12, z13⟩ := P0.out.c14
  have y0 := cell_rg z0
  have y1 := cell_rg z1
  have y2 := cell_rg z2
  have y3 := cell_rg z3
  have y4 := cell_rg z4
  have y5 := cell_rg z5
  have y6 := cell_rg z6
  have y7 := cell_rg z7
  have y8 := cell_rg z8
  have y9 := cell_rg z9
  have y10 := cell_rg z10
  have y11 := cell_rg z11
  have y12 := cell_rg z12
  have y13 := cell_rg z13
  go_enter Try.func15, Try.ntmps15
  go_wp2_with fail
  clear hw0
  refine wp_region_quiet_below (by kernel_rfl) (by kernel_rfl) ?_
  repeat (go_big_quiet_step (fail))
  refine wpQuiet_nil ?_
  intro _ hw'
  obtain ⟨⟨dq1, osq1⟩, hw''⟩ := hw'
  subst hw''
  have B1 := hide (next B0.out (below_regrown _ dq1 osq1))
  have P1 := hide (P0.out.keep (below_regrown _ dq1 osq1))
  obtain ⟨w1, hw1⟩ : ∃ w1, grow (redrawn w0 dq1) osq1 = w1 := ⟨_, rfl⟩
  rw [hw1] at B1 P1 ⊢
  clear hw1 z0 y0 z1 y1 z2 y2 z3 y3 z4 y4 z5 y5 z6 y6 z7 y7 z8 y8 z9 y9 z10 y10 z11 y11 z12 y12 z13 y13
  obtain ⟨z0, z1, z2, z3, z4, z5, z6, z7, z8, z9, z10, z11, z12, z13⟩ := P1.out.c14
  have y0 := cell_rg z0
  have y1 := cell_rg z1
  have y2 := cell_rg z2
  have y3 := cell_rg z3
  have y4 := cell_rg z4
  have y5 := cell_rg z5
  have y6 := cell_rg z6
  have y7 := cell_rg z7
  have y8 := cell_rg z8
  have y9 := cell_rg z9
  have y10 := cell_rg z10
  have y11 := cell_rg z11
  have y12 := cell_rg z12
  have y13 := cell_rg z13
  go_wp2_with fail
  go_ret
  exact ⟨rfl, B1.out⟩
set_option maxHeartbeats 1000000 in
set_option maxRecDepth 100000 in
theorem ah_6cf (nd : Nd) (s : Value) (t : Int) (w : World) (hk : nd.kind = 6) (ha : ¬ nd.ref.col < t) : Calls Try.prog 15 #[exV nd s, .int .i64 t, .bool true] w fun e w' => e = .returned (.bool false) ∧ Below w.heap.size w w' := by
  have k5 : (nd.kind == 5) = false := by rw [hk]; rfl
  have k6 : (nd.kind == 6) = true := by rw [hk]; rfl
  have d1 : decide (nd.ref.col < t) = false := decide_eq_false ha
  have P0 := hide (Blk.new w (exC nd s) 29)
  have B0 := hide (step (Below.refl w.heap.size w) (exO nd s))
  obtain ⟨w0, hw0⟩ : ∃ w0, w.alloc (exO nd s) = w0 := ⟨_, rfl⟩
  rw [hw0] at P0 B0
  clear hk ha
  obtain ⟨z0, z1, z2, z3, z4, z5, z6, z7, z8, z9, z10, z11, z12, z13⟩ := P0.out.c14
  have y0 := cell_rg z0
  have y1 := cell_rg z1
  have y2 := cell_rg z2
  have y3 := cell_rg z3
  have y4 := cell_rg z4
  have y5 := cell_rg z5
  have y6 := cell_rg z6
  have y7 := cell_rg z7
  have y8 := cell_rg z8
  have y9 := cell_rg z9
  have y10 := cell_rg z10
  have y11 := cell_rg z11
  have y12 := cell_rg z12
  have y13 := cell_rg z13
  go_enter Try.func15, Try.ntmps15
  go_wp2_with fail
  clear hw0
  refine wp_region_quiet_below (by kernel_rfl) (by kernel_rfl) ?_
  repeat (go_big_quiet_step (fail))
  refine wpQuiet_nil ?_
  intro _ hw'
  obtain ⟨⟨dq1, osq1⟩, hw''⟩ := hw'
  subst hw''
  have B1 := hide (next B0.out (below_regrown _ dq1 osq1))
  have P1 := hide (P0.out.keep (below_regrown _ dq1 osq1))
  obtain ⟨w1, hw1⟩ : ∃ w1, grow (redrawn w0 dq1) osq1 = w1 := ⟨_, rfl⟩
  rw [hw1] at B1 P1 ⊢
  clear hw1 z0 y0 z1 y1 z2 y2 z3 y3 z4 y4 z5 y5 z6 y6 z7 y7 z8 y8 z9 y9 z10 y10 z11 y11 z12 y12 z13 y13
  obtain ⟨z0, z1, z2, z3, z4, z5, z6, z7, z8, z9, z10, z11, z12, z13⟩ := P1.out.c14
  have y0 := cell_rg z0
  have y1 := cell_rg z1
  have y2 := cell_rg z2
  have y3 := cell_rg z3
  have y4 := cell_rg z4
  have y5 := cell_rg z5
  have y6 := cell_rg z6
  have y7 := cell_rg z7
  have y8 := cell_rg z8
  have y9 := cell_rg z9
  have y10 := cell_rg z10
  have y11 := cell_rg z11
  have y12 := cell_rg z12
  have y13 := cell_rg z13
  go_wp2_with fail
  refine wp_region_quiet_below (by kernel_rfl) (by kernel_rfl) ?_
  repeat (go_big_quiet_step (fail))
  refine wpQuiet_nil ?_
  intro _ hw'
  obtain ⟨⟨dq2, osq2⟩, hw''⟩ := hw'
  subst hw''
  have B2 := hide (next B1.out (below_regrown _ dq2 osq2))
  have P2 := hide (P1.out.keep (below_regrown _ dq2 osq2))
  obtain ⟨w2, hw2⟩ : ∃ w2, grow (redrawn w1 dq2) osq2 = w2 := ⟨_, rfl⟩
  rw [hw2] at B2 P2 ⊢
  clear hw2 z0 y0 z1 y1 z2 y2 z3 y3 z4 y4 z5 y5 z6 y6 z7 y7 z8 y8 z9 y9 z10 y10 z11 y11 z12 y12 z13 y13
  obtain ⟨z0, z1, z2, z3, z4, z5, z6, z7, z8, z9, z10, z11, z12, z13⟩ := P2.out.c14
  have y0 := cell_rg z0
  have y1 := cell_rg z1
  have y2 := cell_rg z2
  have y3 := cell_rg z3
  have y4 := cell_rg z4
  have y5 := cell_rg z5
  have y6 := cell_rg z6
  have y7 := cell_rg z7
  have y8 := cell_rg z8
  have y9 := cell_rg z9
  have y10 := cell_rg z10
  have y11 := cell_rg z11
  have y12 := cell_rg z12
  have y13 := cell_rg z13
  go_wp2_with fail
  go_ret
  exact ⟨rfl, B2.out⟩
set_option maxHeartbeats 1000000 in
set_option maxRecDepth 100000 in
theorem ah_6ctt (nd : Nd) (s : Value) (t : Int) (w : World) (hk : nd.kind = 6) (ha : nd.ref.col < t) (hb : nd.to.col < t) : Calls Try.prog 15 #[exV nd s, .int .i64 t, .bool true] w fun e w' => e = .returned (.bool true) ∧ Below w.heap.size w w' := by
  have k5 : (nd.kind == 5) = false := by rw [hk]; rfl
  have k6 : (nd.kind == 6) = true := by rw [hk]; rfl
  have d1 : decide (nd.ref.col < t) = true := decide_eq_true ha
  have d2 : decide (nd.to.col < t) = true := decide_eq_true hb
  have P0 := hide (Blk.new w (exC nd s) 29)
  have B0 := hide (step (Below.refl w.heap.size w) (exO nd s))
  obtain ⟨w0, hw0⟩ : ∃ w0, w.alloc (exO nd s) = w0 := ⟨_, rfl⟩
  rw [hw0] at P0 B0
  clear hk ha hb
  obtain ⟨z0, z1, z2, z3, z4, z5, z6, z7, z8, z9, z10, z11, z12, z13⟩ := P0.out.c14
  have y0 := cell_rg z0
  have y1 := cell_rg z1
  have y2 := cell_rg z2
  have y3 := cell_rg z3
  have y4 := cell_rg z4
  have y5 := cell_rg z5
  have y6 := cell_rg z6
  have y7 := cell_rg z7
  have y8 := cell_rg z8
  have y9 := cell_rg z9
  have y10 := cell_rg z10
  have y11 := cell_rg z11
  have y12 := cell_rg z12
  have y13 := cell_rg z13
  go_enter Try.func15, Try.ntmps15
  go_wp2_with fail
  clear hw0
  refine wp_region_quiet_below (by kernel_rfl) (by kernel_rfl) ?_
  repeat (go_big_quiet_step (fail))
  refine wpQuiet_nil ?_
  intro _ hw'
  obtain ⟨⟨dq1, osq1⟩, hw''⟩ := hw'
  subst hw''
  have B1 := hide (next B0.out (below_regrown _ dq1 osq1))
  have P1 := hide (P0.out.keep (below_regrown _ dq1 osq1))
  obtain ⟨w1, hw1⟩ : ∃ w1, grow (redrawn w0 dq1) osq1 = w1 := ⟨_, rfl⟩
  rw [hw1] at B1 P1 ⊢
  clear hw1 z0 y0 z1 y1 z2 y2 z3 y3 z4 y4 z5 y5 z6 y6 z7 y7 z8 y8 z9 y9 z10 y10 z11 y11 z12 y12 z13 y13
  obtain ⟨z0, z1, z2, z3, z4, z5, z6, z7, z8, z9, z10, z11, z12, z13⟩ := P1.out.c14
  have y0 := cell_rg z0
  have y1 := cell_rg z1
  have y2 := cell_rg z2
  have y3 := cell_rg z3
  have y4 := cell_rg z4
  have y5 := cell_rg z5
  have y6 := cell_rg z6
  have y7 := cell_rg z7
  have y8 := cell_rg z8
  have y9 := cell_rg z9
  have y10 := cell_rg z10
  have y11 := cell_rg z11
  have y12 := cell_rg z12
  have y13 := cell_rg z13
  go_wp2_with fail
  refine wp_region_quiet_below (by kernel_rfl) (by kernel_rfl) ?_
  repeat (go_big_quiet_step (fail))
  refine wpQuiet_nil ?_
  intro _ hw'
  obtain ⟨⟨dq2, osq2⟩, hw''⟩ := hw'
  subst hw''
  have B2 := hide (next B1.out (below_regrown _ dq2 osq2))
  have P2 := hide (P1.out.keep (below_regrown _ dq2 osq2))
  obtain ⟨w2, hw2⟩ : ∃ w2, grow (redrawn w1 dq2) osq2 = w2 := ⟨_, rfl⟩
  rw [hw2] at B2 P2 ⊢
  clear hw2 z0 y0 z1 y1 z2 y2 z3 y3 z4 y4 z5 y5 z6 y6 z7 y7 z8 y8 z9 y9 z10 y10 z11 y11 z12 y12 z13 y13
  obtain ⟨z0, z1, z2, z3, z4, z5, z6, z7, z8, z9, z10, z11, z12, z13⟩ := P2.out.c14
  have y0 := cell_rg z0
  have y1 := cell_rg z1
  have y2 := cell_rg z2
  have y3 := cell_rg z3
  have y4 := cell_rg z4
  have y5 := cell_rg z5
  have y6 := cell_rg z6
  have y7 := cell_rg z7
  have y8 := cell_rg z8
  have y9 := cell_rg z9
  have y10 := cell_rg z10
  have y11 := cell_rg z11
  have y12 := cell_rg z12
  have y13 := cell_rg z13
  go_wp2_with fail
  go_ret
  exact ⟨rfl, B2.out⟩
set_option maxHeartbeats 1000000 in
set_option maxRecDepth 100000 in
theorem ah_6ctf (nd : Nd) (s : Value) (t : Int) (w : World) (hk : nd.kind = 6) (ha : nd.ref.col < t) (hb : ¬ nd.to.col < t) : Calls Try.prog 15 #[exV nd s, .int .i64 t, .bool true] w fun e w' => e = .returned (.bool false) ∧ Below w.heap.size w w' := by
  have k5 : (nd.kind == 5) = false := by rw [hk]; rfl
  have k6 : (nd.kind == 6) = true := by rw [hk]; rfl
  have d1 : decide (nd.ref.col < t) = true := decide_eq_true ha
  have d2 : decide (nd.to.col < t) = false := decide_eq_false hb
  have P0 := hide (Blk.new w (exC nd s) 29)
  have B0 := hide (step (Below.refl w.heap.size w) (exO nd s))
  obtain ⟨w0, hw0⟩ : ∃ w0, w.alloc (exO nd s) = w0 := ⟨_, rfl⟩
  rw [hw0] at P0 B0
  clear hk ha hb
  obtain ⟨z0, z1, z2, z3, z4, z5, z6, z7, z8, z9, z10, z11, z12, z13⟩ := P0.out.c14
  have y0 := cell_rg z0
  have y1 := cell_rg z1
  have y2 := cell_rg z2
  have y3 := cell_rg z3
  have y4 := cell_rg z4
  have y5 := cell_rg z5
  have y6 := cell_rg z6
  have y7 := cell_rg z7
  have y8 := cell_rg z8
  have y9 := cell_rg z9
  have y10 := cell_rg z10
  have y11 := cell_rg z11
  have y12 := cell_rg z12
  have y13 := cell_rg z13
  go_enter Try.func15, Try.ntmps15
  go_wp2_with fail
  clear hw0
  refine wp_region_quiet_below (by kernel_rfl) (by kernel_rfl) ?_
  repeat (go_big_quiet_step (fail))
  refine wpQuiet_nil ?_
  intro _ hw'
  obtain ⟨⟨dq1, osq1⟩, hw''⟩ := hw'
  subst hw''
  have B1 := hide (next B0.out (below_regrown _ dq1 osq1))
  have P1 := hide (P0.out.keep (below_regrown _ dq1 osq1))
  obtain ⟨w1, hw1⟩ : ∃ w1, grow (redrawn w0 dq1) osq1 = w1 := ⟨_, rfl⟩
  rw [hw1] at B1 P1 ⊢
  clear hw1 z0 y0 z1 y1 z2 y2 z3 y3 z4 y4 z5 y5 z6 y6 z7 y7 z8 y8 z9 y9 z10 y10 z11 y11 z12 y12 z13 y13
  obtain ⟨z0, z1, z2, z3, z4, z5, z6, z7, z8, z9, z10, z11, z12, z13⟩ := P1.out.c14
  have y0 := cell_rg z0
  have y1 := cell_rg z1
  have y2 := cell_rg z2
  have y3 := cell_rg z3
  have y4 := cell_rg z4
  have y5 := cell_rg z5
  have y6 := cell_rg z6
  have y7 := cell_rg z7
  have y8 := cell_rg z8
  have y9 := cell_rg z9
  have y10 := cell_rg z10
  have y11 := cell_rg z11
  have y12 := cell_rg z12
  have y13 := cell_rg z13
  go_wp2_with fail
  refine wp_region_quiet_below (by kernel_rfl) (by kernel_rfl) ?_
  repeat (go_big_quiet_step (fail))
  refine wpQuiet_nil ?_
  intro _ hw'
  obtain ⟨⟨dq2, osq2⟩, hw''⟩ := hw'
  subst hw''
  have B2 := hide (next B1.out (below_regrown _ dq2 osq2))
  have P2 := hide (P1.out.keep (below_regrown _ dq2 osq2))
  obtain ⟨w2, hw2⟩ : ∃ w2, grow (redrawn w1 dq2) osq2 = w2 := ⟨_, rfl⟩
  rw [hw2] at B2 P2 ⊢
  clear hw2 z0 y0 z1 y1 z2 y2 z3 y3 z4 y4 z5 y5 z6 y6 z7 y7 z8 y8 z9 y9 z10 y10 z11 y11 z12 y12 z13 y13
  obtain ⟨z0, z1, z2, z3, z4, z5, z6, z7, z8, z9, z10, z11, z12, z13⟩ := P2.out.c14
  have y0 := cell_rg z0
  have y1 := cell_rg z1
  have y2 := cell_rg z2
  have y3 := cell_rg z3
  have y4 := cell_rg z4
  have y5 := cell_rg z5
  have y6 := cell_rg z6
  have y7 := cell_rg z7
  have y8 := cell_rg z8
  have y9 := cell_rg z9
  have y10 := cell_rg z10
  have y11 := cell_rg z11
  have y12 := cell_rg z12
  have y13 := cell_rg z13
  go_wp2_with fail
  go_ret
  exact ⟨rfl, B2.out⟩
abbrev AhdIs (t : Int) (cols : Bool) (u : Ex) : Prop := ∀ (v : Value) (w : World), Tree w v u → nodesE u ≤ 512 → Calls Try.prog 15 #[v, .int .i64 t, .bool cols] w fun e w' => e = .returned (.bool (ahdE t cols u)) ∧ Below w.heap.size w w'
theorem ahdL_drop (t : Int) (cols : Bool) (ks : List Ex) (k : Nat) (hk : k < ks.length) : ahdL t cols (ks.drop k) = (ahdE t cols ks[k] && ahdL t cols (ks.drop (k + 1))) := by
  rw [List.drop_eq_getElem_cons hk, ahdL]
set_option maxHeartbeats 2000000 in
set_option maxRecDepth 100000 in
theorem ah_loop (t : Int) (cols : Bool) (nd : Nd) (ks : List Ex) (ih : ∀ u ∈ ks, AhdIs t cols u) (a : Option Addr) (len cap : Nat) (w : World) (ht : Tree w (exV nd (.slice a len cap)) (.mk nd ks)) (hn : nodesE (.mk nd ks) ≤ 512) (k5 : (nd.kind == 5) = false) (k6 : (nd.kind == 6) = false) :
    Calls Try.prog 15 #[exV nd (.slice a len cap), .int .i64 t, .bool cols] w fun e w' => e = .returned (.bool (ahdL t cols ks)) ∧ Below w.heap.size w w' := by
  have hK := ht.kidsAt
  have hlen := hide hK.lq
  have hle : Hid (len ≤ 511) := hide (by have := hlen.out; have := len_nodes ks; rw [nodesE] at hn; omega)
  have hnk : Hid (∀ k ∈ ks, nodesE k ≤ 512) := hide (fun k hk => by have := nodes_mem hk; rw [nodesE] at hn; omega)
  have c13 := (at14 nd (.slice a len cap)).c13
  have c0 := (at14 nd (.slice a len cap)).c0
  have P0 := hide (Blk.new w (exC nd (.slice a len cap)) 29)
  have B0 := hide (step (Below.refl w.heap.size w) (exO nd (.slice a len cap)))
  have q0 := (P0.out.at' 0).trans c0
  replace ih := hide ih
  replace hK := hide hK
  clear ht hn
  go_enter Try.func15, Try.ntmps15
  go_wp2_with fail
  clear q0 k5 k6
  go_loopw [9] (fun i wr => ∃ (k : Nat), k ≤ len ∧ i = .int .i64 k ∧ Hid (ahdL t cols ks = ahdL t cols (ks.drop k)) ∧ Hid (Below (w.alloc (exO nd (.slice a len cap))).heap.size (w.alloc (exO nd (.slice a len cap))) wr)) (fun i _ => len - (intOf i).toNat)
  case atStart => exact ⟨0, Nat.zero_le _, rfl, by rw [List.drop_zero]; rfl, Below.refl _ _⟩
  case round =>
    obtain ⟨k, hkl, rfl, HL, HB⟩ := hrel
    have z13 := ((P0.out.keep HB.out).at' 13).trans c13
    by_cases hlt : k < len
    · have p0 : (k : Int) < (len : Int) := by omega
      obtain ⟨b0, o0, rfl, hk1, aa, ll, cc, tk, rk⟩ := hK.out.get hlt
      have bw := hide (next B0.out HB.out)
      have R1 := hide (range_of_block rk (bw.out.block b0 (World.block_lt_of_cell? w ⟨b0, _, none⟩ (rk 0 _ rfl))))
      have IH := ih.out _ (List.getElem_mem hk1) _ wr (tk.step bw.out) (hnk.out _ (List.getElem_mem hk1))
      have hat := hide (ahdL_drop t cols ks k hk1)
      have wk := IntWalk.wrap64_in ((k : Int) + 1) ⟨by omega, by have := hle.out; omega⟩
      generalize ks[k] = tk' at *
      clear tk rk
      cases hq2 : ahdE t cols tk'
      · rw [hq2] at IH
        replace IH := hide IH
        go_wp2_with (first
          | (refine wpList_load_at rfl 29 _ rfl _ _ rfl _ _ (by with_reducible exact R1.out) Try.underlying29 rfl (exC_info _ _) ?_)
          | (go_at_call 15; refine IH.out.mono ?_; rintro e w4 ⟨rfl, hb4⟩; have b4 := hide (next bw.out hb4); clear hb4))
        go_ret
        have hh := HL.out.trans hat.out
        rw [hq2] at hh
        exact ⟨by rw [hh]; rfl, b4.out⟩
      · rw [hq2] at IH
        replace IH := hide IH
        go_wp2_with (first
          | (refine wpList_load_at rfl 29 _ rfl _ _ rfl _ _ (by with_reducible exact R1.out) Try.underlying29 rfl (exC_info _ _) ?_)
          | (go_at_call 15; refine IH.out.mono ?_; rintro e w4 ⟨rfl, hb4⟩; have b4 := hide (next HB.out hb4); clear hb4))
        refine ⟨⟨k + 1, hlt, by rw [wk]; rfl, hide (by rw [HL.out, hat.out, hq2]; rfl), b4⟩, ?_⟩
        rw [wk]
        exact meas_lt hlt
    · obtain rfl : k = len := by omega
      go_wp2_with fail
      go_ret
      have hh := HL.out
      rw [List.drop_eq_nil_of_le (by have := hlen.out; omega)] at hh
      exact ⟨by rw [hh]; rfl, next B0.out HB.out⟩
theorem ahead_any (t : Int) (cols : Bool) : ∀ u, AhdIs t cols u := by
  refine Ex.ind fun nd ks ih => ?_
  intro v w ht hn
  obtain ⟨a, len, cap, rfl, _, _, _, _⟩ := ht.un
  rw [ahdE]
  cases q : placeB nd
  · have q' := of_decide_eq_false q
    exact ah_loop t cols nd ks ih a len cap w ht hn (by simp; exact fun e => q' (.inl e)) (by simp; exact fun e => q' (.inr e))
  · show Calls _ _ _ _ fun e w' => e = .returned (.bool (ahdN nd t cols)) ∧ _
    unfold ahdN
    rcases of_decide_eq_true q with h | h <;> cases cols
    · by_cases c1 : nd.ref.row < t
      · by_cases c2 : nd.to.row < t
        · have e : (decide (nd.ref.row < t) && (decide (nd.to.row < t) || decide (nd.kind = 5))) = true := by rw [decide_eq_true c1, decide_eq_true c2]; rfl
          simp only [Bool.false_eq_true, if_false, e]; exact ah_5rtt nd _ t w h c1 c2
        · have e : (decide (nd.ref.row < t) && (decide (nd.to.row < t) || decide (nd.kind = 5))) = true := by rw [decide_eq_true c1, decide_eq_false c2, decide_eq_true h]; rfl
          simp only [Bool.false_eq_true, if_false, e]; exact ah_5rtf nd _ t w h c1 c2
      · have e : (decide (nd.ref.row < t) && (decide (nd.to.row < t) || decide (nd.kind = 5))) = false := by rw [decide_eq_false c1]; rfl
        simp only [Bool.false_eq_true, if_false, e]; exact ah_5rf nd _ t w h c1
    · by_cases c1 : nd.ref.col < t
      · by_cases c2 : nd.to.col < t
        · have e : (decide (nd.ref.col < t) && (decide (nd.to.col < t) || decide (nd.kind = 5))) = true := by rw [decide_eq_true c1, decide_eq_true c2]; rfl
          simp only [if_true, e]; exact ah_5ctt nd _ t w h c1 c2
        · have e : (decide (nd.ref.col < t) && (decide (nd.to.col < t) || decide (nd.kind = 5))) = true := by rw [decide_eq_true c1, decide_eq_false c2, decide_eq_true h]; rfl
          simp only [if_true, e]; exact ah_5ctf nd _ t w h c1 c2
      · have e : (decide (nd.ref.col < t) && (decide (nd.to.col < t) || decide (nd.kind = 5))) = false := by rw [decide_eq_false c1]; rfl
        simp only [if_true, e]; exact ah_5cf nd _ t w h c1
    · by_cases c1 : nd.ref.row < t
      · by_cases c2 : nd.to.row < t
        · have e : (decide (nd.ref.row < t) && (decide (nd.to.row < t) || decide (nd.kind = 5))) = true := by rw [decide_eq_true c1, decide_eq_true c2]; rfl
          simp only [Bool.false_eq_true, if_false, e]; exact ah_6rtt nd _ t w h c1 c2
        · have e : (decide (nd.ref.row < t) && (decide (nd.to.row < t) || decide (nd.kind = 5))) = false := by rw [decide_eq_true c1, decide_eq_false c2, decide_eq_false (show ¬ nd.kind = 5 by omega)]; rfl
          simp only [Bool.false_eq_true, if_false, e]; exact ah_6rtf nd _ t w h c1 c2
      · have e : (decide (nd.ref.row < t) && (decide (nd.to.row < t) || decide (nd.kind = 5))) = false := by rw [decide_eq_false c1]; rfl
        simp only [Bool.false_eq_true, if_false, e]; exact ah_6rf nd _ t w h c1
    · by_cases c1 : nd.ref.col < t
      · by_cases c2 : nd.to.col < t
        · have e : (decide (nd.ref.col < t) && (decide (nd.to.col < t) || decide (nd.kind = 5))) = true := by rw [decide_eq_true c1, decide_eq_true c2]; rfl
          simp only [if_true, e]; exact ah_6ctt nd _ t w h c1 c2
        · have e : (decide (nd.ref.col < t) && (decide (nd.to.col < t) || decide (nd.kind = 5))) = false := by rw [decide_eq_true c1, decide_eq_false c2, decide_eq_false (show ¬ nd.kind = 5 by omega)]; rfl
          simp only [if_true, e]; exact ah_6ctf nd _ t w h c1 c2
      · have e : (decide (nd.ref.col < t) && (decide (nd.to.col < t) || decide (nd.kind = 5))) = false := by rw [decide_eq_false c1]; rfl
        simp only [if_true, e]; exact ah_6cf nd _ t w h c1
end Go.Proofs.Ytbljdmegdejboaa
