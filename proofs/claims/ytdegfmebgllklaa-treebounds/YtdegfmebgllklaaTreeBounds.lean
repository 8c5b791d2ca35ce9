/- TreeBounds: the law's walk. -/
import Derived.Test.YtdegfmebgllklaaBndS9
namespace Go.Proofs.Ytdegfmebgllklaa
open Go.RowKit Go.Sort
set_option linter.unusedVariables false

theorem wf_u8 {x : Int} (h : (Lit.int .u8 x).wf = true) : 0 ≤ x ∧ x ≤ 255 := by
  simp only [Lit.wf, Bool.and_eq_true, decide_eq_true_eq, show IntKind.u8.min = 0 from rfl, show IntKind.u8.max = 255 from rfl] at h
  exact h
theorem wf_u16 {x : Int} (h : (Lit.int .u16 x).wf = true) : 0 ≤ x ∧ x ≤ 65535 := by
  simp only [Lit.wf, Bool.and_eq_true, decide_eq_true_eq, show IntKind.u16.min = 0 from rfl, show IntKind.u16.max = 65535 from rfl] at h
  exact h
theorem meas_ch {d k : Nat} (h : k < d) : d - (intOf (.int .i64 ((k : Int) + 1 + 1))).toNat < d - (intOf (.int .i64 ((k : Int) + 1))).toNat ∨ d - (intOf (.int .i64 ((k : Int) + 1 + 1))).toNat ≤ d := .inr (by omega)
theorem meas_b {d k : Nat} (h : k < d) : d + 1 - (intOf (.int .i64 ((k : Int) + 1 + 1))).toNat < d + 1 - (intOf (.int .i64 ((k : Int) + 1))).toNat := by
  show d + 1 - ((k : Int) + 1 + 1).toNat < d + 1 - ((k : Int) + 1).toNat
  omega
set_option maxHeartbeats 8000000 in
set_option maxRecDepth 100000 in
theorem treeBounds_walk (dd : Int) (hd : (Lit.int .u8 dd).wf = true) (ww : Int) (hw : (Lit.int .u16 ww).wf = true) (bb : Int) (hb : (Lit.int .u16 bb).wf = true) (w : World) :
    Calls Try.prog 8 #[.int .u8 dd, .int .u16 ww, .int .u16 bb] w fun e w' => e = .returned (.bool true) ∧ Below w.heap.size w w' := by
  replace hd := wf_u8 hd
  replace hw := wf_u16 hw
  replace hb := wf_u16 hb
  have HG := hide (begun9 w)
  obtain ⟨d, hd1⟩ : ∃ d : Nat, dd % 70 = (d : Int) := ⟨(dd % 70).toNat, by omega⟩
  obtain ⟨m, hm1⟩ : ∃ m : Nat, ww % 520 = (m : Int) := ⟨(ww % 520).toNat, by omega⟩
  obtain ⟨n, hn1⟩ : ∃ n : Nat, bb % 20000 = (n : Int) := ⟨(bb % 20000).toNat, by omega⟩
  have hdl : Hid (d < 70) := hide (by omega)
  have hml : Hid (m < 520) := hide (by omega)
  have hnl : Hid (n < 20000) := hide (by omega)
  obtain ⟨iu, hiu⟩ : ∃ i, Try.prog.info? 5 = some i := by
    have : (Try.prog.info? 5).isSome = true := by kernel_rfl
    exact Option.isSome_iff_exists.1 this
  obtain ⟨hz0, hz1, hz2⟩ : iu.zero = some (.int .u8 0) ∧ iu.size = 1 ∧ iu.bytes = 1 := by
    have : (Try.prog.info? 5).map (fun i => (i.zero, i.size, i.bytes)) = some (some (.int .u8 0), 1, 1) := by kernel_rfl
    rw [hiu] at this
    simpa using this
  replace hd1 := hide hd1
  replace hm1 := hide hm1
  replace hn1 := hide hn1
  replace hiu := hide hiu
  replace hz0 := hide hz0
  replace hz1 := hide hz1
  replace hz2 := hide hz2
  go_enter Try.func8, Try.ntmps8
  try simp only [List.append]
  go_wp2_with (first
    | (go_at_call 9; refine HG.out.mono ?_; rintro e w0 ⟨rfl, hb⟩; have b0 := hide hb; clear hb))
  go_loopw [9] (fun i wr => ∃ (k : Nat) (a : Option Addr) (l c : Nat), k ≤ d ∧ i = .int .i64 ((k : Int) + 1) ∧ Hid (ChSt w0 k (.slice a l c) wr)) (fun i _ => d + 1 - (intOf i).toNat)
  case atStart => exact ⟨0, none, 0, 0, Nat.zero_le _, rfl, ChSt.start w0⟩
  case round =>
    obtain ⟨k, a, l, c, hkl, rfl, HC⟩ := hrel
    by_cases hlt : k < d
    · have p0 : (k : Int) < dd % 70 := by have := hd1.out; omega
      have B1 := hide HC.out.box
      have B2 := hide (HC.out.box.alloc (exO (chN k) (.slice a l c)))
      have B3 : (wr.alloc (exO (chN k) (.slice a l c))).heap[w0.heap.size]? = some (.cells (exC (chN k) (.slice a l c)) 29 (0, 0)) := B2.out
      have wk := IntWalk.wrap64_in ((k : Int) + 1 + 1) ⟨by omega, by have := hdl.out; omega⟩
      go_wp2_with (first
        | (refine wpList_load_blk rfl 29 _ rfl _ rfl _ (by with_reducible exact B1.out) _ Try.underlying29 rfl (exC_info _ _) ?_)
        | (refine Go.Great.wpList_buildSliceTo rfl 27 29 1 _ rfl wr.heap.size rfl _ rfl Try.underlying27 (exC (chN k) (.slice a l c)) (by rw [Array.toList_map]; exact built1 _ _) ?_)
        | (refine wpList_store_row rfl 29 _ _ rfl _ (exC ndU (.slice (some ⟨wr.heap.size, 0, none⟩) 1 1)) rfl rfl 29 _ (by with_reducible exact B3) (exC_info _ _) (by rfl) (exC_one _ _ _ _) ?_))
      refine ⟨⟨k + 1, _, _, _, hlt, rfl, HC.out.more⟩, ?_⟩
      exact meas_b hlt
    · obtain rfl : k = d := by omega
      have p0 : ¬ ((k : Int) < dd % 70) := by have := hd1.out; omega
      go_wp2_with fail
      clear p0
      obtain ⟨wa, rfl⟩ : ∃ wa, wa = wr := ⟨wr, rfl⟩
      go_loopw [12] (fun i wr => ∃ (j : Nat) (a2 : Option Addr) (l2 c2 : Nat), j ≤ m + 1 ∧ i = .int .i64 j ∧ Hid (LiSt wa j (.slice a2 l2 c2) wr)) (fun i _ => m + 1 - (intOf i).toNat)
      case atStart => exact ⟨0, none, 0, 0, Nat.zero_le _, rfl, LiSt.start wa⟩
      case round =>
        obtain ⟨j, a2, l2, c2, hjl, rfl, HL⟩ := hrel
        by_cases hjt : j < m + 1
        · have p1 : (j : Int) < ww % 520 + 1 := by have := hm1.out; omega
          have z13 := (HL.out.box.at' 13).trans (at14 ndS (.slice a2 l2 c2)).c13
          have z14 := ((HL.out.box.alloc (exO ndL (.slice none 0 0))).at' 13).trans (at14 ndS (.slice a2 l2 c2)).c13
          have hrw := hide (HL.out.row' (exO ndL (.slice none 0 0)))
          have hrg := hide (range_ex wr ndL (.slice none 0 0))
          have hcl : Hid ((List.replicate j (exC ndL (.slice none 0 0))).length < 1000000) := hide (by rw [List.length_replicate]; have := hml.out; omega)
          have hbs : Hid (wa.heap.size + 1 ≤ (wr.alloc (exO ndL (.slice none 0 0))).heap.size) := hide (by have := HL.out.box.lt; simp; omega)
          have wj := IntWalk.wrap64_in ((j : Int) + 1) ⟨by omega, by have := hml.out; omega⟩
          go_wp2_with (first
            | (refine Go.Great.wpList_buildSliceTo rfl 27 29 1 _ rfl wr.heap.size rfl _ rfl Try.underlying27 (exC ndL (.slice none 0 0)) (by kernel_rfl) ?_)
            | (at_builtin; refine wpList_appX (v := .slice a2 l2 c2) (css := List.replicate j (exC ndL (.slice none 0 0))) (n := ndL) (sa := none) (sl := 0) (sc := 0) rfl _ _ rfl rfl rfl hrw.out hrg.out hcl.out hbs.out ?_; intro v' w3 r1 r2 r3; obtain ⟨va, vl, vc, rfl⟩ := owns_shape9 r1; obtain ⟨hu3, HN⟩ := HL.out.more r1 r2; have f13 := hu3.fr 13; have z15 := (hu3.at' 13).trans (at14 ndS (.slice a2 l2 c2)).c13; replace HN := hide HN; clear r1 r2 r3))
          refine ⟨⟨j + 1, _, _, _, hjt, rfl, HN⟩, ?_⟩
          exact meas_lt hjt
        · obtain rfl : j = m + 1 := by omega
          have p1 : ¬ (((m + 1 : Nat) : Int) < ww % 520 + 1) := by have := hm1.out; omega
          go_wp2_with (first
            | (at_make; refine wpList_make_full _ rfl _ _ 54 rfl wr.heap.size 5 iu _ 1 Try.underlying54 hiu.out hz0.out hz1.out _ _ _ _ n rfl rfl hn1.out hn1.out ?m1 ?m2 ?m3 ?_))
          case m1 => rw [hz2.out]; have := hnl.out; omega
          case m2 => have := hnl.out; unfold maxLen; omega
          intro w1 ho hg
          obtain ⟨s, hs, hcv⟩ := mk_bytes (g := wr.heap.size) (n := n) (by rw [Nat.mul_one]; exact ho)
          obtain ⟨a3, l3, c3, e3, T2⟩ := HL.out.tree (by have := hml.out; omega)
          obtain ⟨rfl, rfl, rfl⟩ : a2 = a3 ∧ l2 = l3 ∧ c2 = c3 := by simpa using e3
          have bw : Below wr.heap.size wr w1 := ⟨hg.os, hg.tape, hg.output, hg.size, fun x hx => hg.block x hx (by simp)⟩
          have TA := HC.out.tree
          have TB := hide ((HC.out.box.keep (HL.out.low)).keep bw)
          have SB := hide (HL.out.box.keep bw)
          have T1 : Tree w1 (exV (chN k) (.slice a l c)) (ch k) := In.move (fun x hx => ⟨by have := HL.out.low.size; have := bw.size; omega, (bw.block x (by have := HL.out.low.size; omega)).trans (HL.out.low.block x hx.2)⟩) _ TA
          replace T1 := hide T1
          replace T2 := hide (T2.step bw)
          have b1 := hide (next b0.out (next HC.out.low (next HL.out.low bw)))
          replace hs := hide hs
          have TB2 : Hid (Blk ((w1.alloc (.cells #[.int .i64 2, .int .i64 0, .int .i64 0, .string s, .int .i64 0, .int .i64 0, .bool false, .bool false, .int .i64 0, .int .i64 0, .bool false, .bool false, .int .i64 0, .slice none 0 0] 29)).alloc (.cells #[.bool (decide (64 < dd % 70 + 1)), .bool (decide (511 < ww % 520 + 1)), .bool (decide (16384 < bb % 20000))] 55)) w0.heap.size (exC (chN k) (.slice a l c)) 29) := hide ((TB.out.alloc _).alloc _)
          have SB2 : Hid (Blk ((w1.alloc (.cells #[.int .i64 2, .int .i64 0, .int .i64 0, .string s, .int .i64 0, .int .i64 0, .bool false, .bool false, .int .i64 0, .int .i64 0, .bool false, .bool false, .int .i64 0, .slice none 0 0] 29)).alloc (.cells #[.bool (decide (64 < dd % 70 + 1)), .bool (decide (511 < ww % 520 + 1)), .bool (decide (16384 < bb % 20000))] 55)) wa.heap.size (exC ndS (.slice a2 l2 c2)) 29) := hide ((SB.out.alloc _).alloc _)
          have XB2 : Hid (Blk ((w1.alloc (.cells #[.int .i64 2, .int .i64 0, .int .i64 0, .string s, .int .i64 0, .int .i64 0, .bool false, .bool false, .int .i64 0, .int .i64 0, .bool false, .bool false, .int .i64 0, .slice none 0 0] 29)).alloc (.cells #[.bool (decide (64 < dd % 70 + 1)), .bool (decide (511 < ww % 520 + 1)), .bool (decide (16384 < bb % 20000))] 55)) w1.heap.size (exC (ndX s) (.slice none 0 0)) 29) := hide ((Blk.new w1 (exC (ndX s) (.slice none 0 0)) 29).alloc _)
          clear ho hg TA bw e3
          go_wp2_with (first
            | (refine wpList_load_blk rfl 29 _ rfl _ rfl _ (by with_reducible exact TB2.out) _ Try.underlying29 rfl (exC_info _ _) ?_)
            | (refine wpList_load_blk rfl 29 _ rfl _ rfl _ (by with_reducible exact SB2.out) _ Try.underlying29 rfl (exC_info _ _) ?_)
            | (refine wpList_load_blk rfl 29 _ rfl _ rfl _ (by with_reducible exact XB2.out) _ Try.underlying29 rfl (exC_info _ _) ?_)
            | (refine wpList_build3 rfl _ _ _ rfl _ _ _ _ _ _ rfl rfl rfl ?_)
            | (refine wpList_store3 rfl _ _ rfl _ _ _ _ _ _ _ _ _ _ _ _ _ _ rfl (by simp) rfl rfl ?_))
          obtain ⟨W4, hW4⟩ : ∃ W4, ((w1.alloc (.cells #[.int .i64 2, .int .i64 0, .int .i64 0, .string s, .int .i64 0, .int .i64 0, .bool false, .bool false, .int .i64 0, .int .i64 0, .bool false, .bool false, .int .i64 0, .slice none 0 0] 29)).alloc (.cells #[.bool (decide (64 < dd % 70 + 1)), .bool (decide (511 < ww % 520 + 1)), .bool (decide (16384 < bb % 20000))] 55)).alloc (.cells (c42 (chN k) ndS (ndX s) (.slice a l c) (.slice a2 l2 c2) (.slice none 0 0)) 56) = W4 := ⟨_, rfl⟩
          have b4 : Hid (Below w.heap.size w W4) := hide (by rw [← hW4]; exact step (step (step b1.out _) _) _)
          have H3 : Hid (∀ i, i < 3 → ∃ (n : Nd) (a : Option Addr) (l c : Nat) (t : Ex) (lg : Bool), Has3 W4 (w1.heap.size + 1) (w1.heap.size + 1 + 1) i n (.slice a l c) t lg) := hide (by
            rw [← hW4]
            intro i hi
            obtain ⟨r0, r1, r2⟩ := c42_range (Blk.new2 w1 (.cells #[.int .i64 2, .int .i64 0, .int .i64 0, .string s, .int .i64 0, .int .i64 0, .bool false, .bool false, .int .i64 0, .int .i64 0, .bool false, .bool false, .int .i64 0, .slice none 0 0] 29) (.cells #[.bool (decide (64 < dd % 70 + 1)), .bool (decide (511 < ww % 520 + 1)), .bool (decide (16384 < bb % 20000))] 55) (c42 (chN k) ndS (ndX s) (.slice a l c) (.slice a2 l2 c2) (.slice none 0 0)) 56)
            have hL := (Blk.new1 w1 (.cells #[.int .i64 2, .int .i64 0, .int .i64 0, .string s, .int .i64 0, .int .i64 0, .bool false, .bool false, .int .i64 0, .int .i64 0, .bool false, .bool false, .int .i64 0, .slice none 0 0] 29) #[.bool (decide (64 < dd % 70 + 1)), .bool (decide (511 < ww % 520 + 1)), .bool (decide (16384 < bb % 20000))] 55).alloc (.cells (c42 (chN k) ndS (ndX s) (.slice a l c) (.slice a2 l2 c2) (.slice none 0 0)) 56)
            have hd2 := hd1.out
            have hm2 := hm1.out
            have hn2 := hn1.out
            have i3 : i = 0 ∨ i = 1 ∨ i = 2 := by omega
            rcases i3 with rfl | rfl | rfl
            · exact ⟨_, _, _, _, ch k, _, ⟨r0, hL.at' 0, ((T1.out.alloc _).alloc _).alloc _, lg_may (may_ch (by have := hdl.out; omega)) (by rw [hd2]; rfl), lg_fit (fit_ch (by have := hdl.out; omega)) (by rw [hd2]; rfl)⟩⟩
            · exact ⟨_, _, _, _, li (m + 1), _, ⟨r1, hL.at' 1, ((T2.out.alloc _).alloc _).alloc _, lg_may (may_li (by omega)) (by rw [hm2]; rfl), lg_fit (fit_li (by omega)) (by rw [hm2]; rfl)⟩⟩
            · exact ⟨_, _, _, _, tx s, _, ⟨r2, hL.at' 2, leaf_tree _ _ (by show s.size ≤ _; rw [hs.out]; have := hnl.out; omega), lg_may (may_tx s) (by rw [hn2, hs.out]), lg_fit (fit_tx s) (by rw [hn2, hs.out])⟩⟩)
          rw [hW4]
          clear hW4 TB2 SB2 XB2 TB SB T1 T2 HL HC hcv
          go_loopw [17] (fun i wr => ∃ q : Nat, q ≤ 3 ∧ i = .int .i64 q ∧ Hid (Below W4.heap.size W4 wr)) (fun i _ => 3 - (intOf i).toNat)
          case atStart => exact ⟨0, by omega, rfl, Below.refl _ _⟩
          case round =>
            obtain ⟨q, hq3, rfl, HB⟩ := hrel
            by_cases hqt : q < 3
            · have q0 : (q : Int) < 3 := by omega
              obtain ⟨n', a', l', c', t', lg, h0⟩ := H3.out q hqt
              have h3 := h0.step HB.out
              have xl := h3.long
              obtain ⟨x0, x1, x2, x3, x4, x5, x6, x7, x8, x9, x10, x11, x12, x13⟩ := range14 h3.cells
              have ul := cell_regrown xl
              have u0 := cell_regrown x0
              have u1 := cell_regrown x1
              have u2 := cell_regrown x2
              have u3 := cell_regrown x3
              have u4 := cell_regrown x4
              have u5 := cell_regrown x5
              have u6 := cell_regrown x6
              have u7 := cell_regrown x7
              have u8 := cell_regrown x8
              have u9 := cell_regrown x9
              have u10 := cell_regrown x10
              have u11 := cell_regrown x11
              have u12 := cell_regrown x12
              have u13 := cell_regrown x13
              have km : ∀ d os, Calls Try.prog 17 #[lit14 n' (.slice a' l' c')] (grow (redrawn wr d) os) fun e w'' => e = .returned (.int .i64 (mayR t')) ∧ ∃ p : Regrown, w'' = grow (redrawn wr p.d) p.os := fun d' os => Calls.regrown_of (may_any t' _ (grow (redrawn wr d') os) (h3.tree.step (below_regrown wr d' os)))
              have ks : ∀ d os, Calls Try.prog 19 #[lit14 n' (.slice a' l' c'), lit14 n' (.slice a' l' c')] (grow (redrawn wr d) os) fun e w'' => e = .returned (.bool (fitB t' && fitB t' && sameE t' t')) ∧ ∃ p : Regrown, w'' = grow (redrawn wr p.d) p.os := fun d' os => Calls.regrown_of (same_any t' t' _ _ (grow (redrawn wr d') os) (h3.tree.step (below_regrown wr d' os)) (h3.tree.step (below_regrown wr d' os)))
              rw [h3.may] at km
              rw [h3.fit, sameE_self] at ks
              clear h0 h3 H3 x0 x1 x2 x3 x4 x5 x6 x7 x8 x9 x10 x11 x12 x13
              cases lg
              · replace km : ∀ d os, Calls Try.prog 17 #[lit14 n' (.slice a' l' c')] (grow (redrawn wr d) os) fun e w'' => e = .returned (.int .i64 0) ∧ ∃ p : Regrown, w'' = grow (redrawn wr p.d) p.os := km
                replace ks : ∀ d os, Calls Try.prog 19 #[lit14 n' (.slice a' l' c'), lit14 n' (.slice a' l' c')] (grow (redrawn wr d) os) fun e w'' => e = .returned (.bool true) ∧ ∃ p : Regrown, w'' = grow (redrawn wr p.d) p.os := ks
                go_wp2_with fail
                refine wp_region_quiet_below (by kernel_rfl) (by kernel_rfl) ?_
                repeat (first | (go_big_quiet_step (with_reducible exact km _ _)) | (go_big_quiet_step (with_reducible exact ks _ _)))
                refine wpQuiet_nil ?_
                intro _ hw'
                obtain ⟨⟨dq, osq⟩, hw''⟩ := hw'
                subst hw''
                have hbz := hide (below_regrown wr dq osq)
                go_wp2_with fail
                refine ⟨⟨q + 1, hqt, rfl, hide (next HB.out hbz.out)⟩, ?_⟩
                exact meas_lt hqt
              · replace km : ∀ d os, Calls Try.prog 17 #[lit14 n' (.slice a' l' c')] (grow (redrawn wr d) os) fun e w'' => e = .returned (.int .i64 2) ∧ ∃ p : Regrown, w'' = grow (redrawn wr p.d) p.os := km
                replace ks : ∀ d os, Calls Try.prog 19 #[lit14 n' (.slice a' l' c'), lit14 n' (.slice a' l' c')] (grow (redrawn wr d) os) fun e w'' => e = .returned (.bool false) ∧ ∃ p : Regrown, w'' = grow (redrawn wr p.d) p.os := ks
                go_wp2_with fail
                refine wp_region_quiet_below (by kernel_rfl) (by kernel_rfl) ?_
                repeat (first | (go_big_quiet_step (with_reducible exact km _ _)) | (go_big_quiet_step (with_reducible exact ks _ _)))
                refine wpQuiet_nil ?_
                intro _ hw'
                obtain ⟨⟨dq, osq⟩, hw''⟩ := hw'
                subst hw''
                have hbz := hide (below_regrown wr dq osq)
                go_wp2_with fail
                refine ⟨⟨q + 1, hqt, rfl, hide (next HB.out hbz.out)⟩, ?_⟩
                exact meas_lt hqt
            · obtain rfl : q = 3 := by omega
              go_wp2_with fail
              go_ret
              exact ⟨rfl, next b4.out HB.out⟩
end Go.Proofs.Ytdegfmebgllklaa
