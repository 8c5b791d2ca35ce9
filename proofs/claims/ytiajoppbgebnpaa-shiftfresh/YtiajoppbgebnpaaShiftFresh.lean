/- ShiftFresh: what the law answers, for every row of calls: true. Proved of the Go text. -/
import Derived.Test.YtiajoppbgebnpaaFsJ
import Derived.Test.YtiajoppbgebnpaaSnJ
import Derived.Test.YtiajoppbgebnpaaOfJ
import Derived.Test.YtiajoppbgebnpaaBeJ
import Derived.Deep.CutRange
namespace Go.Proofs.Ytiajoppbgebnpaa
open Go.RowKit Go.Sort
set_option linter.unusedVariables false

theorem opX_exC {w : World} {b o : Nat} {K M N : Int} {n : Nd} {s : Value} (h : w.rangeAt b o (opX K M N n s).toList) : w.rangeAt b (o + 1) (exC n s).toList := by
  intro j v hv
  have hj : j < 14 := by have := (List.getElem?_eq_some_iff.1 hv).1; rwa [exC_len] at this
  have e : (opX K M N n s).toList = .int .i64 K :: ((exC n s).toList ++ [.int .i64 M, .int .i64 N]) := by unfold opX exC; rfl
  have := h (1 + j) v (by rw [e, show 1 + j = j + 1 by omega, List.getElem?_cons_succ, List.getElem?_append_left (by rw [exC_len]; exact hj)]; exact hv)
  rwa [show o + (1 + j) = o + 1 + j by omega] at this
theorem meas_s {k len : Nat} (h : k < len) : len - (intOf (.int .i64 ((k : Int) + 1))).toNat < len - (intOf (.int .i64 (k : Int))).toNat := by
  have h1 : (intOf (.int .i64 ((k : Int) + 1))).toNat = k + 1 := rfl
  have h2 : (intOf (.int .i64 (k : Int))).toNat = k := rfl
  rw [h1, h2]
  omega
set_option maxHeartbeats 4000000 in
set_option maxRecDepth 100000 in
theorem shiftFresh_walk (a : Option Addr) (len cap : Nat) (w : World) (O : OpsAt w a len) : Calls Try.prog 3 #[.slice a len cap] w fun e w' => e = .returned (.bool true) ∧ Below w.heap.size w w' := by
  replace O := hide O
  go_enter Try.func3, Try.ntmps3
  try simp only [List.append]
  go_wp2_with fail
  refine (begun12 w).mono ?_
  rintro e w1 ⟨rfl, hb1⟩
  have B1 := hide (next (Below.refl w.heap.size w) hb1)
  clear hb1
  go_wp2_with fail
  have ST : Hid (FrP w ((w1.alloc (.cells #[.slice none 0 0, .slice none 0 0, .int .i64 0] 28)).alloc (.cells #[.slice none 0 0, .slice none 0 0] 32)) w1.heap.size (w1.heap.size + 1) (.slice none 0 0) 0 w (fun _ => False)) := hide (FrP.start rfl (step (step B1.out _) _) ((Blk.new w1 #[.slice none 0 0, .slice none 0 0, .int .i64 0] 28).alloc _) (Blk.new1 w1 _ #[.slice none 0 0, .slice none 0 0] 32) B1.out.size (by have := B1.out.size; omega) (by omega))
  obtain ⟨w2, hw2⟩ : ∃ w2, (w1.alloc (.cells #[.slice none 0 0, .slice none 0 0, .int .i64 0] 28)).alloc (.cells #[.slice none 0 0, .slice none 0 0] 32) = w2 := ⟨_, rfl⟩
  rw [hw2] at ST ⊢
  clear hw2
  obtain ⟨q, hq⟩ : ∃ q, w1.heap.size + 1 = q := ⟨_, rfl⟩
  rw [hq] at ST ⊢
  clear hq
  obtain ⟨bk, hbk⟩ : ∃ bk, w1.heap.size = bk := ⟨_, rfl⟩
  rw [hbk] at ST ⊢
  clear hbk
  go_loopw [5, 6] (fun l i wr => ∃ (k : Nat) (la : Option Addr) (ll lc : Nat), k ≤ len ∧ k ≤ 60 ∧ l = .slice la ll lc ∧ i = .int .i64 (k : Int) ∧ Hid (FrP w wr bk q (.slice la ll lc) (4 * k) w (fun _ => False))) (fun _ i _ => len - (intOf i).toNat)
  case atStart => exact ⟨0, none, 0, 0, Nat.zero_le _, Nat.zero_le _, rfl, rfl, ST⟩
  case round =>
    obtain ⟨k, la, ll, lc, hk1, hk2, rfl, rfl, FP⟩ := hrel
    have Br := hide FP.out.low
    by_cases hlt : k < len
    · have p0 : (k : Int) < (len : Int) := by omega
      by_cases h60 : k < 60
      · have p2 : decide ((k : Int) < 60) = true := by simp; omega
        have wk : Hid (wrap64 ((k : Int) + 1) = (k : Int) + 1) := hide (IntWalk.wrap64_in _ ⟨by omega, by omega⟩)
        obtain ⟨b, o, rfl, K, M, N, n1, ks, a1, l1, c1, hR0, hT0, hbw⟩ := O.out.get hlt
        obtain ⟨u, hu⟩ : ∃ u, Ex.mk n1 ks = u := ⟨_, rfl⟩
        have hun : Hid (u.nd = n1) := hide (by rw [← hu]; rfl)
        rw [hu] at hT0
        have hRw := hide (fun w' (h : Below w.heap.size w w') => range_of_block hR0 (h.block b hbw))
        have hTw := hide (fun w' (h : Below w.heap.size w w') => hT0.step h)
        have hT00 := hide hT0
        have R1 := hide (opX_exC (hRw.out _ Br.out))
        clear hR0 hT0 hu
        cases hsm : decide (0 ≤ ndsE u 2000) with
        | false =>
          have HS := small_any u _ wr (hTw.out _ Br.out)
          rw [hsm] at HS
          clear hsm
          go_wp2_with (refine wpList_load_at rfl 37 _ rfl _ _ rfl _ _ (by with_reducible exact R1.out) Try.underlying37 rfl (exC_info _ _) ?_)
          refine HS.mono ?_
          rintro e w2' ⟨rfl, hb2⟩
          have F2 := hide ((FP.out.below hb2).up (r' := 4 * (k + 1)) (by omega))
          clear hb2
          go_wp2_with fail
          refine ⟨⟨k + 1, la, ll, lc, hlt, by omega, rfl, by first | rfl | (rw [wk.out]; rfl), F2⟩, ?_⟩
          try rw [wk.out]
          exact meas_s hlt
        | true =>
          have HS := small_any u _ wr (hTw.out _ Br.out)
          have hnn : Hid (nodesE u ≤ 2000) := hide (by have h := (nds_le u 2000).2 (of_decide_eq_true hsm); have h2 := of_decide_eq_true hsm; omega)
          rw [hsm] at HS
          clear hsm
          go_wp2_with (refine wpList_load_at rfl 37 _ rfl _ _ rfl _ _ (by with_reducible exact R1.out) Try.underlying37 rfl (exC_info _ _) ?_)
          refine HS.mono ?_
          rintro e wa ⟨rfl, hb2⟩
          have FA := hide (FP.out.below hb2)
          have B2 := hide (next Br.out hb2)
          have R2 := hide (opX_exC (hRw.out _ B2.out))
          have HT := twin_any u _ wa (hTw.out _ B2.out) hnn.out
          clear hb2 R1 FP
          go_wp2_with (refine wpList_load_at rfl 37 _ rfl _ _ rfl _ _ (by with_reducible exact R2.out) Try.underlying37 rfl (exC_info _ _) ?_)
          refine HT.mono ?_
          rintro e w3 ⟨ta, tc, bs, rfl, hLw, hNd, hNa, hb3⟩
          rw [hun.out] at hLw ⊢
          obtain ⟨tl, htl⟩ : ∃ tl, u.kids.length = tl := ⟨_, rfl⟩
          rw [htl] at hLw ⊢
          have hsn := run_putnew w3 n1 ta tl tc
          clear htl
          have K4 := hide (Blk.new w3 (exC n1 (.slice ta tl tc)) 37)
          have hLw4 := hide (hLw.move _ (w' := w3.alloc (exO n1 (.slice ta tl tc))) (fun x hx => Below.heap_alloc w3 _ x (hNa x hx).2))
          have F4 := hide (FrP.arm (K := fun x => x ∈ bs ∨ x = w3.heap.size) FA.out (step hb3 (exO n1 (.slice ta tl tc))) (fun x hx => by
            have hz3 := hb3.size
            rcases hx with e | rfl
            · have := hNa x e; simp; omega
            · simp; omega))
          clear hLw hNd hNa hb3 B2 R2 FA
          go_wp2_with fail
          obtain ⟨w4, hw4⟩ : ∃ w4, w3.alloc (exO n1 (.slice ta tl tc)) = w4 := ⟨_, rfl⟩
          rw [hw4] at F4 K4 hLw4
          try rw [hw4]
          clear hsn
          go_loopw [5, 8] (fun l j wr => ∃ (m : Nat) (la : Option Addr) (ll lc : Nat), m ≤ 4 ∧ l = .slice la ll lc ∧ j = .int .i64 (m : Int) ∧ Hid (FrP w wr bk q (.slice la ll lc) (4 * k + m) w4 (fun x => x ∈ bs ∨ x = w3.heap.size))) (fun _ j _ => 4 - (intOf j).toNat)
          case atStart => exact ⟨0, la, ll, lc, Nat.zero_le _, rfl, rfl, F4⟩
          case round =>
            clear F4 Br
            obtain ⟨m, la, ll, lc, hm4, rfl, rfl, FI⟩ := hrel
            have wm : Hid (wrap64 ((m : Int) + 1) = (m : Int) + 1) := hide (IntWalk.wrap64_in _ ⟨by omega, by omega⟩)
            have BI := hide FI.out.low
            by_cases hmt : m < 4
            · have pm : decide ((m : Int) < 4) = true := by simp; omega
              have SS := hide (fun w' (h : Below wr.heap.size wr w') => (⟨hRw.out _ (next BI.out h), (h.block w3.heap.size (FI.out.at' _ (.inr rfl)).1).trans ((FI.out.at' _ (.inr rfl)).2.trans K4.out)⟩ : w'.rangeAt b (o + k * 17) (opX K M N n1 (.slice a1 l1 c1)).toList ∧ Blk w' w3.heap.size (exC n1 (.slice ta tl tc)) 37))
              have HC := hide (fun w' (h : Below wr.heap.size wr w') => call_x (K := K) (M := M) (N := N) (nd := n1) (tn := n1) (G := w.heap.size) (Lw.tree u (hLw4.out.move u (fun x hx => (h.block x (FI.out.at' x (.inl hx)).1).trans (FI.out.at' x (.inl hx)).2)) (fun x hx => Nat.lt_of_lt_of_le (FI.out.at' x (.inl hx)).1 h.size)) (Nat.le_trans BI.out.size h.size) (In.move (fun q hq => ⟨hq, (next BI.out h).block q hq⟩) u hT00.out))
              have hun' := hide (outN_nodes (er := clEr K M u) (f := clMv K M N) hnn.out)
              obtain ⟨er, her⟩ : ∃ er, clEr K M u = er := ⟨_, rfl⟩
              obtain ⟨u', hu'⟩ : ∃ u', outN er (movE (clMv K M N) u) = u' := ⟨_, rfl⟩
              rw [her, hu'] at HC hun'
              clear her hu'
              go_upto_region 14 with fail
              refine sf14 (P := XP w.heap.size u') p0 SS HC ?_
              intro X5 X7 ra rl rc qa ql qc wp w5 w6 hbp hxp hb5 hch t5 t7 g5 g7 hne hb6 b5 b7
              have hX6 : XQ w.heap.size u' wr w6 (.slice ra rl rc) (.slice qa ql qc) := XQ.of hbp hxp hb5 hch t5 t7 g5 g7 BI.out.size
              have hG6 : w.heap.size ≤ w6.heap.size := Nat.le_trans BI.out.size hb6.size
              have HE := leq_any u' u' _ _ w6 (hX6.trees hG6).1 (hX6.trees hG6).2
              rw [same_selfE] at HE
              have X6 := hide hX6
              have G6 := hide hG6
              have C5 := hide b5
              have C7 := hide b7
              have HB6 := hide hb6
              have L5 := hide b5.lt
              clear SS HC hbp hxp hb5 hch t5 t7 hne hb6 b5 b7 hX6 hG6 g7
              replace g5 := hide g5
              go_wp2_with (first
                | (refine wpList_load_blk rfl 37 _ rfl _ rfl _ (by with_reducible exact C5.out) _ Try.underlying37 rfl (exC_info _ _) ?_)
                | (refine wpList_load_blk rfl 37 _ rfl _ rfl _ (by with_reducible exact C7.out) _ Try.underlying37 rfl (exC_info _ _) ?_))
              refine HE.mono ?_
              rintro e w7 ⟨rfl, hb7⟩
              have X7' := hide (X6.out.below G6.out hb7)
              have D5 := hide (C5.out.keep hb7)
              have D7 := hide (C7.out.keep hb7)
              have HB7 := hide (next HB6.out hb7)
              clear X6 C5 C7 HB6 HE
              by_cases hm0 : m = 0
              · subst hm0
                have HT := take_fr (X := w7.heap.size) FI.out (by omega) (step HB7.out (exO u'.nd (.slice ra rl rc))) (X7'.out.below (Nat.le_trans G6.out hb7.size) ((Below.refl _ w7).alloc (Nat.le_refl _) (exO u'.nd (.slice ra rl rc)))) (range_ex w7 u'.nd (.slice ra rl rc)) hun'.out
                clear hb7 X7' D7
                go_wp2_with (first
                  | (refine wpList_load_blk rfl 37 _ rfl _ rfl _ (by with_reducible exact D5.out) _ Try.underlying37 rfl (exC_info _ _) ?_)
                  | (refine Go.Great.wpList_buildSliceTo rfl 30 37 1 _ rfl w7.heap.size rfl _ rfl Try.underlying30 (exC u'.nd (.slice ra rl rc)) (by rw [Array.toList_map]; exact built1 _ _) ?_))
                refine HT.mono ?_
                rintro e w8 ⟨rfl, hF8⟩
                have F8 := hide hF8
                clear hF8
                go_wp2_with fail
                refine ⟨⟨1, la, ll, lc, by omega, rfl, by first | rfl | (rw [wm.out]; rfl), F8⟩, ?_⟩
                exact meas_s (k := 0) (len := 4) (by omega)
              · have pg : (0 : Int) < (m : Int) := by omega
                have HK := keep_fr FI.out (by omega) HB7.out X7'.out hun'.out
                have hL7 : Hid (X5 < w7.heap.size) := hide (Nat.lt_of_lt_of_le L5.out hb7.size)
                clear hb7 X7'
                go_wp2_with (first
                  | (refine wpList_load_blk rfl 37 _ rfl _ rfl _ (by with_reducible exact D5.out) _ Try.underlying37 rfl (exC_info _ _) ?_)
                  | (refine wpList_load_blk rfl 37 _ rfl _ rfl _ (by with_reducible exact D7.out) _ Try.underlying37 rfl (exC_info _ _) ?_))
                refine HK.mono ?_
                rintro e w8 ⟨rfl, ⟨css, hF8⟩, hz8, hs8⟩
                have F5 : Hid (Blk w8 X5 (exC u'.nd (.slice ra rl rc)) 37) := hide ((hs8 X5 g5.out hL7.out).trans D5.out)
                have hF9 := hide (hF8.below ((Below.refl _ w8).alloc (Nat.le_refl _) (exO u'.nd (.slice ra rl rc))))
                have hrow := hide (hF9.out.row (by omega))
                have hrg := hide (range_ex w8 u'.nd (.slice ra rl rc))
                have hlo := hide hF9.out.low.size
                clear hF8 hz8 hs8 D5 D7
                go_wp2_with (first
                  | (refine wpList_load_blk rfl 37 _ rfl _ rfl _ (by with_reducible exact F5.out) _ Try.underlying37 rfl (exC_info _ _) ?_)
                  | (refine Go.Great.wpList_buildSliceTo rfl 30 37 1 _ rfl w8.heap.size rfl _ rfl Try.underlying30 (exC u'.nd (.slice ra rl rc)) (by rw [Array.toList_map]; exact built1 _ _) ?_)
                  | (at_builtin; refine wpList_appX (v := .slice la ll lc) (css := css) (n := u'.nd) (sa := ra) (sl := rl) (sc := rc) rfl _ _ rfl rfl rfl hrow.out.1 hrg.out hrow.out.2 hlo.out ?_; intro v' w9 r1 r2 r3; obtain ⟨va, vl, vc, rfl⟩ := owns_shape9 r1; have hnx := hide (hF9.out.app r1 r2 r3); clear r1 r2 r3))
                refine ⟨⟨m + 1, va, vl, vc, hmt, rfl, by first | rfl | (rw [wm.out]; rfl), hnx⟩, ?_⟩
                try rw [wm.out]
                exact meas_s (k := m) (len := 4) hmt
            · obtain rfl : m = 4 := by omega
              have SS2 := hide (fun w' (h : Below wr.heap.size wr w') => (⟨(h.block w3.heap.size (FI.out.at' _ (.inr rfl)).1).trans ((FI.out.at' _ (.inr rfl)).2.trans K4.out), opX_exC (hRw.out _ (next BI.out h))⟩ : Blk w' w3.heap.size (exC n1 (.slice ta tl tc)) 37 ∧ w'.rangeAt b (o + k * 17 + 1) (exC n1 (.slice a1 l1 c1)).toList))
              have HK := hide (fun w' (h : Below wr.heap.size wr w') => lkept_any u _ _ w' bs (hLw4.out.move u (fun x hx => (h.block x (FI.out.at' x (.inl hx)).1).trans (FI.out.at' x (.inl hx)).2)) (fun x hx => Nat.lt_of_lt_of_le (FI.out.at' x (.inl hx)).1 h.size) hnn.out (hTw.out _ (next BI.out h)))
              go_upto_region 21 with fail
              refine sf21 p0 SS2 HK ?_
              intro w6 hb6
              have F6 : Hid (FrP w w6 bk q (.slice la ll lc) (4 * k + 4) w (fun _ => False)) := hide (FrP.idle FI.out hb6)
              clear hb6 SS2 HK
              go_wp2_with fail
              refine ⟨⟨k + 1, la, ll, lc, hlt, by omega, rfl, by first | rfl | (rw [wk.out]; rfl), F6⟩, ?_⟩
              try rw [wk.out]
              exact meas_s hlt

      · have p2 : decide ((k : Int) < 60) = false := by simp; omega
        have F300 : Hid (4 * k ≤ 300) := hide (by omega)
        have HW := whole_fr FP.out F300.out
        go_wp2_with fail
        refine HW.mono ?_
        rintro e v1 ⟨rfl, hQ1⟩
        have Q1 := hide hQ1
        have HU := untouched_fr hQ1 F300.out
        clear hQ1 FP
        go_wp2_with fail
        refine HU.mono ?_
        rintro e v2 ⟨rfl, hb2⟩
        have Q2 := hide ((Q1.out.below hb2).below ((Below.refl _ v2).alloc (Nat.le_refl _) (.cells #[.slice none 0 0, .slice none 0 0, .int .i64 0] 28)))
        have HL := left_fr Q2.out F300.out (Blk.new v2 #[.slice none 0 0, .slice none 0 0, .int .i64 0] 28) (Nat.le_trans Q1.out.low.size hb2.size)
        clear hb2 Q1
        go_wp2_with fail
        refine HL.mono ?_
        rintro e v3 ⟨rfl, hB3⟩
        have HB := whole_bo hB3
        clear hB3
        go_wp2_with fail
        refine HB.mono ?_
        rintro e v4 ⟨rfl, hb4⟩
        go_wp2_with fail
        go_ret
        exact ⟨rfl, hb4⟩

    · have p0 : decide ((k : Int) < (len : Int)) = false := by simp; omega
      have F300 : Hid (4 * k ≤ 300) := hide (by omega)
      have HW := whole_fr FP.out F300.out
      go_wp2_with fail
      refine HW.mono ?_
      rintro e v1 ⟨rfl, hQ1⟩
      have Q1 := hide hQ1
      have HU := untouched_fr hQ1 F300.out
      clear hQ1 FP
      go_wp2_with fail
      refine HU.mono ?_
      rintro e v2 ⟨rfl, hb2⟩
      have Q2 := hide ((Q1.out.below hb2).below ((Below.refl _ v2).alloc (Nat.le_refl _) (.cells #[.slice none 0 0, .slice none 0 0, .int .i64 0] 28)))
      have HL := left_fr Q2.out F300.out (Blk.new v2 #[.slice none 0 0, .slice none 0 0, .int .i64 0] 28) (Nat.le_trans Q1.out.low.size hb2.size)
      clear hb2 Q1
      go_wp2_with fail
      refine HL.mono ?_
      rintro e v3 ⟨rfl, hB3⟩
      have HB := whole_bo hB3
      clear hB3
      go_wp2_with fail
      refine HB.mono ?_
      rintro e v4 ⟨rfl, hb4⟩
      go_wp2_with fail
      go_ret
      exact ⟨rfl, hb4⟩
end Go.Proofs.Ytiajoppbgebnpaa
