/- ShiftAll: every call of package shift is the document's, in every order, and what is handed in is as it was, spare room too. Proved of the Go text. -/
import Derived.Test.YtnikmbkkhfmbeaaSaJ
import Derived.Test.YtnikmbkkhfmbeaaOpJ
import Derived.Test.YtnikmbkkhfmbeaaBeJ
import Derived.Deep.CutRange
namespace Go.Proofs.Ytnikmbkkhfmbeaa
open Go.RowKit Go.Sort
set_option linter.unusedVariables false

theorem opX_exC {w : World} {b o : Nat} {K M N : Int} {n : Nd} {s : Value} (h : w.rangeAt b o (opX K M N n s).toList) : w.rangeAt b (o + 1) (exC n s).toList := by
  intro j v hv
  have hj : j < 14 := by have := (List.getElem?_eq_some_iff.1 hv).1; rwa [exC_len] at this
  have e : (opX K M N n s).toList = .int .i64 K :: ((exC n s).toList ++ [.int .i64 M, .int .i64 N]) := by unfold opX exC; rfl
  have := h (1 + j) v (by rw [e, show 1 + j = j + 1 by omega, List.getElem?_cons_succ, List.getElem?_append_left (by rw [exC_len]; exact hj)]; exact hv)
  rwa [show o + (1 + j) = o + 1 + j by omega] at this
/-- The error of a call and its tree: the zero tree where it is refused. -/
def outN (er : Int) (u : Ex) : Ex := if er = 0 then u else .mk nd0 []
theorem er_all {K M : Int} {u : Ex} (h : clEr K M u = 0) : allE u = true := by
  have hm : mayR u = 0 := by
    unfold clEr at h
    by_cases k1 : K = 1
    · rwa [if_pos k1] at h
    rw [if_neg k1] at h
    by_cases hq : mayR u = 0
    · exact hq
    · by_cases k2 : K = 2
      · rw [if_pos k2] at h; unfold spotR at h; rw [if_neg hq] at h; exact h
      · rw [if_neg k2] at h; unfold spotR at h; rw [if_neg hq] at h; exact h
  unfold mayR at hm
  split at hm
  · split at hm
    · assumption
    · omega
  · omega
theorem nil_in (m : Nat → Prop) (w : World) : In m w (exV nd0 (.slice none 0 0)) (.mk nd0 []) := by unfold In; exact ⟨none, 0, 0, rfl, rfl, by decide, by decide, .inl rfl⟩
theorem call_out {K M N : Int} {u : Ex} {nd tn : Nd} {a1 a2 : Option Addr} {l1 c1 l2 c2 G : Nat} {w : World} (h1 : Tree w (exV tn (.slice a1 l1 c1)) u) (hG : G ≤ w.heap.size) (h2 : In (· < G) w (exV nd (.slice a2 l2 c2)) u) :
    Calls Try.prog 8 #[.agg (opX K M N nd (.slice a2 l2 c2)), exV tn (.slice a1 l1 c1)] w fun e w'' => ∃ (ra : Option Addr) (rl rc : Nat) (qa : Option Addr) (ql qc : Nat), e = .returned (.tuple #[exV (outN (clEr K M u) (movE (clMv K M N) u)).nd (.slice ra rl rc), .int .i64 (clEr K M u), exV (outN (clEr K M u) (movE (clMv K M N) u)).nd (.slice qa ql qc), .int .i64 (clEr K M u)]) ∧ In (OldN G w.heap.size w''.heap.size) w'' (exV (outN (clEr K M u) (movE (clMv K M N) u)).nd (.slice ra rl rc)) (outN (clEr K M u) (movE (clMv K M N) u)) ∧ In (OldN G w.heap.size w''.heap.size) w'' (exV (outN (clEr K M u) (movE (clMv K M N) u)).nd (.slice qa ql qc)) (outN (clEr K M u) (movE (clMv K M N) u)) ∧ Below w.heap.size w w'' := by
  refine (call_any K M N u tn nd a1 a2 l1 c1 l2 c2 w h1 G hG h2).mono fun e w'' h => ?_
  unfold outN
  rcases h with ⟨he, rfl, hb⟩ | ⟨he, a, len, cap, bs, a', len', cap', rfl, hN, hT, hb⟩
  · rw [if_neg he]
    exact ⟨none, 0, 0, none, 0, 0, rfl, nil_in _ _, nil_in _ _, hb⟩
  · rw [if_pos he, he]
    exact ⟨a, len, cap, a', len', cap', rfl, hN.ow.in' _ (fun k hk => .inr (hN.at' k hk)) (mov_sm _ u (er_all he) (h1.sm u)), hT, hb⟩
theorem meas_s {k len : Nat} (h : k < len) : len - (intOf (.int .i64 ((k : Int) + 1))).toNat < len - (intOf (.int .i64 (k : Int))).toNat := by
  have h1 : (intOf (.int .i64 ((k : Int) + 1))).toNat = k + 1 := rfl
  have h2 : (intOf (.int .i64 (k : Int))).toNat = k := rfl
  rw [h1, h2]
  omega
set_option maxHeartbeats 4000000 in
set_option maxRecDepth 100000 in
theorem shiftAll_walk (a : Option Addr) (len cap : Nat) (w : World) (O : OpsAt w a len) : Calls Try.prog 3 #[.slice a len cap] w fun e w' => e = .returned (.bool true) ∧ Below w.heap.size w w' := by
  replace O := hide O
  go_enter Try.func3, Try.ntmps3
  try simp only [List.append]
  go_wp2_with fail
  refine (begun12 w).mono ?_
  rintro e w1 ⟨rfl, hb1⟩
  have B1 := hide (next (Below.refl w.heap.size w) hb1)
  clear hb1
  go_wp2_with fail
  go_loopw [3] (fun i wr => ∃ k : Nat, k ≤ len ∧ k ≤ 2000 ∧ i = .int .i64 (k : Int) ∧ Hid (Below w1.heap.size w1 wr)) (fun i _ => len - (intOf i).toNat)
  case atStart => exact ⟨0, Nat.zero_le _, Nat.zero_le _, rfl, hide (Below.refl _ _)⟩
  case round =>
    obtain ⟨k, hk1, hk2, rfl, HB⟩ := hrel
    have Br := hide (next B1.out HB.out)
    by_cases hlt : k < len
    · have p0 : (k : Int) < (len : Int) := by omega
      by_cases h2000 : k < 2000
      · have p2 : decide ((k : Int) < 2000) = true := by simp; omega
        have wk : Hid (wrap64 ((k : Int) + 1) = (k : Int) + 1) := hide (IntWalk.wrap64_in _ ⟨by omega, by omega⟩)
        obtain ⟨b, o, rfl, K, M, N, n1, ks, a1, l1, c1, hR0, hT0, hbw⟩ := O.out.get hlt
        obtain ⟨u, hu⟩ : ∃ u, Ex.mk n1 ks = u := ⟨_, rfl⟩
        have hun : Hid (u.nd = n1) := hide (by rw [← hu]; rfl)
        rw [hu] at hT0
        have hRw := hide (fun w' (h : Below w.heap.size w w') => range_of_block hR0 (h.block b hbw))
        have hTw := hide (fun w' (h : Below w.heap.size w w') => hT0.step h)
        have hT00 := hide hT0
        have R1 := hide (opX_exC (hRw.out _ Br.out))
        clear hR0 hT0 hu
        cases hsm : decide (0 ≤ ndsE u 2000) with
        | false =>
          have HS := small_any u _ wr (hTw.out _ Br.out)
          rw [hsm] at HS
          clear hsm
          go_wp2_with (refine wpList_load_at rfl 29 _ rfl _ _ rfl _ _ (by with_reducible exact R1.out) Try.underlying29 rfl (exC_info _ _) ?_)
          refine HS.mono ?_
          rintro e w2 ⟨rfl, hb2⟩
          have HB2 := hide (next HB.out hb2)
          clear hb2
          go_wp2_with fail
          refine ⟨⟨k + 1, hlt, by omega, by first | rfl | (rw [wk.out]; rfl), HB2⟩, ?_⟩
          try rw [wk.out]
          exact meas_s hlt
        | true =>
          have HS := small_any u _ wr (hTw.out _ Br.out)
          have hnn : Hid (nodesE u ≤ 2000) := hide (by have h := (nds_le u 2000).2 (of_decide_eq_true hsm); have h2 := of_decide_eq_true hsm; omega)
          rw [hsm] at HS
          clear hsm
          go_wp2_with (refine wpList_load_at rfl 29 _ rfl _ _ rfl _ _ (by with_reducible exact R1.out) Try.underlying29 rfl (exC_info _ _) ?_)
          refine HS.mono ?_
          rintro e w2 ⟨rfl, hb2⟩
          have HB2 := hide (next HB.out hb2)
          have B2 := hide (next Br.out hb2)
          have R2 := hide (opX_exC (hRw.out _ B2.out))
          have HT := twin_any u _ w2 (hTw.out _ B2.out) hnn.out
          clear hb2 R1
          go_wp2_with (refine wpList_load_at rfl 29 _ rfl _ _ rfl _ _ (by with_reducible exact R2.out) Try.underlying29 rfl (exC_info _ _) ?_)
          refine HT.mono ?_
          rintro e w3 ⟨ta, tc, bs, rfl, hLw, hNd, hNa, hb3⟩
          rw [hun.out] at hLw ⊢
          obtain ⟨tl, htl⟩ : ∃ tl, u.kids.length = tl := ⟨_, rfl⟩
          rw [htl] at hLw ⊢
          have hsn := run_putnew w3 n1 ta tl tc
          clear htl
          have HB3 := hide (step (next HB2.out hb3) (exO n1 (.slice ta tl tc)))
          have B3 := hide (step (next B2.out hb3) (exO n1 (.slice ta tl tc)))
          have K4 := hide (Blk.new w3 (exC n1 (.slice ta tl tc)) 29)
          have hlt4 : Hid (∀ x ∈ bs, x < (w3.alloc (exO n1 (.slice ta tl tc))).heap.size) := hide (fun x hx => by have := (hNa x hx).2; simp; omega)
          have hLw4 := hide (hLw.move _ (w' := w3.alloc (exO n1 (.slice ta tl tc))) (fun x hx => Below.heap_alloc w3 _ x (hNa x hx).2))
          clear hLw hNd hNa hb3 HB2 B2 R2
          go_upto_region 8 with fail
          obtain ⟨w4, hw4⟩ : ∃ w4, w3.alloc (exO n1 (.slice ta tl tc)) = w4 := ⟨_, rfl⟩
          rw [hw4] at HB3 B3 K4 hlt4 hLw4 ⊢
          clear hw4 hsn
          have SS := hide (fun w' (h : Below w4.heap.size w4 w') => (⟨hRw.out _ (next B3.out h), K4.out.keep h⟩ : w'.rangeAt b (o + k * 17) (opX K M N n1 (.slice a1 l1 c1)).toList ∧ Blk w' w3.heap.size (exC n1 (.slice ta tl tc)) 29))
          have HC := hide (fun w' (h : Below w4.heap.size w4 w') => call_out (K := K) (M := M) (N := N) (nd := n1) (tn := n1) (G := w4.heap.size) (Lw.tree u (hLw4.out.move u (fun x hx => h.block x (hlt4.out x hx))) (fun x hx => Nat.lt_of_lt_of_le (hlt4.out x hx) h.size)) h.size (In.move (fun q hq => ⟨Nat.lt_of_lt_of_le hq B3.out.size, (next B3.out h).block q hq⟩) u hT00.out))
          obtain ⟨er, her⟩ : ∃ er, clEr K M u = er := ⟨_, rfl⟩
          obtain ⟨u', hu'⟩ : ∃ u', outN er (movE (clMv K M N) u) = u' := ⟨_, rfl⟩
          rw [her, hu'] at HC
          refine sa8 p0 SS HC ?_
          intro X5 X7 ra rl rc qa ql qc w5 hb5 t1 t2 b5 b7
          have SS2 := hide (fun w' (h : Below w5.heap.size w5 w') => (⟨b5.keep h, b7.keep h, (K4.out.keep hb5).keep h, opX_exC (hRw.out _ (next (next B3.out hb5) h))⟩ : Blk w' X5 (exC u'.nd (.slice ra rl rc)) 29 ∧ Blk w' X7 (exC u'.nd (.slice qa ql qc)) 29 ∧ Blk w' w3.heap.size (exC n1 (.slice ta tl tc)) 29 ∧ w'.rangeAt b (o + k * 17 + 1) (exC n1 (.slice a1 l1 c1)).toList))
          have HE := fun w' (h : Below w5.heap.size w5 w') => leq_any u' u' _ _ w' (t1.step h) (t2.step h)
          rw [same_selfE] at HE
          have HK := hide (fun w' (h : Below w5.heap.size w5 w') => lkept_any u _ _ w' bs (hLw4.out.move u (fun x hx => ((hb5.trans (h.mono hb5.size)).block x (hlt4.out x hx)))) (fun x hx => Nat.lt_of_lt_of_le (hlt4.out x hx) (Nat.le_trans hb5.size h.size)) hnn.out (hTw.out _ (next (next B3.out hb5) h)))
          have HE' := hide HE
          have HB5 := hide (next HB3.out hb5)
          clear HE SS HC t1 t2 b5 b7 hb5
          go_upto_region 9 with fail
          refine sa9 p0 SS2 HE' HK ?_
          intro w6 hb6
          have HB6 := hide (next HB5.out hb6)
          clear hb6 SS2 HE' HK
          go_wp2_with fail
          refine ⟨⟨k + 1, hlt, by omega, by first | rfl | (rw [wk.out]; rfl), HB6⟩, ?_⟩
          try rw [wk.out]
          exact meas_s hlt
      · have p2 : decide ((k : Int) < 2000) = false := by simp; omega
        go_wp2_with fail
        go_ret
        exact ⟨rfl, Br.out⟩
    · obtain rfl : k = len := by omega
      go_wp2_with fail
      go_ret
      exact ⟨rfl, Br.out⟩
end Go.Proofs.Ytnikmbkkhfmbeaa
