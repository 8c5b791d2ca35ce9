/- TreeFresh: the law's walk. -/
import Derived.Test.YtgopolelpckjcaaRegs9
import Derived.Test.YtgopolelpckjcaaOpens9c
namespace Go.Proofs.Ytgopolelpckjcaa
open Go.RowKit Go.Sort
set_option linter.unusedVariables false

theorem ly_tree {w : World} {v : Value} {t : Ex} {bs : List Nat} (h : Ly w v t bs) (hl : ∀ x ∈ bs, x < w.heap.size) (hs : SmE t) (o : Obj) : Tree (w.alloc o) v t := Tree.alloc ((Ly.ow _ h).in' _ hl hs) o
theorem sameE_selfF : ∀ t : Ex, sameE t t = true := by
  have hL : ∀ ks : List Ex, (∀ k ∈ ks, sameE k k = true) → sameL ks ks = true := by
    intro ks
    induction ks with
    | nil => intro _; rw [sameL]; rfl
    | cons k r ih => intro h; rw [sameL]; simp only [h k (List.mem_cons_self ..), ih (fun x hx => h x (List.mem_cons_of_mem _ hx)), Bool.and_self]
  refine Ex.ind fun nd ks ih => ?_
  rw [sameE]
  show (ndB nd nd && sameL ks ks) = true
  rw [ndB_self, hL ks ih]; rfl
theorem lay_one (n : Nd) (ks : List Ex) (v : Value) (w' : World) (ht : Tree w' v (.mk n ks)) (hn : nodesE (.mk n ks) ≤ 512) : Calls Try.prog 9 #[v] w' fun e w2 => ∃ bt bsT, e = .returned (exV n (.slice (some ⟨bt, 0, none⟩) ks.length (ks.length + 1))) ∧ Ly w2 (exV n (.slice (some ⟨bt, 0, none⟩) ks.length (ks.length + 1))) (.mk n ks) bsT ∧ bsT.Nodup ∧ (∀ k ∈ bsT, w'.heap.size ≤ k ∧ k < w2.heap.size) ∧ Below w'.heap.size w' w2 := lay_any (.mk n ks) v w' ht hn
theorem copy_one (n : Nd) (ks : List Ex) (v : Value) (w' : World) (ht : Tree w' v (.mk n ks)) (hf : fitB (.mk n ks) = true) : Calls Try.prog 10 #[v] w' fun e w2 => ∃ a l c bs, e = .returned (.tuple #[exV n (.slice a l c), .int .i64 0]) ∧ New w' w2 (exV n (.slice a l c)) (.mk n ks) bs ∧ Below w'.heap.size w' w2 := by
  refine (copy_any (.mk n ks) v w' ht).mono ?_
  rintro e w2 (⟨hx, _⟩ | ⟨_, a, l, c, bs, he, hN, hb⟩)
  · rw [hf] at hx; cases hx
  · exact ⟨a, l, c, bs, he, hN, hb⟩
theorem reads_one (n : Nd) (ks : List Ex) (v : Value) (w' : World) (ht : Tree w' v (.mk n ks)) : Calls Try.prog 11 #[v] w' fun e w2 => ∃ a l c, e = .returned (.tuple #[.slice a l c, .int .i64 (mayR (.mk n ks))]) ∧ RowA w2 w'.heap.size (.slice a l c) (rdR (.mk n ks)) ∧ Below w'.heap.size w' w2 :=
  (reads_any (.mk n ks) v w' ht).mono (fun e w2 h => readsP_any h)
theorem rreads_one (n : Nd) (ks : List Ex) (v : Value) (w' : World) (ht : Tree w' v (.mk n ks)) : Calls Try.prog 18 #[v] w' fun e w2 => ∃ a l c, e = .returned (.tuple #[.slice a l c, .int .i64 (mayR (.mk n ks))]) ∧ RowA w2 w'.heap.size (.slice a l c) (rdR (.mk n ks)) ∧ Below w'.heap.size w' w2 :=
  (rreads_any (.mk n ks) v w' ht).mono (fun e w2 h => readsP_any h)
theorem nlt200 {N : Nat} (h : ¬ N < 200) : ¬ (N : Int) < 200 := by omega
theorem lsA_le {a : Option Addr} {l c D E : Nat} (h : LsA a l c D E) : l ≤ c := by
  rcases h with ⟨_, h1, h2⟩ | ⟨_, _, _, h, _⟩
  · rw [h1]; exact Nat.zero_le _
  · exact h
set_option maxHeartbeats 8000000 in
set_option maxRecDepth 100000 in
theorem treeFresh_walk (a : Option Addr) (len cap : Nat) (W : World) (h : ExsAt W a len) : Calls Try.prog 5 #[.slice a len cap] W fun e w' => e = .returned (.bool true) ∧ Below W.heap.size W w' := by
  have HG := hide (begun9 W)
  have hsm := hide h.1
  replace h := hide h
  go_enter Try.func5, Try.ntmps5
  try simp only [List.append]
  go_wp2_with (first
    | (go_at_call 6; refine HG.out.mono ?_; rintro e w0 ⟨rfl, hb⟩; have b0 := hide hb; clear hb))
  go_loopw [3, 4, 5, 6, 7] (fun s3 s4 s5 s6 i wr => ∃ (N : Nat) (a3 a4 a5 a6 : Option Addr) (l3 c3 l4 c4 l5 c5 l6 c6 : Nat) (c : Nat → Nat) (kc wc : List (Array Value)) (ls sd : List Value) (T : List Ex) (L : List (List Ar)),
    N ≤ len ∧ N ≤ 200 ∧ s3 = .slice a3 l3 c3 ∧ s4 = .slice a4 l4 c4 ∧ s5 = .slice a5 l5 c5 ∧ s6 = .slice a6 l6 c6 ∧ i = .int .i64 N ∧ Hid (T.length = 2 * L.length ∧ L.length ≤ N) ∧ Hid (FrSt W wr c (.slice a3 l3 c3) (.slice a4 l4 c4) (.slice a5 l5 c5) (.slice a6 l6 c6) kc wc ls sd T L)) (fun _ _ _ _ i _ => len - (intOf i).toNat)
  case atStart => exact ⟨0, none, none, none, none, 0, 0, 0, 0, 0, 0, 0, 0, fun _ => 0, [], [], [], [], [], [], Nat.zero_le _, Nat.zero_le _, rfl, rfl, rfl, rfl, rfl, hide ⟨rfl, Nat.zero_le _⟩, hide (FrSt.start b0.out)⟩
  case round =>
    obtain ⟨N, a3, a4, a5, a6, l3, c3, l4, c4, l5, c5, l6, c6, c, kc, wc, ls, sd, T, L, hNl, hN2, rfl, rfl, rfl, rfl, rfl, hTL, S⟩ := hrel
    obtain ⟨v0, rfl⟩ : ∃ v0, v0 = wr := ⟨wr, rfl⟩
    by_cases hx : N < len ∧ N < 200
    · obtain ⟨hlt, h200⟩ := hx
      have p1 : (N : Int) < (len : Int) := by omega
      have p2 : (N : Int) < 200 := by omega
      have wk := IntWalk.wrap64_in ((N : Int) + 1) ⟨by omega, by omega⟩
      obtain ⟨b, o, rfl, n, ks, at1, lt1, ct1, hr, ht, hbl⟩ := h.out.get hlt
      have bw := hide S.out.low
      have R0 := hide (range_of_block hr (bw.out.block b hbl))
      have HS := hide (fun w' (g : Below W.heap.size W w') => rsize_any (.mk n ks) _ w' (ht.step g))
      have hRin := hide (fun w' (g : Below W.heap.size W w') => range_of_block hr (g.block b hbl))
      cases hf : fitB (.mk n ks)
      · have q1 := size_great hf
        generalize sizeR (.mk n ks) = Sz at *
        clear hf ht hr
        go_wp2_with (first
          | (refine wpList_load_at rfl 29 _ rfl _ _ rfl _ _ (by with_reducible exact R0.out) Try.underlying29 rfl (exC_info _ _) ?_)
          | (go_at_call 8; refine (HS.out _ bw.out).mono ?_; rintro e w1 ⟨rfl, hb⟩; have S1 := hide (S.out.below hb); clear hb))
        refine ⟨⟨N + 1, _, _, _, _, _, _, _, _, _, _, _, _, c, kc, wc, ls, sd, T, L, hlt, by omega, rfl, rfl, rfl, rfl, rfl, hide ⟨hTL.out.1, by have := hTL.out.2; omega⟩, S1⟩, ?_⟩
        exact meas_lt hlt
      · have q1 := size_fine hf
        have hn5 := hide (of_decide_eq_true hf).1
        have hsE := hide ht.sm
        have hq := hide hf
        have HL := hide (fun w' (g : Below W.heap.size W w') => lay_one n ks _ w' (ht.step g) hn5.out)
        have HC := hide (fun v w' (g : Tree w' v (.mk n ks)) => copy_one n ks v w' g hq.out)
        have HR := hide (fun v w' (g : Tree w' v (.mk n ks)) => reads_one n ks v w' g)
        generalize sizeR (.mk n ks) = Sz at *
        replace ht := hide ht
        clear hf hr
        go_wp2_with (first
          | (refine wpList_load_at rfl 29 _ rfl _ _ rfl _ _ (by with_reducible exact R0.out) Try.underlying29 rfl (exC_info _ _) ?_)
          | (go_at_call 8; refine (HS.out _ bw.out).mono ?_; rintro e w1 ⟨rfl, hb⟩; have b1 := hide (next bw.out hb); have g1 := hide hb; have R1 := hide (hRin.out _ b1.out); clear hb)
          | (refine wpList_load_at rfl 29 _ rfl _ _ rfl _ _ (by with_reducible exact R1.out) Try.underlying29 rfl (exC_info _ _) ?_)
          | (go_at_call 9; refine (HL.out _ b1.out).mono ?_; rintro e w2 ⟨bt, bsT, rfl, hLy, hTn, hTr, h12⟩; have hsn2 := run_putnew w2 n (some ⟨bt, 0, none⟩) ks.length (ks.length + 1); have X2 := hide (Blk.new w2 (exC n (.slice (some ⟨bt, 0, none⟩) ks.length (ks.length + 1))) 29); have T2 : Hid (Tree (w2.alloc (exO n (.slice (some ⟨bt, 0, none⟩) ks.length (ks.length + 1)))) (exV n (.slice (some ⟨bt, 0, none⟩) ks.length (ks.length + 1))) (.mk n ks)) := hide (ly_tree hLy (fun x hx => (hTr x hx).2) hsE.out _); replace hLy := hide hLy; replace hTn := hide hTn; replace hTr := hide hTr; replace h12 := hide h12)
          | (refine wpList_load_blk rfl 29 _ rfl _ rfl _ (by with_reducible exact X2.out) _ Try.underlying29 rfl (exC_info _ _) ?_)
          | (go_at_call 10; have t2 := T2.out; refine (HC.out _ _ t2).mono ?_; rintro e w3 ⟨ax, lx, cx, bsX, rfl, hX, h23⟩; have hsn3 := run_putnew w3 n ax lx cx; have X3 := hide ((X2.out.keep h23).alloc (exO n (.slice ax lx cx))); have T3 := hide ((t2.step h23).alloc (exO n (.slice ax lx cx))); replace hX := hide hX; replace h23 := hide h23; clear t2 T2 X2)
          | (refine wpList_load_blk rfl 29 _ rfl _ rfl _ (by with_reducible exact X3.out) _ Try.underlying29 rfl (exC_info _ _) ?_)
          | (go_at_call 10; have t3 := T3.out; refine (HC.out _ _ t3).mono ?_; rintro e w4 ⟨ay, ly, cy, bsY, rfl, hY, h34⟩; have hsn4 := run_putnew w4 n ay ly cy; have X4 := hide ((X3.out.keep h34).alloc (exO n (.slice ay ly cy))); have T4 := hide ((t3.step h34).alloc (exO n (.slice ay ly cy))); replace hY := hide hY; replace h34 := hide h34; clear t3 T3 X3)
          | (refine wpList_load_blk rfl 29 _ rfl _ rfl _ (by with_reducible exact X4.out) _ Try.underlying29 rfl (exC_info _ _) ?_)
          | (go_at_call 11; have t4 := T4.out; refine (HR.out _ _ t4).mono ?_; rintro e w5 ⟨al, ll, cl, rfl, hl, h45⟩; have X5 := hide (X4.out.keep h45); have T5 := hide (t4.step h45); replace hl := hide hl; replace h45 := hide h45; clear t4 T4 X4)
          | (refine wpList_load_blk rfl 29 _ rfl _ rfl _ (by with_reducible exact X5.out) _ Try.underlying29 rfl (exC_info _ _) ?_)
          | (go_at_call 11; have t5 := T5.out; refine (HR.out _ _ t5).mono ?_; rintro e w6 ⟨am, lm, cm, rfl, hm, h56⟩; replace hm := hide hm; replace h56 := hide h56; clear t5 T5 X5))
        obtain ⟨HLc, ⟨hOX, hXn, hXr, hXB⟩, ⟨hRL, hlr⟩, h16⟩ := lc_start hLy.out hTn.out hTr.out h12.out hX.out h23.out hY.out h34.out hl.out h45.out hm.out h56.out
        have b6 := hide (next b1.out h16)
        have g6 := hide (next g1.out h16)
        have rin := hRin.out _ b6.out
        have hE : ∀ d os, Calls Try.prog 12 #[lit14 n (.slice ax lx cx), lit14 n (.slice at1 lt1 ct1)] (grow (redrawn w6 d) os) fun e w'' => e = .returned (.bool true) ∧ ∃ p : Regrown, w'' = grow (redrawn w6 p.d) p.os := fun d' os => by
          have q := eq_any (.mk n ks) (.mk n ks) (exV n (.slice ax lx cx)) (exV n (.slice at1 lt1 ct1)) (grow (redrawn w6 d') os) ((ow_tree hOX (fun x hx => by have := hXr x hx; have := HLc.ord; omega) hsE.out).step (below_regrown w6 d' os)) (ht.out.step (next b6.out (below_regrown w6 d' os)))
          rw [sameE_selfF] at q
          exact Calls.regrown_of q
        replace HLc := hide HLc
        replace hOX := hide hOX
        replace hXn := hide hXn
        replace hXr := hide hXr
        replace hXB := hide hXB
        replace hRL := hide hRL
        replace hlr := hide hlr
        replace rin := hide rin
        replace hE := hide hE
        clear h16 hLy hTn hTr h12 hX h23 hY h34 hl h45 hm h56 R0 R1 hsn2 hsn3 hsn4
        generalize mayR (.mk n ks) = mr at *
        go_wp2_with fail
        refine reg15 p1 rin.out hXB.out hE.out ?_
        intro w7 x78 x79 x80 x81 x82 x83 x84 x85 x86 x87 x88 x89 x90 x91 x92 x93 x94 x95 x96 hbz
        clear hE rin
        have L7 := hide (HLc.out.step hbz)
        have O7 := hide (hOX.out.move _ (fun x hx => hbz.block x (by have := hXr.out x hx; have := HLc.out.ord; omega)))
        have XB7 := hide (hXB.out.keep hbz)
        have RL7 := hide (owns_keep hRL.out (fun x hx => hbz.block x (by have := hlr.out x hx; have := HLc.out.ord; omega)))
        have b7 := hide (next b6.out hbz)
        have g7 := hide (next g6.out hbz)
        have HSp := hide (spoil_any (.mk n ks) (exV n (.slice ax lx cx)) w7 bsX O7.out hXn.out hn5.out)
        clear hbz HLc hOX hXB hRL b6 g6
        go_wp2_with (first
          | (refine wpList_load_blk rfl 29 _ rfl _ rfl _ (by with_reducible exact XB7.out) _ Try.underlying29 rfl (exC_info _ _) ?_)
          | (go_at_call 13; refine HSp.out.mono ?_; rintro e w8 ⟨rfl, hc8⟩; have L8 := hide (L7.out.chg hc8 (fun x hx _ => .inl (hXr.out x hx))); replace hc8 := hide hc8))
        have g8 : Hid (Below v0.heap.size v0 w8) := hide (below_chg g7.out g7.out.size hc8.out (fun x hx => by have := hXr.out x hx; have := L7.out.ord; have := g1.out.size; omega))
        obtain ⟨hLs, hSh7, hll⟩ := rowA_shape RL7.out hlr.out
        have Sh8 := hide (hSh7.chg hc8.out (fun g e hx => by have := hXr.out g hx; have := hlr.out g (by rw [e]; rfl); have := L7.out.ord; omega))
        replace hLs := hide hLs
        have hl5 : Hid (ll ≤ 512) := hide (by rw [hll]; exact rdR_len hn5.out)
        have hs0 : Hid (v0.heap.size ≤ w4.heap.size + 1) := hide (by have := g1.out.size; have := L7.out.ord; omega)
        clear hSh7 hll hc8 O7 XB7 RL7 g7 L7 HSp
        go_wp2_with fail
        go_loopw [20] (fun i wr => ∃ (k : Nat), k ≤ ll ∧ i = .int .i64 k ∧ Hid (Lc wr w1.heap.size (w2.heap.size + 1) (w3.heap.size + 1) (w4.heap.size + 1) w5.heap.size w6.heap.size n ks (rdR (.mk n ks)) (.slice (some ⟨bt, 0, none⟩) ks.length (ks.length + 1)) (.slice ay ly cy) (.slice am lm cm) bsT bsY w2.heap.size w4.heap.size) ∧ Hid (ShA wr al cl) ∧ Hid (Below v0.heap.size v0 wr)) (fun i _ => ll - (intOf i).toNat)
        case atStart => exact ⟨0, Nat.zero_le _, rfl, L8, Sh8, g8⟩
        case round =>
          clear L8 Sh8 g8
          obtain ⟨k, hkl, rfl, L8, Sh8, g8⟩ := hrel
          by_cases hkt : k < ll
          · have p3 : (k : Int) < (ll : Int) := by omega
            rcases hLs.out with ⟨_, h0, _⟩ | ⟨g, rfl, hgr, hlc, hcm⟩
            · exfalso; omega
            have hth := hide (Sh8.out.th (k := k) (by omega))
            have L9 := hide (L8.out.chg (putA_chg wr g k (-1)) (fun x e _ => .inr (by rw [e]; exact hgr)))
            have Sh9 := hide (Sh8.out.put (k := k) (q := -1))
            have g9 : Hid (Below v0.heap.size v0 (putA wr g k (-1))) := hide (below_chg g8.out g8.out.size (putA_chg wr g k (-1)) (fun x e => by have := hs0.out; omega))
            have wk2 := IntWalk.wrap64_in ((k : Int) + 1) ⟨by omega, by have := hl5.out; omega⟩
            clear L8 Sh8 g8 hgr hlc hcm
            go_wp2_with (first
              | (refine wpList_putA (g := g) (k := k) (q := -1) rfl _ _ rfl rfl rfl (by with_reducible exact hth.out) ?_))
            refine ⟨⟨k + 1, hkt, by first | rfl | (rw [wk2]; rfl), L9, Sh9, g9⟩, ?_⟩
            first
              | exact meas_lt hkt
              | (rw [wk2]; exact meas_lt hkt)
          · obtain rfl : k = ll := by omega
            obtain ⟨wB, rfl⟩ : ∃ wB, wB = wr := ⟨wr, rfl⟩
            have hmn := ite_min
            have wl5 := IntWalk.wrap64_in ((k : Int) + 5000) ⟨by omega, by have := hl5.out; omega⟩
            have hkc : Hid (k ≤ cl) := hide (lsA_le hLs.out)
            go_wp2_with fail
            try simp only [wl5]
            clear wl5
            go_loopw [16] (fun l wr => ∃ (m : Nat), m ≤ cl ∧ l = .slice al m cl ∧ Hid (Lc wr w1.heap.size (w2.heap.size + 1) (w3.heap.size + 1) (w4.heap.size + 1) w5.heap.size w6.heap.size n ks (rdR (.mk n ks)) (.slice (some ⟨bt, 0, none⟩) ks.length (ks.length + 1)) (.slice ay ly cy) (.slice am lm cm) bsT bsY w2.heap.size w4.heap.size) ∧ Hid (ShA wr al cl) ∧ Hid (Below v0.heap.size v0 wr)) (fun l _ => cl - lenOf l)
            case atStart => exact ⟨k, hkc.out, rfl, L8, Sh8, g8⟩
            case round =>
              clear L8 Sh8 g8
              obtain ⟨m, hmc, rfl, L8, Sh8, g8⟩ := hrel
              by_cases hmt : (m : Int) < min (cl : Int) ((k : Int) + 5000)
              · have hmc2 : m < cl := by omega
                rcases hLs.out with ⟨_, _, h0⟩ | ⟨g, rfl, hgr, hlc, hcm⟩
                · exfalso; omega
                obtain ⟨cur, hcur, hcs⟩ := Sh8.out g rfl
                have hown : Hid ((wr.alloc (.cells (arC ((-2, 0, 0, 0) : Ar)).toArray 47)).ownsRow 0 47 4 (.slice (some ⟨g, 0, none⟩) m cl) m (cur.toList.take (m * 4))) := hide ⟨by rw [List.length_take, Array.length_toList, hcs]; omega, .inr ⟨g, cl, cur, rfl, Nat.zero_le _, (Below.heap_alloc wr _ g (Array.getElem?_eq_some_iff.1 hcur).1).trans hcur, hmc, hcm, hcs, rfl⟩⟩
                have hrg := hide (range_ar wr ((-2, 0, 0, 0) : Ar))
                replace hgr := hide hgr
                clear hcur hcs
                go_wp2_with (first
                  | (refine Go.Great.wpList_buildSliceTo rfl 41 47 1 _ rfl wr.heap.size rfl _ rfl Try.underlying41 (arC ((-2, 0, 0, 0) : Ar)).toArray (by kernel_rfl) ?_)
                  | (at_builtin; refine wpList_fitA (g := g) (k := m) (cap := cl) (X := wr.heap.size) (x := ((-2, 0, 0, 0) : Ar)) rfl _ _ rfl rfl rfl hown.out hrg.out hmc2 ?_; intro w9 r1 r2; have L9 := hide ((L8.out.step (step (Below.refl _ _) _)).chg (Chg.of_grown (m := (· = g)) r2 (fun q e => by cases e; rfl)) (fun x e _ => .inr (by rw [e]; exact hgr.out))); have Sh9 : Hid (ShA w9 (some ⟨g, 0, none⟩) cl) := hide (fun b' e => by cases e; rcases r1.2 with ⟨e, _⟩ | ⟨g', cap', cur', e, _, h1, _, _, h2, _⟩; (cases e); (cases e; exact ⟨cur', h1, h2⟩)); have g9 : Hid (Below v0.heap.size v0 w9) := hide (below_chg (step g8.out _) (by have := g8.out.size; simp; omega) (Chg.of_grown (m := (· = g)) r2 (fun q e => by cases e; rfl)) (fun x e => by have := hs0.out; have := hgr.out; omega)); clear r1 r2))
                first
                  | exact ⟨⟨m + 1, hmc2, rfl, L9, Sh9, g9⟩, by show cl - (m + 1) < cl - m; omega⟩
              · obtain ⟨wC, rfl⟩ : ∃ wC, wC = wr := ⟨wr, rfl⟩
                have HMay := hide (fun v w' (g : Tree w' v (.mk n ks)) => may_any (.mk n ks) v w' g)
                have HSz := hide (fun v w' (g : Tree w' v (.mk n ks)) => size_any (.mk n ks) v w' g)
                have HSm := hide (fun v1 v2 w' (h1 : Tree w' v1 (.mk n ks)) (h2 : Tree w' v2 (.mk n ks)) => same_any (.mk n ks) (.mk n ks) v1 v2 w' h1 h2)
                have tb8 := hide L8.out.tb
                clear Sh8
                go_wp2_with (first
                  | (refine wpList_load_blk rfl 29 _ rfl _ rfl _ (by with_reducible exact tb8.out) _ Try.underlying29 rfl (exC_info _ _) ?_)
                  | (go_at_call 14; have t8 := L8.out.tree hsE.out; refine (HMay.out _ _ t8).mono ?_; rintro e wD ⟨rfl, hb⟩; have LD := hide (L8.out.step hb); have gD := hide (next g8.out hb); have tbD := hide LD.out.tb; clear hb t8 L8 g8 tb8)
                  | (refine wpList_load_blk rfl 29 _ rfl _ rfl _ (by with_reducible exact tbD.out) _ Try.underlying29 rfl (exC_info _ _) ?_)
                  | (go_at_call 15; have t8 := LD.out.tree hsE.out; refine (HSz.out _ _ t8).mono ?_; rintro e wE ⟨rfl, hb⟩; have LE := hide (LD.out.step hb); have gE := hide (next gD.out hb); have tbE := hide LE.out.tb; have ybE := hide LE.out.yb; clear hb t8 LD gD tbD)
                  | (refine wpList_load_blk rfl 29 _ rfl _ rfl _ (by with_reducible exact tbE.out) _ Try.underlying29 rfl (exC_info _ _) ?_)
                  | (refine wpList_load_blk rfl 29 _ rfl _ rfl _ (by with_reducible exact ybE.out) _ Try.underlying29 rfl (exC_info _ _) ?_)
                  | (go_at_call 16; have t8 := LE.out.tree hsE.out; have t9 := LE.out.ytree hsE.out; refine (HSm.out _ _ _ t8 t9).mono ?_; rintro e wF ⟨rfl, hb⟩; have LF := hide (LE.out.step hb); have gF := hide (next gE.out hb); have tbF := hide LF.out.tb; clear hb t8 t9 LE gE tbE ybE)
                  | (refine wpList_load_blk rfl 29 _ rfl _ rfl _ (by with_reducible exact tbF.out) _ Try.underlying29 rfl (exC_info _ _) ?_)
                  | (go_at_call 10; have t8 := LF.out.tree hsE.out; refine (HC.out _ _ t8).mono ?_; rintro e wG ⟨az, lz, cz, bsZ, rfl, hZ, hb⟩; have hsnZ := run_putnew wG n az lz cz; have LG := hide ((LF.out.step hb).step (step (Below.refl _ _) (exO n (.slice az lz cz)))); have gG := hide (step (next gF.out hb) (exO n (.slice az lz cz))); replace hZ := hide hZ; replace hb := hide hb; clear t8 tbF))
                have Mz := hide (mc_start (sz := .slice az lz cz) LF.out g1.out.size gF.out hZ.out hb.out)
                have bH := hide (next bw.out gG.out)
                have rin := hRin.out _ bH.out
                have HK := hide (kept_any (.mk n ks) (.mk n ks) (exV n (.slice (some ⟨bt, 0, none⟩) ks.length (ks.length + 1))) (exV n (.slice at1 lt1 ct1)) (wG.alloc (exO n (.slice az lz cz))).drew bsT (LG.out.t.move _ (fun x hx => rfl)) LG.out.tn LG.out.tlt hsE.out hn5.out (ht.out.step bH.out.drew) (sameE_selfF _))
                have hTr : Hid (∀ x ∈ bsT, v0.heap.size ≤ x ∧ x < w3.heap.size + 1) := hide (LG.out.tin g1.out.size)
                have tb9 := hide LG.out.tb
                replace rin := hide rin
                clear LG LF gF gG hb hZ hsnZ bH
                go_wp2_with fail
                refine reg29 p1 rin.out tb9.out HK.out ?_
                intro wK x136 x137 x138 x139 x140 x141 hcK
                have MK := hide (Mc.chg (Mz.out.step ((Below.refl _ _).drew)) hcK hTr.out)
                clear hcK rin tb9
                clear HK Mz hTr
                have bK := hide (next bw.out MK.out.low)
                have rin := hRin.out _ bK.out
                have hEz : ∀ d os, Calls Try.prog 12 #[lit14 n (.slice az lz cz), lit14 n (.slice at1 lt1 ct1)] (grow (redrawn wK d) os) fun e w'' => e = .returned (.bool true) ∧ ∃ p : Regrown, w'' = grow (redrawn wK p.d) p.os := fun d' os => by
                  have q := eq_any (.mk n ks) (.mk n ks) (exV n (.slice az lz cz)) (exV n (.slice at1 lt1 ct1)) (grow (redrawn wK d') os) ((MK.out.ztree hsE.out).step (below_regrown wK d' os)) (ht.out.step (next bK.out (below_regrown wK d' os)))
                  rw [sameE_selfF] at q
                  exact Calls.regrown_of q
                have hEy : ∀ d os, Calls Try.prog 12 #[lit14 n (.slice ay ly cy), lit14 n (.slice at1 lt1 ct1)] (grow (redrawn wK d) os) fun e w'' => e = .returned (.bool true) ∧ ∃ p : Regrown, w'' = grow (redrawn wK p.d) p.os := fun d' os => by
                  have q := eq_any (.mk n ks) (.mk n ks) (exV n (.slice ay ly cy)) (exV n (.slice at1 lt1 ct1)) (grow (redrawn wK d') os) ((MK.out.ytree hsE.out).step (below_regrown wK d' os)) (ht.out.step (next bK.out (below_regrown wK d' os)))
                  rw [sameE_selfF] at q
                  exact Calls.regrown_of q
                replace rin := hide rin
                replace hEz := hide hEz
                replace hEy := hide hEy
                have yb9 := hide MK.out.yb
                have zb9 := hide MK.out.zb
                go_wp2_with fail
                refine reg30 p1 rin.out yb9.out zb9.out hEz.out hEy.out ?_
                intro wL x142 x143 x144 x145 x146 x147 x148 x149 x150 x151 x152 x153 x154 x155 x156 x157 x158 x159 x160 x161 x162 x163 x164 hbz
                clear rin hEz hEy yb9 zb9
                have ML := hide (MK.out.step hbz)
                clear hbz MK bK
                have yb := hide ML.out.yb
                have zb := hide ML.out.zb
                have hln := hide (S.out.lens hTL.out hN2)
                have M0 := hide (ML.out.step (step (Below.refl _ _) (.cells (exC n (.slice ay ly cy) ++ exC n (.slice az lz cz)) 29)))
                have R3 := hide (S.out.row3 M0.out.low)
                have c3r := hide (two_cat wL n n (.slice ay ly cy) (.slice az lz cz))
                have hW0 : Hid (W.heap.size ≤ wL.heap.size + 1) := hide (size_up bw.out.size ML.out.low.size)
                go_wp2_with (first
                  | (refine wpList_load_blk rfl 29 _ rfl _ rfl _ (by with_reducible exact yb.out) _ Try.underlying29 rfl (exC_info _ _) ?_)
                  | (refine wpList_load_blk rfl 29 _ rfl _ rfl _ (by with_reducible exact zb.out) _ Try.underlying29 rfl (exC_info _ _) ?_)
                  | (refine Go.Great.wpList_buildSliceTo rfl 27 29 2 _ rfl wL.heap.size rfl _ rfl Try.underlying27 (exC n (.slice ay ly cy) ++ exC n (.slice az lz cz)) (by rw [Array.toList_map]; exact built2b _ _ _ _) ?_)
                  | (at_builtin; refine wpList_appX2 (v := .slice a3 l3 c3) (X := wL.heap.size) rfl _ _ rfl rfl rfl R3.out c3r.out hln.out.1 (by rw [size_alloc1]; exact hW0.out) ?_; intro v3' u1 r3 g3 o3))
                obtain ⟨a3', l3', c3', rfl⟩ := owns_shape9 r3
                replace r3 := hide r3
                replace g3 := hide g3
                replace o3 := hide o3
                obtain ⟨_, B4, _⟩ := S.out.row4 M0.out.low g3.out (Below.refl _ _)
                have rin := hRin.out _ B4
                have b2 := hide (step ((Below.refl u1.heap.size u1).drew) (.cells (lit28 n (.slice at1 lt1 ct1)) 29))
                obtain ⟨R4, _, K4⟩ := S.out.row4 M0.out.low g3.out b2.out
                have hW1 : Hid (W.heap.size ≤ u1.heap.size + 1) := hide (size_up B4.size (Nat.le_refl _))
                have HRR := hide (fun v w' (g : Tree w' v (.mk n ks)) => rreads_one n ks v w' g)
                replace rin := hide rin
                clear yb zb R3 c3r B4
                replace R4 := hide R4
                replace K4 := hide K4
                go_wp2_with fail
                obtain ⟨y0, y1, y2, y3, y4, y5, y6, y7, y8, y9, y10, y11, y12, y13⟩ := range14 rin.out
                clear rin
                have c4r := hide (two_lit u1.drew n (.slice at1 lt1 ct1))
                go_region_law (refine step_appX2 (v := .slice a4 l4 c4) (X := u1.heap.size) (by rfl) _ _ (by rfl) (by rfl) (by rfl) R4.out c4r.out hln.out.2.1 (Nat.le_trans hW1.out (Nat.le_of_eq (size_alloc1 u1 _).symm)) ?_; intro v4' u3 r4 g4 o4; obtain ⟨a4', l4', c4', rfl⟩ := owns_shape9 r4; obtain ⟨B5, K5⟩ := S.out.row5 K4.out g4; have R5 := hide (hRin.out _ B5); replace B5 := hide B5; replace K5 := hide K5; replace r4 := hide r4; replace g4 := hide g4; replace o4 := hide o4; clear y0 y1 y2 y3 y4 y5 y6 y7 y8 y9 y10 y11 y12 y13)
                all_goals
                  go_wp2_with (first
                    | (refine wpList_load_at rfl 29 _ rfl _ _ rfl _ _ (by with_reducible exact R5.out) Try.underlying29 rfl (exC_info _ _) ?_)
                    | (go_at_call 18; refine (HRR.out _ _ (ht.out.step B5.out)).mono ?_; rintro e u4 ⟨aw, lw, cw, rfl, hw, b4⟩; have b4' := hide (step (Below.refl u4.heap.size u4) (.cells #[.slice am lm cm] 41)); have K6 := hide ((K5.out.below b4).below b4'.out); have R6 := hide (S.out.row5' K6.out); have cc6 := hide (one_cat u4 (.slice am lm cm) 41); replace hw := hide hw; replace b4 := hide b4)
                    | (at_builtin; refine wpList_appS9 (v := .slice a5 l5 c5) (X := u4.heap.size) (sv := .slice am lm cm) rfl _ _ rfl rfl rfl R6.out.1 cc6.out rfl hln.out.2.2.1 R6.out.2 ?_; intro v5' u5 r5 g5 o5; obtain ⟨a5', l5', c5', rfl⟩ := owns_shape9 r5; have b6 := hide (step (Below.refl u5.heap.size u5) (.cells #[.slice aw lw cw] 41)); have K7 := hide ((K6.out.grown g5 S.out.lq).below b6.out); have R7 := hide (S.out.row6' K7.out); have cc7 := hide (one_cat u5 (.slice aw lw cw) 41); replace r5 := hide r5; replace g5 := hide g5; replace o5 := hide o5)
                    | (at_builtin; refine wpList_appS9 (v := .slice a6 l6 c6) (X := u5.heap.size) (sv := .slice aw lw cw) rfl _ _ rfl rfl rfl R7.out.1 cc7.out rfl hln.out.2.2.2 R7.out.2 ?_; intro v6' u7 r6 g6 o6; obtain ⟨a6', l6', c6', rfl⟩ := owns_shape9 r6; replace r6 := hide r6; replace g6 := hide g6; replace o6 := hide o6))
                  obtain ⟨cN, SN⟩ := S.out.four M0.out r3.out g3.out o3.out b2.out r4.out g4.out o4.out b4.out hw.out b4'.out r5.out g5.out o5.out b6.out r6.out g6.out o6.out hn5.out hsE.out ht.out (rdR_len hn5.out)
                  refine ⟨⟨N + 1, _, _, _, _, _, _, _, _, _, _, _, _, cN, _, _, _, _, _, _, hlt, h200, rfl, rfl, rfl, rfl, rfl, hide (lens_more hTL.out), hide SN⟩, ?_⟩
                  exact meas_lt hlt
    · by_cases hlt : N < len
      · have p1 := lt_cast hlt
        have p2 := nlt200 (fun h => hx ⟨hlt, h⟩)
        clear hx
        have En := hide S.out.ends
        have hl3 : Hid (l3 ≤ 400) := hide (S.out.ends3 hTL.out hN2)
        have hl5 : Hid (l5 ≤ 200) := hide (S.out.ends5 hTL.out hN2)
        have K0 := hide S.out.fin
        go_wp2_with fail
        go_loopw [27] (fun i wr => ∃ k : Nat, k ≤ l3 ∧ i = .int .i64 k ∧ Hid (FrK W wr c k (.slice a3 l3 c3) (.slice a4 l4 c4) (.slice a5 l5 c5) (.slice a6 l6 c6) kc wc ls sd T L)) (fun i _ => l3 - (intOf i).toNat)
        case atStart => exact ⟨0, Nat.zero_le _, rfl, K0⟩
        case round =>
          clear K0 S
          obtain ⟨k, hk3, rfl, K⟩ := hrel
          by_cases hkt : k < l3
          · obtain ⟨g3, g4, n, ks, ak, lk, ck, aw, lw, cw, bs, rfl, rfl, hk4, hc3, hc4, r3, r4, ho, hnd, hq, h5, hsE, hT, hbl, hg3, hg3n⟩ := K.out.get En.out hkt
            have p3 := lt_cast hkt
            have p4 := lt_cast hk4
            have wk2 := wrap_up hkt hl3.out (by decide)
            have hE : ∀ d os, Calls Try.prog 12 #[lit14 n (.slice ak lk ck), lit14 n (.slice aw lw cw)] (grow (redrawn wr d) os) fun e w'' => e = .returned (.bool true) ∧ ∃ p : Regrown, w'' = grow (redrawn wr p.d) p.os := fun d' os => by
              have q := eq_any (.mk n ks) (.mk n ks) (exV n (.slice ak lk ck)) (exV n (.slice aw lw cw)) (grow (redrawn wr d') os) ((ow_tree ho hbl hsE).step (below_regrown wr d' os)) (hT.step (next K.out.low (below_regrown wr d' os)))
              rw [sameE_selfF] at q
              exact Calls.regrown_of q
            have hR : Hid (∀ w', Below wr.heap.size wr w' → w'.rangeAt g3 (k * 14) (exC n (.slice ak lk ck)).toList) := hide (fun w' g => range_of_block r3 (g.block g3 hg3))
            have HSp := hide (fun w' (g : Below wr.heap.size wr w') => spoil_any (.mk n ks) (exV n (.slice ak lk ck)) w' bs (ho.move _ (fun x hx => g.block x (hbl x hx))) hnd h5)
            replace r3 := hide r3
            replace r4 := hide r4
            replace hE := hide hE
            replace hq := hide hq
            clear ho hT hbl hg3 hg3n hnd h5 hsE
            go_wp2_with fail
            refine reg40 p3 p4 r3.out r4.out hE.out ?_
            intro w7 x204 x205 x206 x207 x208 x209 x210 x211 x212 hbz
            clear r3 r4 hE
            have R7 := hide (hR.out _ hbz)
            have HS7 := hide (HSp.out _ hbz)
            have K7 := hide (K.out.below hbz)
            clear hR HSp K hbz
            go_wp2_with (first
              | (refine wpList_load_at rfl 29 _ rfl _ _ rfl _ _ (by with_reducible exact R7.out) Try.underlying29 rfl (exC_info _ _) ?_)
              | (go_at_call 13; refine HS7.out.mono ?_; rintro e w8 ⟨rfl, hc8⟩; have K8 := hide (K7.out.spoil hc8 hq.out); clear hc8))
            exact ⟨⟨k + 1, hkt, by rw [wk2]; rfl, K8⟩, by rw [wk2]; exact meas_lt hkt⟩
          · have p3 := nlt_cast hkt
            have F0 := hide K.out.fin
            obtain ⟨wb, rfl⟩ : ∃ wb, wb = wr := ⟨wr, rfl⟩
            clear K
            go_wp2_with fail
            go_loopw [28] (fun i wr => ∃ j : Nat, j ≤ l5 ∧ i = .int .i64 j ∧ Hid (FrL W wr c j (.slice a5 l5 c5) (.slice a6 l6 c6) ls sd L)) (fun i _ => l5 - (intOf i).toNat)
            case atStart => exact ⟨0, Nat.zero_le _, rfl, F0⟩
            case round =>
              clear F0
              obtain ⟨j, hj5, rfl, F⟩ := hrel
              by_cases hjt : j < l5
              · obtain ⟨g5, g6, M, am, lm, cm, aw, lw, cw, rfl, rfl, hj6, hc5, hc6, x5, x6, rm, hcol, hM5, rw', hls⟩ := F.out.get En.out hjt
                have q3 := lt_cast hjt
                have q4 := lt_cast hj6
                have wk2 := wrap_up hjt hl5.out (by decide)
                have hE : ∀ d os, Calls Try.prog 19 #[.slice am lm cm, .slice aw lw cw] (grow (redrawn wr d) os) fun e w'' => e = .returned (.bool true) ∧ ∃ p : Regrown, w'' = grow (redrawn wr p.d) p.os := fun d' os => by
                  have q := areas_any M M am aw lm lw cm cw (grow (redrawn wr d') os) ((rm.areas (Nat.le_trans hM5 (by decide))).1.keep (below_regrown wr d' os)) ((rw'.areas (Nat.le_trans hM5 (by decide))).1.keep (below_regrown wr d' os))
                  rw [decide_eq_true rfl] at q
                  exact Calls.regrown_of q
                obtain ⟨hLs, hSh, hll⟩ := rowA_shape rm (fun x hx => ⟨Nat.zero_le _, (owns_lt rm x hx).2⟩)
                have hl5' : Hid (lm ≤ 512) := hide (hll ▸ hM5)
                have u5 := cell_regrown x5
                have u6 := cell_regrown x6
                have D0 := hide F.out.drop
                replace hcol := hide hcol
                replace hLs := hide hLs
                replace hSh := hide hSh
                replace hls := hide hls
                clear x5 x6 rm rw' hM5 hll F
                go_wp2_with fail
                refine wp_region_quiet_below (by kernel_rfl) (by kernel_rfl) ?_
                repeat (go_big_quiet_step (with_reducible exact hE _ _))
                refine wpQuiet_nil ?_
                intro _ hw'
                obtain ⟨⟨dq, osq⟩, hw''⟩ := hw'
                subst hw''
                have hbz := below_regrown wr dq osq
                clear hE u5 u6
                obtain ⟨w7, hw7⟩ : ∃ w7, w7 = grow (redrawn wr dq) osq := ⟨_, rfl⟩
                rw [← hw7] at hbz
                simp only [← hw7]
                have D7 := hide (D0.out.below hbz)
                have Sh7 := hide (hSh.out.chg (m := fun _ => False) ⟨hbz.os, hbz.tape, hbz.output, hbz.size, fun x hx _ => hbz.block x hx⟩ (fun _ _ h => h))
                clear D0 hSh hw7 hbz
                go_wp2_with fail
                go_loopw [29] (fun i wr => ∃ m : Nat, m ≤ lm ∧ i = .int .i64 m ∧ Hid (FrL W wr c (j + 1) (.slice (some ⟨g5, 0, none⟩) l5 c5) (.slice (some ⟨g6, 0, none⟩) l6 c6) ls sd L) ∧ Hid (ShA wr am cm)) (fun i _ => lm - (intOf i).toNat)
                case atStart => exact ⟨0, Nat.zero_le _, rfl, D7, Sh7⟩
                case round =>
                  clear D7 Sh7
                  obtain ⟨m, hml, rfl, D, Sh⟩ := hrel
                  have x5 := D.out.cellAt hls.out
                  by_cases hmt : m < lm
                  · have q5 := lt_cast hmt
                    rcases hLs.out with ⟨_, h0, _⟩ | ⟨g, rfl, hgr, hlc, hcm⟩
                    · exact absurd hmt (by rw [h0]; exact Nat.not_lt_zero m)
                    have hth := hide (Sh.out.th (k := m) (Nat.lt_of_lt_of_le hmt hlc))
                    have Sh9 := hide (Sh.out.put (k := m) (q := -3))
                    have D9 := hide (D.out.put (k := m) (q := -3) (hcol.out g rfl))
                    have wk3 := wrap_up hmt hl5'.out (by decide)
                    clear D Sh hgr hlc hcm
                    go_wp2_with (first
                      | (refine wpList_putA (g := g) (k := m) (q := -3) rfl _ _ rfl rfl rfl (by with_reducible exact hth.out) ?_))
                    refine ⟨⟨m + 1, hmt, by first | rfl | (rw [wk3]; rfl), D9, Sh9⟩, ?_⟩
                    first
                      | exact meas_lt hmt
                      | (rw [wk3]; exact meas_lt hmt)
                  · have q5 := nlt_cast hmt
                    go_wp2_with fail
                    exact ⟨⟨j + 1, hjt, by rw [wk2]; rfl, D⟩, by rw [wk2]; exact meas_lt hjt⟩
              · have q3 := nlt_cast hjt
                go_wp2_with fail
                go_ret
                exact ⟨rfl, F.out.low⟩
      · have p1 := nlt_cast hlt
        clear hx
        have En := hide S.out.ends
        have hl3 : Hid (l3 ≤ 400) := hide (S.out.ends3 hTL.out hN2)
        have hl5 : Hid (l5 ≤ 200) := hide (S.out.ends5 hTL.out hN2)
        have K0 := hide S.out.fin
        go_wp2_with fail
        go_loopw [27] (fun i wr => ∃ k : Nat, k ≤ l3 ∧ i = .int .i64 k ∧ Hid (FrK W wr c k (.slice a3 l3 c3) (.slice a4 l4 c4) (.slice a5 l5 c5) (.slice a6 l6 c6) kc wc ls sd T L)) (fun i _ => l3 - (intOf i).toNat)
        case atStart => exact ⟨0, Nat.zero_le _, rfl, K0⟩
        case round =>
          clear K0 S
          obtain ⟨k, hk3, rfl, K⟩ := hrel
          by_cases hkt : k < l3
          · obtain ⟨g3, g4, n, ks, ak, lk, ck, aw, lw, cw, bs, rfl, rfl, hk4, hc3, hc4, r3, r4, ho, hnd, hq, h5, hsE, hT, hbl, hg3, hg3n⟩ := K.out.get En.out hkt
            have p3 := lt_cast hkt
            have p4 := lt_cast hk4
            have wk2 := wrap_up hkt hl3.out (by decide)
            have hE : ∀ d os, Calls Try.prog 12 #[lit14 n (.slice ak lk ck), lit14 n (.slice aw lw cw)] (grow (redrawn wr d) os) fun e w'' => e = .returned (.bool true) ∧ ∃ p : Regrown, w'' = grow (redrawn wr p.d) p.os := fun d' os => by
              have q := eq_any (.mk n ks) (.mk n ks) (exV n (.slice ak lk ck)) (exV n (.slice aw lw cw)) (grow (redrawn wr d') os) ((ow_tree ho hbl hsE).step (below_regrown wr d' os)) (hT.step (next K.out.low (below_regrown wr d' os)))
              rw [sameE_selfF] at q
              exact Calls.regrown_of q
            have hR : Hid (∀ w', Below wr.heap.size wr w' → w'.rangeAt g3 (k * 14) (exC n (.slice ak lk ck)).toList) := hide (fun w' g => range_of_block r3 (g.block g3 hg3))
            have HSp := hide (fun w' (g : Below wr.heap.size wr w') => spoil_any (.mk n ks) (exV n (.slice ak lk ck)) w' bs (ho.move _ (fun x hx => g.block x (hbl x hx))) hnd h5)
            replace r3 := hide r3
            replace r4 := hide r4
            replace hE := hide hE
            replace hq := hide hq
            clear ho hT hbl hg3 hg3n hnd h5 hsE
            go_wp2_with fail
            refine reg40 p3 p4 r3.out r4.out hE.out ?_
            intro w7 x204 x205 x206 x207 x208 x209 x210 x211 x212 hbz
            clear r3 r4 hE
            have R7 := hide (hR.out _ hbz)
            have HS7 := hide (HSp.out _ hbz)
            have K7 := hide (K.out.below hbz)
            clear hR HSp K hbz
            go_wp2_with (first
              | (refine wpList_load_at rfl 29 _ rfl _ _ rfl _ _ (by with_reducible exact R7.out) Try.underlying29 rfl (exC_info _ _) ?_)
              | (go_at_call 13; refine HS7.out.mono ?_; rintro e w8 ⟨rfl, hc8⟩; have K8 := hide (K7.out.spoil hc8 hq.out); clear hc8))
            exact ⟨⟨k + 1, hkt, by rw [wk2]; rfl, K8⟩, by rw [wk2]; exact meas_lt hkt⟩
          · have p3 := nlt_cast hkt
            have F0 := hide K.out.fin
            obtain ⟨wb, rfl⟩ : ∃ wb, wb = wr := ⟨wr, rfl⟩
            clear K
            go_wp2_with fail
            go_loopw [28] (fun i wr => ∃ j : Nat, j ≤ l5 ∧ i = .int .i64 j ∧ Hid (FrL W wr c j (.slice a5 l5 c5) (.slice a6 l6 c6) ls sd L)) (fun i _ => l5 - (intOf i).toNat)
            case atStart => exact ⟨0, Nat.zero_le _, rfl, F0⟩
            case round =>
              clear F0
              obtain ⟨j, hj5, rfl, F⟩ := hrel
              by_cases hjt : j < l5
              · obtain ⟨g5, g6, M, am, lm, cm, aw, lw, cw, rfl, rfl, hj6, hc5, hc6, x5, x6, rm, hcol, hM5, rw', hls⟩ := F.out.get En.out hjt
                have q3 := lt_cast hjt
                have q4 := lt_cast hj6
                have wk2 := wrap_up hjt hl5.out (by decide)
                have hE : ∀ d os, Calls Try.prog 19 #[.slice am lm cm, .slice aw lw cw] (grow (redrawn wr d) os) fun e w'' => e = .returned (.bool true) ∧ ∃ p : Regrown, w'' = grow (redrawn wr p.d) p.os := fun d' os => by
                  have q := areas_any M M am aw lm lw cm cw (grow (redrawn wr d') os) ((rm.areas (Nat.le_trans hM5 (by decide))).1.keep (below_regrown wr d' os)) ((rw'.areas (Nat.le_trans hM5 (by decide))).1.keep (below_regrown wr d' os))
                  rw [decide_eq_true rfl] at q
                  exact Calls.regrown_of q
                obtain ⟨hLs, hSh, hll⟩ := rowA_shape rm (fun x hx => ⟨Nat.zero_le _, (owns_lt rm x hx).2⟩)
                have hl5' : Hid (lm ≤ 512) := hide (hll ▸ hM5)
                have u5 := cell_regrown x5
                have u6 := cell_regrown x6
                have D0 := hide F.out.drop
                replace hcol := hide hcol
                replace hLs := hide hLs
                replace hSh := hide hSh
                replace hls := hide hls
                clear x5 x6 rm rw' hM5 hll F
                go_wp2_with fail
                refine wp_region_quiet_below (by kernel_rfl) (by kernel_rfl) ?_
                repeat (go_big_quiet_step (with_reducible exact hE _ _))
                refine wpQuiet_nil ?_
                intro _ hw'
                obtain ⟨⟨dq, osq⟩, hw''⟩ := hw'
                subst hw''
                have hbz := below_regrown wr dq osq
                clear hE u5 u6
                obtain ⟨w7, hw7⟩ : ∃ w7, w7 = grow (redrawn wr dq) osq := ⟨_, rfl⟩
                rw [← hw7] at hbz
                simp only [← hw7]
                have D7 := hide (D0.out.below hbz)
                have Sh7 := hide (hSh.out.chg (m := fun _ => False) ⟨hbz.os, hbz.tape, hbz.output, hbz.size, fun x hx _ => hbz.block x hx⟩ (fun _ _ h => h))
                clear D0 hSh hw7 hbz
                go_wp2_with fail
                go_loopw [29] (fun i wr => ∃ m : Nat, m ≤ lm ∧ i = .int .i64 m ∧ Hid (FrL W wr c (j + 1) (.slice (some ⟨g5, 0, none⟩) l5 c5) (.slice (some ⟨g6, 0, none⟩) l6 c6) ls sd L) ∧ Hid (ShA wr am cm)) (fun i _ => lm - (intOf i).toNat)
                case atStart => exact ⟨0, Nat.zero_le _, rfl, D7, Sh7⟩
                case round =>
                  clear D7 Sh7
                  obtain ⟨m, hml, rfl, D, Sh⟩ := hrel
                  have x5 := D.out.cellAt hls.out
                  by_cases hmt : m < lm
                  · have q5 := lt_cast hmt
                    rcases hLs.out with ⟨_, h0, _⟩ | ⟨g, rfl, hgr, hlc, hcm⟩
                    · exact absurd hmt (by rw [h0]; exact Nat.not_lt_zero m)
                    have hth := hide (Sh.out.th (k := m) (Nat.lt_of_lt_of_le hmt hlc))
                    have Sh9 := hide (Sh.out.put (k := m) (q := -3))
                    have D9 := hide (D.out.put (k := m) (q := -3) (hcol.out g rfl))
                    have wk3 := wrap_up hmt hl5'.out (by decide)
                    clear D Sh hgr hlc hcm
                    go_wp2_with (first
                      | (refine wpList_putA (g := g) (k := m) (q := -3) rfl _ _ rfl rfl rfl (by with_reducible exact hth.out) ?_))
                    refine ⟨⟨m + 1, hmt, by first | rfl | (rw [wk3]; rfl), D9, Sh9⟩, ?_⟩
                    first
                      | exact meas_lt hmt
                      | (rw [wk3]; exact meas_lt hmt)
                  · have q5 := nlt_cast hmt
                    go_wp2_with fail
                    exact ⟨⟨j + 1, hjt, by rw [wk2]; rfl, D⟩, by rw [wk2]; exact meas_lt hjt⟩
              · have q3 := nlt_cast hjt
                go_wp2_with fail
                go_ret
                exact ⟨rfl, F.out.low⟩
end Go.Proofs.Ytgopolelpckjcaa
