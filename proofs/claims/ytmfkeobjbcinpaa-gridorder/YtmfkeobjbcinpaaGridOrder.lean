/- GridOrder: what is set at some places is gone over in row order, each place once, with what was set there last; those of an area are just those that lie in it: the walk of the law. Proved of the Go text. -/
import Derived.Test.YtmfkeobjbcinpaaOrd7
namespace Go.Proofs.Ytmfkeobjbcinpaa
open Go.RowKit Go.Shelf Go.Sort Go.Maps
set_option linter.unusedVariables false
attribute [local go_sem] Oper.semAt_some wide_fn

theorem places_fn {W : World} {a : Option Addr} {len cap : Nat} (h : PlacesIn W a len cap) : ∃ (b0 off : Nat) (sp : Nat → Sp), (0 < len → a = some ⟨b0, off, none⟩) ∧ ∀ j, j < len → PlAt W b0 off j (sp j).1 (sp j).2 ∧ wfI (sp j).1 ∧ wfI (sp j).2 := by
  rcases h.2.2 with h | ⟨b, off, rfl, hc⟩
  · exact ⟨0, 0, fun _ => (0, 0), fun h' => by omega, fun j hj => by omega⟩
  · have H : ∀ j, ∃ s : Sp, j < len → PlAt W b off j s.1 s.2 ∧ wfI s.1 ∧ wfI s.2 := fun j => by
      by_cases hj : j < len
      · obtain ⟨r, c, h1⟩ := hc j hj
        exact ⟨(r, c), fun _ => h1⟩
      · exact ⟨(0, 0), fun h' => absurd h' hj⟩
    exact ⟨b, off, fun j => Classical.choose (H j), fun _ => rfl, fun j hj => Classical.choose_spec (H j) hj⟩

set_option maxHeartbeats 8000000 in
set_option maxRecDepth 100000 in
theorem gridOrder_walk {W : World} (a : Option Addr) (len cap : Nat) (hin : PlacesIn W a len cap) (t l bo r : Int) (hwf : wfI t ∧ wfI l ∧ wfI bo ∧ wfI r) : Calls Try.prog 4 #[.slice a len cap, areaV t l bo r] W fun e w' => e = .returned (.bool true) ∧ Below W.heap.size W w' := by
  obtain ⟨b0, off, sp, ha, hpl⟩ := places_fn hin
  obtain ⟨hlc, hcm, _⟩ := hin
  have hlen : len ≤ 9223372036854775807 := by unfold maxLen at hcm; omega
  replace hpl := hide hpl
  replace ha := hide ha
  replace hwf := hide hwf
  clear hcm
  refine (callsIn_wide (n := 12)).1 (callsIn_of_wp_marks Try.func4 rfl trivial (wpIn_wide.2 ?_) rfl)
  simp only [Try.ntmps4, List.size_toArray, List.length_cons, List.length_nil, Nat.reduceAdd, Nat.reduceSub, Array.replicate_succ, Array.replicate_zero, List.push_toArray, List.append_toArray, List.nil_append, List.cons_append]
  try simp only [List.append]
  have s0 := hide (((Blk.new W #[.slice a len cap] 28).alloc (areaO t l bo r)).alloc (.cells #[.bool false] 4))
  have r0 := hide ((Blk.new (W.alloc (.cells #[.slice a len cap] 28)) #[.int .i64 t, .int .i64 l, .int .i64 bo, .int .i64 r] 37).alloc (.cells #[.bool false] 4))
  have q0 := hide (Blk.new ((W.alloc (.cells #[.slice a len cap] 28)).alloc (areaO t l bo r)) #[.bool false] 4)
  have b0' := hide (step (step (step (Below.refl W.heap.size W) (.cells #[.slice a len cap] 28)) (areaO t l bo r)) (.cells #[.bool false] 4))
  simp only [World.size_alloc] at r0 q0
  go_wp2_with fail
  refine (begun_any _).mono ?_
  rintro e w1 ⟨rfl, hb1⟩
  have z1 := hb1.size
  simp only [World.size_alloc] at z1
  replace s0 := hide (s0.out.keep hb1)
  replace r0 := hide (r0.out.keep hb1)
  replace q0 := hide (q0.out.keep hb1)
  replace b0' := hide (next b0'.out hb1)
  clear hb1
  go_wp2_with fail
  refine (tnewI _).mono ?_
  rintro e w2 ⟨Bt, b, rfl, hBt, hb, T2, hb2⟩
  have z2 := T2.lt
  have z3 := T2.ne
  have O := hide (Oa.mk (W := W) (n := 0) (bn := w2.heap.size) ((s0.out.keep hb2).alloc (.cells #[.int .i64 0] 3)) ((r0.out.keep hb2).alloc _) ((q0.out.keep hb2).alloc _) (Blk.new w2 _ _) (T2.alloc _) (step (next b0'.out hb2) _) (by omega))
  clear hb2 T2 s0 r0 q0 b0' hBt hb z1 z2 z3
  have O0 := O.out.sp.c1
  go_wp2_with fail
  go_loopw [7] (fun i wr => ∃ (k n : Nat) (L : Tb Int), k ≤ len ∧ k ≤ 2000 ∧ i = .int .i64 k ∧ Hid (Oa W (.slice a len cap) t l bo r W.heap.size (W.heap.size + 1) (W.heap.size + 1 + 1) Bt b w2.heap.size n L wr) ∧ Hid (Fill sp k n L)) (fun i _ => len - (intOf i).toNat)
  case atStart => exact ⟨0, 0, [], Nat.zero_le _, by omega, rfl, O, hide (Fill.nil sp)⟩
  case round =>
    clear O O0
    obtain ⟨k, n, L, hk, hk2, rfl, O, FL⟩ := hrel
    have O0 := O.out.sp.c1
    by_cases hlt : (k : Int) < len
    · by_cases h2000 : (k : Int) < 2000
      · have hkn : k < len := by omega
        obtain rfl := ha.out (by omega)
        obtain ⟨hA, wr', wc'⟩ := hpl.out k hkn
        have hst := FL.out.step O.out.tb.may (by omega)
        replace hA := hA.keep O.out.bel
        generalize hs : sp k = s at hA wr' wc' hst
        obtain ⟨rr, cc⟩ := s
        obtain ⟨a0, a1⟩ := hA
        simp only at a0 a1
        have HS := hide (tsetI (r := rr) (c := cc) O.out.tb k)
        replace hst := hide hst
        go_wp2_with fail
        refine HS.out.mono ?_
        rintro e w3 ⟨rfl, T3, g3⟩
        have O3 := hide (O.out.setT T3 g3)
        clear T3 g3 O HS a0 a1 O0
        have n0 := O3.out.nn.c1
        have nf := O3.out.nn.fr 0
        rcases hst.out with ⟨e1, F1⟩ | ⟨e1, F1⟩
        · clear hst
          have O4 := hide (O3.out.setN (k + 1))
          replace F1 := hide F1
          rw [e1]
          go_wp2_with fail
          refine ⟨⟨k + 1, k + 1, _, by omega, by omega, by go_num, ?_, F1⟩, ?_⟩
          · exact O4
          · simp [intOf]; omega
        · clear hst
          replace F1 := hide F1
          go_wp2_with fail
          refine ⟨⟨k + 1, n, _, by omega, by omega, by go_num, O3, F1⟩, ?_⟩
          simp [intOf]; omega
      · have hn := FL.out.le
        have hnl : n ≤ len := by omega
        have hnc : n ≤ cap := by omega
        have hnc' : (n : Int) ≤ cap := by omega
        have n0 := O.out.nn.c1
        have f0 := O.out.sp.fr 0
        obtain ⟨w3, hw3⟩ : ∃ w3, wr.setCell ⟨W.heap.size, 0, none⟩ (.slice a n cap) = w3 := ⟨_, rfl⟩
        have O3 := hide (O.out.setS (.slice a n cap))
        rw [hw3] at O3
        have hL : Hid (L.length ≤ 2000) := hide (Nat.le_trans FL.out.len hk2)
        go_wp2_with fail
        clear O O0 n0 f0
        refine (place_any (-1) 0 _).mono ?_
        rintro e w4 ⟨rfl, hb4⟩
        replace O3 := hide (O3.out.keep hb4)
        clear hb4 hw3
        obtain ⟨w5, hw5⟩ : ∃ w5, ((w4.alloc (spotO (-1) 0)).alloc (.cells #[.int .i64 0] 3)).alloc (.cells #[.slice none 0 0] 28) = w5 := ⟨_, rfl⟩
        have P5 : Hid (∀ B, w4.heap.size + 2 < B → Ob w4.heap.size (w4.heap.size + 1) (w4.heap.size + 2) B (-1, 0) 0 [] w5) := hide (fun B hB => by
          rw [← hw5]
          refine ⟨((Blk.new w4 #[.int .i64 (-1), .int .i64 0] 35).alloc _).alloc _, ?_, ⟨.slice none 0 0, ?_, RowS.nil _ _⟩, by omega⟩
          · have := (Blk.new (w4.alloc (spotO (-1) 0)) #[.int .i64 0] 3).alloc (.cells #[.slice none 0 0] 28); simpa using this
          · have := Blk.new ((w4.alloc (spotO (-1) 0)).alloc (.cells #[.int .i64 0] 3)) #[.slice none 0 0] 28; simpa using this)
        have O5 := hide (((O3.out.alloc (spotO (-1) 0)).alloc (.cells #[.int .i64 0] 3)).alloc (.cells #[.slice none 0 0] 28))
        have z45 : Hid (w5.heap.size = w4.heap.size + 3 ∧ w2.heap.size < w4.heap.size) := hide ⟨by rw [← hw5]; simp, O3.out.lt⟩
        rw [hw5] at O5
        clear O3
        have HA := hide (allI_any O5.out.tb (by have := hL.out; omega))
        go_wp2_with fail
        clear hw5
        refine HA.out.mono ?_
        rintro e w6 ⟨v1, bs1, rfl, I1, hb6, n1⟩
        replace I1 := hide I1
        replace n1 := hide n1
        have O6 := hide (O5.out.keep hb6)
        have P6 := hide ((P5.out w6.heap.size (by have := hb6.size; have := z45.out; omega)).keep hb6)
        have z6 := hide hb6.size
        clear hb6 HA O5 P5
        obtain ⟨lb1, rfl⟩ := itI_func I1.out
        have G1 := hide (itI_at 11 (by decide) (by have := hL.out; omega) I1.out)
        go_wp2_with fail
        refine rangeIAB (n := 12) (by decide) 11 12 G1.out (Below.refl _ _) I1.out.1 rfl
          (fun pre W' => (Oa W (.slice a n cap) t l bo r W.heap.size (W.heap.size + 1) (W.heap.size + 1 + 1) Bt b w2.heap.size n L W' ∧ Ob w4.heap.size (w4.heap.size + 1) (w4.heap.size + 2) w6.heap.size (lastE pre) pre.length ((keysE pre).filter (hasA t l bo r)) W') ∧ SortE pre ∧ w6.heap.size ≤ W'.heap.size) (fun c pre W' => ¬ SortE pre)
          (fun pre X Y row ⟨⟨h1, h2⟩, h3, h4⟩ hg hr => ⟨⟨h1.own hg (by have := z6.out; have := z45.out; omega) hr, h2.own hg hr⟩, h3, Nat.le_trans h4 hg.size⟩) (fun c => ownFrom_pure _ _) ⟨⟨O6.out, P6.out⟩, List.Pairwise.nil, Nat.le_refl _⟩ (fun pre W h => h.2.2) ?assign ?body ?done ?stop
        case assign =>
          intro lo x W K hK
          gi_wp2
          exact hK
        case stop =>
          rintro D c k W hD hk h hK
          exact absurd (sortE_take O6.out.tb.sorted k) h
        case body =>
          rintro lo pre x X Bx hlo hr ⟨⟨o, p⟩, hso, hsz⟩ hBx bX hlt
          obtain ⟨i, ei, hin, hsp, hnx⟩ := FL.out.val x.1 x.2
          have hmx := o.tb.may x.1 x.2
          have hno := hide (fun h : ¬ ltS (lastE pre) x.1.1 => not_sortE (pre := pre) (x := x) (by have := may_wf hmx; unfold mayB at hmx; simp at hmx; omega) h)
          have hyes := hide (fun h : ltS (lastE pre) x.1.1 => sortE_snoc (pre := pre) (x := x) hso h)
          have hPl := hide ((hpl.out i (by omega)).1.keep o.bel)
          rw [hsp] at hPl
          have hks : Hid (keysE (pre ++ [x]) = keysE pre ++ [x.1.1]) := hide (by simp [keysE])
          have hls : Hid (lastE (pre ++ [x]) = x.1.1) := hide (lastE_snoc pre x)
          have hll : Hid ((pre ++ [x]).length = pre.length + 1) := hide (by simp)
          have hkl : Hid ((keysE pre).length ≤ 2000 ∧ pre.length ≤ 2000) := hide (by have := hL.out; simp [keysE]; omega)
          generalize hpx : pre ++ [x] = px at *
          generalize hla : lastE pre = la at *
          generalize hkk : keysE pre = ks at *
          generalize hpn : pre.length = pn at *
          obtain ⟨⟨⟨xr, xc⟩, xv⟩, hx⟩ := x
          obtain ⟨lr, lc⟩ := la
          simp only at ei hsp hnx hmx hno hyes hPl hks hls bX ⊢
          subst ei
          clear hpx hla hkk hpn hx hso hlt
          obtain rfl := ha.out (by omega)
          obtain ⟨s0, s1⟩ := bX.c2
          obtain ⟨l0, l1⟩ := p.la.c2
          have c0 := o.sp.c1
          have c1 := o.nn.c1
          have hin' : (i : Int) < n := by omega
          have hlt2 : (i : Int) + 1 ≤ 2000 := by omega
          have hpnb : (pn : Int) ≤ 2000 := by have := hkl.out.2; omega
          have hd0 : decide ((i : Int) < 0) = false := by simp
          have hd1 : decide ((n : Int) ≤ i) = false := by simp; omega
          have hd2 : decide (n ≤ i) = false := by simp; omega
          have hd3 : (!decide (i < n)) = false := by simp; omega
          have hd4 : (!decide ((i : Int) < n)) = false := by simp; omega
          have HAh := hide (ahead_any lr lc xr xc)
          replace o := hide o
          replace p := hide p
          replace bX := hide bX
          replace hsp := hide hsp
          replace hnx := hide hnx
          have sm0 := cell_regrown s0
          have sm1 := cell_regrown s1
          have lm0 := cell_regrown l0
          have lm1 := cell_regrown l1
          have cm0 := cell_regrown c0
          have cm1 := cell_regrown c1
          have pm0 := cell_regrown hPl.out.1
          have pm1 := cell_regrown hPl.out.2
          have k1 := fun d' os => CallsIn.regrown_of ((callsIn_wide (n := 9)).2 (HAh.out (grow (redrawn X d') os)))
          clear HAh
          by_cases hq : ltS (lr, lc) (xr, xc)
          · rw [decide_eq_true hq] at k1
            gi_wp2_with fail
            refine region_quietR lo (F := Fence.wide) rfl (by kernel_rfl) (by kernel_rfl) (by kernel_rfl) ?_
            repeat (gi_big_quiet_step (with_reducible exact k1 _ _))
            refine wpQuietIn_nil ?_
            intro _ hw'
            obtain ⟨⟨dq, osq⟩, hw''⟩ := hw'
            subst hw''
            have hbq := below_regrown X dq osq
            obtain ⟨X1, hX1⟩ : ∃ X1, grow (redrawn X dq) osq = X1 := ⟨_, rfl⟩
            rw [hX1] at hbq ⊢
            have D1 := hide (Bd.mk (o.out.keep hbq) (p.out.keep hbq) (KeepsFrom.keep (B := w6.heap.size) hbq) (KS.of_below (bs := bs1) hbq) (Nat.le_trans hsz hbq.size) ⟨z45.out.2, fun k hk => ⟨by have := n1.out k hk; have := z45.out; omega, I1.out.1 k hk⟩⟩)
            have bX1 := hide (bX.out.keep hbq)
            clear hX1 hbq sm0 sm1 lm0 lm1 cm0 cm1 pm0 pm1 s0 s1 l0 l1 c0 c1 k1 o p bX hPl hno
            gi_wp2_with fail
            gi_loopw [13] (fun v wr => ∃ j : Nat, i + 1 ≤ j ∧ j ≤ n ∧ v = .int .i64 j ∧ Hid (Below X1.heap.size X1 wr)) (fun v _ => n - (intOf v).toNat)
            case atStart => exact ⟨i + 1, Nat.le_refl _, hin, by go_num, hide (Below.refl _ _)⟩
            case round =>
              obtain ⟨j, hj1, hj2, rfl, hbj⟩ := hrel
              have Dj := hide (D1.out.keep hbj.out)
              have bj := hide (bX1.out.keep hbj.out)
              have c1 := Dj.out.o.nn.c1
              obtain ⟨s0, s1⟩ := bj.out.c2
              by_cases hjn : (j : Int) < n
              · have hPj := (hpl.out j (by omega)).1.keep Dj.out.o.bel
                have hne := hnx.out j (by omega) (by omega)
                generalize sp j = sj at hPj hne
                obtain ⟨rj, cj⟩ := sj
                obtain ⟨q0, q1⟩ := hPj
                simp only at q0 q1
                have c0 := Dj.out.o.sp.c1
                have sm0 := cell_regrown s0
                have sm1 := cell_regrown s1
                have cm0 := cell_regrown c0
                have qm0 := cell_regrown q0
                have qm1 := cell_regrown q1
                by_cases hrj : rj = xr
                · have hcj : ¬ cj = xc := fun e => hne (by rw [hrj, e])
                  clear hne
                  gi_wp2_with fail
                  refine region_quietR lo (F := Fence.wide) rfl (by kernel_rfl) (by kernel_rfl) (by kernel_rfl) ?_
                  repeat (gi_big_quiet_step (fail))
                  refine wpQuietIn_nil ?_
                  intro _ hw'
                  obtain ⟨⟨dq2, osq2⟩, hw''⟩ := hw'
                  subst hw''
                  have hbq := hide (next hbj.out (below_regrown wr dq2 osq2))
                  obtain ⟨X2, hX2⟩ : ∃ X2, grow (redrawn wr dq2) osq2 = X2 := ⟨_, rfl⟩
                  rw [hX2] at hbq ⊢
                  clear hX2 sm0 sm1 cm0 qm0 qm1 c0 c1 s0 s1 q0 q1
                  gi_wp2_with fail
                  refine ⟨⟨j + 1, by omega, by omega, by go_num, hbq⟩, ?_⟩
                  simp [intOf]; omega
                · clear hne
                  gi_wp2_with fail
                  refine region_quietR lo (F := Fence.wide) rfl (by kernel_rfl) (by kernel_rfl) (by kernel_rfl) ?_
                  repeat (gi_big_quiet_step (fail))
                  refine wpQuietIn_nil ?_
                  intro _ hw'
                  obtain ⟨⟨dq2, osq2⟩, hw''⟩ := hw'
                  subst hw''
                  have hbq := hide (next hbj.out (below_regrown wr dq2 osq2))
                  obtain ⟨X2, hX2⟩ : ∃ X2, grow (redrawn wr dq2) osq2 = X2 := ⟨_, rfl⟩
                  rw [hX2] at hbq ⊢
                  clear hX2 sm0 sm1 cm0 qm0 qm1 c0 c1 s0 s1 q0 q1
                  gi_wp2_with fail
                  refine ⟨⟨j + 1, by omega, by omega, by go_num, hbq⟩, ?_⟩
                  simp [intOf]; omega
              · obtain ⟨l0, l1⟩ := Dj.out.p.la.c2
                have lf0 := Dj.out.p.la.fr 0
                have lf1 := Dj.out.p.la.fr 1
                obtain ⟨w7, hw7⟩ : ∃ w7, (wr.setCell ⟨w4.heap.size, 0, none⟩ (.int .i64 xr)).setCell ⟨w4.heap.size, 1, none⟩ (.int .i64 xc) = w7 := ⟨_, rfl⟩
                have D7 := hide (Dj.out.setL (xr, xc))
                have b7 := hide ((bj.out.kept (grown_setAt wr w4.heap.size 0 (.int .i64 xr)) (by simp; have := z6.out; have := z45.out; omega)).kept (grown_setAt _ w4.heap.size 1 (.int .i64 xc)) (by simp; have := z6.out; have := z45.out; omega))
                rw [hw7] at D7 b7
                have m0 := D7.out.p.ma.c1
                have mf := D7.out.p.ma.fr 0
                obtain ⟨w8, hw8⟩ : ∃ w8, w7.setCell ⟨w4.heap.size + 1, 0, none⟩ (.int .i64 ((pn + 1 : Nat) : Int)) = w8 := ⟨_, rfl⟩
                have D8 := hide (D7.out.setM (pn + 1))
                have b8 := hide (b7.out.kept (grown_setAt w7 (w4.heap.size + 1) 0 (.int .i64 ((pn + 1 : Nat) : Int))) (by simp; have := z6.out; have := z45.out; omega))
                rw [hw8] at D8 b8
                obtain ⟨t0, t1, t2, t3⟩ := D8.out.o.ar.c4
                obtain ⟨u0, u1⟩ := b8.out.c2
                have hc8 : ((pn + 1 : Nat) : Int) = (pn : Int) + 1 := by omega
                rw [hc8] at hw8
                gi_wp2_with fail
                clear l0 l1 lf0 lf1 m0 mf t0 t1 t2 t3 u0 u1 hw7 hw8 c1 s0 s1
                refine (CallsIn.inRound lo (callsIn_wide.2 (rhas_any t l bo r xr xc w8))).mono ?_
                rintro e w9 ⟨rfl, hb9⟩
                have D9 := hide (D8.out.keep hb9)
                have b9 := hide (b8.out.keep hb9)
                clear hb9 D8 b8 D7 b7 Dj bj D1 bX1
                have hso := hide (hyes.out hq)
                cases hh : hasB t l bo r xr xc
                · have hf : Hid ((keysE px).filter (hasA t l bo r) = ks.filter (hasA t l bo r)) := hide (by rw [hks.out, List.filter_append, List.filter_cons_of_neg (by show ¬ hasB t l bo r xr xc = true; rw [hh]; simp)]; simp)
                  gi_wp2_with fail
                  refine ⟨D9.out.kf, D9.out.kk, ⟨⟨D9.out.o, ?_⟩, hso.out, D9.out.z⟩⟩
                  rw [hls.out, hll.out, hf.out]
                  exact D9.out.p
                · have hf : Hid ((keysE px).filter (hasA t l bo r) = ks.filter (hasA t l bo r) ++ [(xr, xc)]) := hide (by rw [hks.out, List.filter_append, List.filter_cons_of_pos (by show hasB t l bo r xr xc = true; exact hh)]; simp)
                  obtain ⟨v9, bv9, row9⟩ := D9.out.p.inn
                  obtain ⟨av, cv, rfl⟩ := row_slice row9
                  have c9 := bv9.c1
                  have f9 := bv9.fr 0
                  obtain ⟨u0, u1⟩ := b9.out.c2
                  have hfl : Hid ((ks.filter (hasA t l bo r)).length < 1000000) := hide (Nat.lt_of_le_of_lt (List.length_filter_le _ _) (by have := hkl.out.1; omega))
                  have hns := D9.out.z
                  have DA := hide (D9.out.keep (w' := w9.alloc (spotO xr xc)) (step (Below.refl _ _) _))
                  have bvA := hide (bv9.alloc (spotO xr xc))
                  have rowA := hide (row9.alloc (spotO xr xc))
                  generalize ks.filter (hasA t l bo r) = Kf at *
                  clear hh D9 b9 bv9 row9
                  gi_wp2_with (first
                    | (gi_at_builtin; refine wpListIn_appS rfl _ _ rfl rfl rfl rowA.out (C2.new w9 _ _ _) hfl.out (Nat.le_trans hns (by simp)) ?_; intro v' wb hrowb hgb hloc; obtain ⟨ab, kb, rfl⟩ : ∃ a c, v' = .slice a (Kf.length + 1) c := (by have h := row_slice hrowb; rwa [List.length_append] at h); have bvb := bvA.out.kept hgb (fun e => by have := (rowA.out.lt _ e.symm).1; have := DA.out.p.sep; omega); have cb := bvb.c1; have fb := bvb.fr 0; replace hrowb := hide hrowb; replace hgb := hide hgb)
                    | gi_in)
                  have DB := DA.out.app bvA.out rowA.out hrowb.out hgb.out
                  refine ⟨DB.kf, DB.kk, ⟨⟨DB.o, ?_⟩, hso.out, DB.z⟩⟩
                  rw [hls.out, hll.out, hf.out]
                  exact DB.p
          · rw [decide_eq_false hq] at k1
            have nso := hide (hno.out hq)
            clear hno hyes hq
            gi_wp2_with fail
            refine region_quietR lo (F := Fence.wide) rfl (by kernel_rfl) (by kernel_rfl) (by kernel_rfl) ?_
            repeat (gi_big_quiet_step (with_reducible exact k1 _ _))
            refine wpQuietIn_nil ?_
            intro _ hw'
            obtain ⟨⟨dq, osq⟩, hw''⟩ := hw'
            subst hw''
            have hbq := below_regrown X dq osq
            obtain ⟨X1, hX1⟩ : ∃ X1, grow (redrawn X dq) osq = X1 := ⟨_, rfl⟩
            rw [hX1] at hbq ⊢
            have o1 := hide (o.out.keep hbq)
            have KF := hide (KeepsFrom.keep (B := w6.heap.size) hbq)
            have rc := o1.out.rs.c1
            have rf := o1.out.rs.fr 0
            clear hX1 hbq sm0 sm1 lm0 lm1 cm0 cm1 pm0 pm1 s0 s1 l0 l1 c0 c1 k1 o p bX hPl
            gi_wp2_with fail
            exact ⟨KF.out.trans ((KeepsOthers.setCell _ _ _).from _), nso.out⟩
        case done =>
          rintro D1 W1 hD1 ⟨⟨o, p⟩, _, hsz⟩ hK1
          rw [List.length_attach] at p
          have hkE : (keysE L.attach).filter (hasA t l bo r) = keysT (L.filter fun p => hasA t l bo r p.1) := by
            unfold keysE keysT
            rw [show L.attach.map (fun x => x.1.1) = (L.attach.map Subtype.val).map (·.1) by rw [List.map_map]; rfl, List.attach_map_subtype_val, List.filter_map]
            rfl
          rw [hkE] at p
          generalize lastE L.attach = la at p
          replace o := hide o
          replace p := hide p
          replace hK1 := hide hK1
          have zD1 := hide (show w4.heap.size + 2 < D1 ∧ D1 < W1.heap.size from ⟨by have := z6.out; have := z45.out; omega, (Array.getElem?_eq_some_iff.1 hK1.out).1⟩)
          clear hkE hD1 hsz O6 P6 I1 G1
          go_wp2_with fail
          go_loopw [14] (fun v wr => ∃ j : Nat, j ≤ n ∧ v = .int .i64 j ∧ Hid (Below W1.heap.size W1 wr)) (fun v _ => n - (intOf v).toNat)
          case atStart => exact ⟨0, Nat.zero_le _, rfl, hide (Below.refl _ _)⟩
          case round =>
            obtain ⟨j, hj, rfl, hbj⟩ := hrel
            have oj := hide (o.out.keep hbj.out)
            have c1 := oj.out.nn.c1
            by_cases hjn : (j : Int) < n
            · have hPj := (hpl.out j (by omega)).1.keep oj.out.bel
              obtain ⟨_, wj1, wj2⟩ := hpl.out j (by omega)
              have hhas := FL.out.has j (by omega)
              generalize sp j = sj at hPj wj1 wj2 hhas
              obtain ⟨rj, cj⟩ := sj
              simp only at hPj wj1 wj2 hhas
              have HG := hide (tgetI (r := rj) (c := cj) oj.out.tb wj1 wj2)
              rw [hhas] at HG
              have q0 := hPj.1
              have q1 := hPj.2
              have c0 := oj.out.sp.c1
              obtain rfl := ha.out (by omega)
              by_cases g1 : 0 ≤ rj
              · by_cases g2 : rj < 65536
                · by_cases g3 : 0 ≤ cj
                  · by_cases g4 : cj < 702
                    · have hmb : mayB rj cj = true := by unfold mayB; simp; omega
                      rw [hmb] at HG
                      clear hmb hhas
                      go_wp2_with fail
                      refine HG.out.mono ?_
                      rintro e w7 ⟨rfl, hb7⟩
                      have h7 := hide (next hbj.out hb7)
                      have o7 := hide (oj.out.keep hb7)
                      have q7 := hPj.keep hb7
                      clear HG hb7 hbj oj c0 c1 q0 q1
                      obtain ⟨q0, q1⟩ := q7
                      have c0 := o7.out.sp.c1
                      go_wp2_with fail
                      refine ⟨⟨j + 1, by omega, by go_num, h7⟩, ?_⟩
                      simp [intOf]; omega
                    · have hmb : mayB rj cj = false := by unfold mayB; simp; omega
                      rw [hmb] at HG
                      clear hmb hhas
                      go_wp2_with fail
                      refine HG.out.mono ?_
                      rintro e w7 ⟨rfl, hb7⟩
                      have h7 := hide (next hbj.out hb7)
                      have o7 := hide (oj.out.keep hb7)
                      have q7 := hPj.keep hb7
                      clear HG hb7 hbj oj c0 c1 q0 q1
                      obtain ⟨q0, q1⟩ := q7
                      have c0 := o7.out.sp.c1
                      go_wp2_with fail
                      refine ⟨⟨j + 1, by omega, by go_num, h7⟩, ?_⟩
                      simp [intOf]; omega
                  · have hmb : mayB rj cj = false := by unfold mayB; simp; omega
                    rw [hmb] at HG
                    clear hmb hhas
                    go_wp2_with fail
                    refine HG.out.mono ?_
                    rintro e w7 ⟨rfl, hb7⟩
                    have h7 := hide (next hbj.out hb7)
                    have o7 := hide (oj.out.keep hb7)
                    have q7 := hPj.keep hb7
                    clear HG hb7 hbj oj c0 c1 q0 q1
                    obtain ⟨q0, q1⟩ := q7
                    have c0 := o7.out.sp.c1
                    go_wp2_with fail
                    refine ⟨⟨j + 1, by omega, by go_num, h7⟩, ?_⟩
                    simp [intOf]; omega
                · have hmb : mayB rj cj = false := by unfold mayB; simp; omega
                  rw [hmb] at HG
                  clear hmb hhas
                  go_wp2_with fail
                  refine HG.out.mono ?_
                  rintro e w7 ⟨rfl, hb7⟩
                  have h7 := hide (next hbj.out hb7)
                  have o7 := hide (oj.out.keep hb7)
                  have q7 := hPj.keep hb7
                  clear HG hb7 hbj oj c0 c1 q0 q1
                  obtain ⟨q0, q1⟩ := q7
                  have c0 := o7.out.sp.c1
                  go_wp2_with fail
                  refine ⟨⟨j + 1, by omega, by go_num, h7⟩, ?_⟩
                  simp [intOf]; omega
              · have hmb : mayB rj cj = false := by unfold mayB; simp; omega
                rw [hmb] at HG
                clear hmb hhas
                go_wp2_with fail
                refine HG.out.mono ?_
                rintro e w7 ⟨rfl, hb7⟩
                have h7 := hide (next hbj.out hb7)
                have o7 := hide (oj.out.keep hb7)
                have q7 := hPj.keep hb7
                clear HG hb7 hbj oj c0 c1 q0 q1
                obtain ⟨q0, q1⟩ := q7
                have c0 := o7.out.sp.c1
                go_wp2_with fail
                refine ⟨⟨j + 1, by omega, by go_num, h7⟩, ?_⟩
                simp [intOf]; omega
            · have pj := hide (p.out.keep hbj.out)
              have K1 := hide (obj_keep hK1.out hbj.out)
              have zr : Hid (D1 < wr.heap.size ∧ w4.heap.size + 2 < D1 ∧ w2.heap.size < w4.heap.size) := hide (by have := zD1.out; have := hbj.out.size; have := z45.out; omega)
              obtain ⟨v0, bv, row⟩ := pj.out.inn
              obtain ⟨av, cv, bsr, rfl, SI, hbsr⟩ := row_spots row
              have mj := hide pj.out.ma
              replace bv := hide bv
              replace SI := hide SI
              replace hbsr : Hid (∀ k ∈ bsr, k < wr.heap.size) := hide (fun k hk => (hbsr k hk).2.1)
              have oK := hide (oj.out.alloc (.cells #[.int .i64 0] 3))
              have bk0 := hide (Blk.new wr #[.int .i64 0] 3)
              have bK := hide (step (Below.refl wr.heap.size wr) (.cells #[.int .i64 0] 3))
              obtain ⟨t0, t1, t2, t3⟩ := oK.out.ar.c4
              have HO := hide (overI_any oK.out.tb (by have := hL.out; omega) t l bo r hwf.out)
              clear row pj p o hK1 oj hbj
              go_wp2_with fail
              refine HO.out.mono ?_
              rintro e w9 ⟨v2, bs2, rfl, I2, hb9, n2⟩
              replace I2 := hide I2
              replace n2 := hide n2
              have o9 := hide (oK.out.keep hb9)
              have bk9 := hide (bk0.out.keep hb9)
              have b9 := hide (next bK.out hb9)
              have z9 := hb9.size
              simp only [World.size_alloc] at z9 n2
              clear hb9 HO oK bk0 bK t0 t1 t2 t3 c1
              have hM2 : Hid ((L.filter fun p => hasA t l bo r p.1).length ≤ 2000) := hide (Nat.le_trans (List.length_filter_le _ _) hL.out)
              have sM2 : Hid (SortT (L.filter fun p => hasA t l bo r p.1)) := hide (List.Pairwise.filter _ o9.out.tb.sorted)
              generalize hM : (L.filter fun p => hasA t l bo r p.1) = M2 at *
              have hKl : Hid ((keysT M2).length = M2.length) := hide (by simp [keysT])
              obtain ⟨lb2, rfl⟩ := itI_func I2.out
              have G2 := hide (itI_at 11 (by decide) (by have := hM2.out; omega) I2.out)
              go_wp2_with fail
              refine rangeIA (n := 12) (by decide) 18 G2.out (Below.refl _ _) I2.out.1 rfl
                (fun pre W' => (w9.grownBy W' (some wr.heap.size) ∧ Blk W' wr.heap.size #[.int .i64 pre.length] 3) ∧ pre = M2.attach.take pre.length) (fun c pre W' => ¬ ∃ k, pre = M2.attach.take k)
                (OwnFrom.and (OwnFrom.and (ownFrom_grown w9 _) (Own.from (Blk.own _ _ _) _)) (ownFrom_pure _ _)) (fun c => ownFrom_pure _ _) ⟨⟨grown_refl _ _, bk9.out⟩, rfl⟩ (fun pre W h => h.1.1.size) ?assign ?body ?done ?stop
              case assign =>
                intro lo x W K hK
                gi_wp2
                exact hK
              case stop =>
                rintro D c k W hD hk h hK
                exact absurd ⟨k, rfl⟩ h
              case body =>
                rintro lo pre x X Bx hlo hr ⟨⟨hg, bk⟩, hpre⟩ hBx bX hlt
                have hpn : Hid ((pre ++ [x]).length = pre.length + 1) := hide (by simp)
                have hyes := hide (fun h : x.1.1 = (M2[pre.length]).1 => take_snoc hpre hlt (sort_same sM2.out hlt h))
                have hno := hide (fun h : x.1.1 ≠ (M2[pre.length]).1 => not_front hlt h)
                have zr' := zr.out
                have oX := hide (o9.out.kept hg (fun k e => by cases e; omega))
                have c0 := bk.c1
                have bvX := (bv.out.keep b9.out).kept hg (by simp; omega)
                have hlK : pre.length < (keysT M2).length := by rw [hKl.out]; exact hlt
                have hgk : (keysT M2)[pre.length] = (M2[pre.length]).1 := by simp [keysT]
                obtain ⟨g, rfl, hgb, hsp⟩ : ∃ g, av = some ⟨g, 0, none⟩ ∧ g ∈ bsr ∧ ∀ j (h : j < (keysT M2).length), SpotAt wr g j (keysT M2)[j] := by
                  rcases SI.out with h | h
                  · rw [h] at hlK; simp at hlK
                  · exact h
                have hs1 := ((hsp pre.length hlK).keep b9.out).same (hg.block g (by have := hbsr.out g hgb; have := b9.out.size; omega) (by have := hbsr.out g hgb; simp; omega))
                rw [hgk] at hs1
                rw [hKl.out] at bvX
                clear hlK hgk hsp
                generalize hy : (M2[pre.length]).1 = y at *
                have hlt' : (pre.length : Int) < M2.length := by omega
                have hle' : ¬ (M2.length : Int) ≤ pre.length := by omega
                have hb2 : (pre.length : Int) ≤ 2000 := by have := hM2.out; omega
                generalize hpx : pre ++ [x] = px at *
                generalize pre.length = pn at *
                obtain ⟨⟨⟨xr, xc⟩, xv⟩, hx⟩ := x
                obtain ⟨yr, yc⟩ := y
                obtain ⟨q0, q1⟩ := hs1
                simp only at hyes hno bX q0 q1 ⊢
                have hd1 : decide ((M2.length : Int) ≤ pn) = false := by simp; omega
                have hd2 : decide (M2.length ≤ pn) = false := by simp; omega
                have hd3 : (!decide (pn < M2.length)) = false := by simp; omega
                have hd4 : (!decide ((pn : Int) < M2.length)) = false := by simp; omega
                obtain ⟨s0, s1⟩ := bX.c2
                have c1 := bvX.c1
                have sm0 := cell_regrown s0
                have sm1 := cell_regrown s1
                have cm0 := cell_regrown c0
                have cm1 := cell_regrown c1
                have qm0 := cell_regrown q0
                have qm1 := cell_regrown q1
                replace hg := hide hg
                replace bk := hide bk
                clear hpx hpre hx hy bX bvX hr zr'
                by_cases h1 : yr = xr
                · by_cases h2 : yc = xc
                  · have yes := hide (hyes.out (by rw [h1, h2]))
                    clear hno hyes
                    subst h1 h2
                    gi_wp2_with fail
                    refine region_quietR lo (F := Fence.wide) rfl (by kernel_rfl) (by kernel_rfl) (by kernel_rfl) ?_
                    repeat (gi_big_quiet_step (fail))
                    refine wpQuietIn_nil ?_
                    intro _ hw'
                    obtain ⟨⟨dq, osq⟩, hw''⟩ := hw'
                    subst hw''
                    have hbq := hide (below_regrown X dq osq)
                    obtain ⟨X1, hX1⟩ : ∃ X1, grow (redrawn X dq) osq = X1 := ⟨_, rfl⟩
                    rw [hX1] at hbq ⊢
                    clear hX1 sm0 sm1 cm0 cm1 qm0 qm1 c0 c1 s0 s1 q0 q1
                    have bk1 := hide (bk.out.keep hbq.out)
                    have g1 := hide (grown_keep hg.out hbq.out)
                    have k0 := bk1.out.c1
                    have kf := bk1.out.fr 0
                    gi_wp2_with fail
                    refine ⟨(KeepsFrom.keep (B := w9.heap.size) hbq.out).trans ((KeepsOthers.setCell _ _ _).from _), KS_t (KS.of_below hbq.out) (KS.of_grown (grownBy_setCell' X1 _ _) (fun k hk e => by have := n2.out k hk; cases e; omega)), ⟨⟨grown_set g1.out _, ?_⟩, yes.out⟩⟩
                    rw [hpn.out]
                    exact bk1.out.set _
                  · have nfr := hide (hno.out (fun e => h2 (by have := congrArg Prod.snd e; simpa using this.symm)))
                    clear hno hyes
                    gi_wp2_with fail
                    refine region_quietR lo (F := Fence.wide) rfl (by kernel_rfl) (by kernel_rfl) (by kernel_rfl) ?_
                    repeat (gi_big_quiet_step (fail))
                    refine wpQuietIn_nil ?_
                    intro _ hw'
                    obtain ⟨⟨dq, osq⟩, hw''⟩ := hw'
                    subst hw''
                    have hbq := hide (below_regrown X dq osq)
                    obtain ⟨X1, hX1⟩ : ∃ X1, grow (redrawn X dq) osq = X1 := ⟨_, rfl⟩
                    rw [hX1] at hbq ⊢
                    clear hX1 sm0 sm1 cm0 cm1 qm0 qm1 c0 c1 s0 s1 q0 q1
                    have o1 := hide (oX.out.keep hbq.out)
                    have rc := o1.out.rs.c1
                    have rf := o1.out.rs.fr 0
                    gi_wp2_with fail
                    exact ⟨(KeepsFrom.keep (B := w9.heap.size) hbq.out).trans ((KeepsOthers.setCell _ _ _).from _), nfr.out⟩
                · have nfr := hide (hno.out (fun e => h1 (by have := congrArg Prod.fst e; simpa using this.symm)))
                  clear hno hyes
                  gi_wp2_with fail
                  refine region_quietR lo (F := Fence.wide) rfl (by kernel_rfl) (by kernel_rfl) (by kernel_rfl) ?_
                  repeat (gi_big_quiet_step (fail))
                  refine wpQuietIn_nil ?_
                  intro _ hw'
                  obtain ⟨⟨dq, osq⟩, hw''⟩ := hw'
                  subst hw''
                  have hbq := hide (below_regrown X dq osq)
                  obtain ⟨X1, hX1⟩ : ∃ X1, grow (redrawn X dq) osq = X1 := ⟨_, rfl⟩
                  rw [hX1] at hbq ⊢
                  clear hX1 sm0 sm1 cm0 cm1 qm0 qm1 c0 c1 s0 s1 q0 q1
                  have o1 := hide (oX.out.keep hbq.out)
                  have rc := o1.out.rs.c1
                  have rf := o1.out.rs.fr 0
                  gi_wp2_with fail
                  exact ⟨(KeepsFrom.keep (B := w9.heap.size) hbq.out).trans ((KeepsOthers.setCell _ _ _).from _), nfr.out⟩
              case done =>
                rintro D2 W2 hD2 ⟨⟨hg, bk⟩, _⟩ hK2
                rw [List.length_attach] at bk
                have zr' := zr.out
                have oE := hide (o9.out.kept hg (fun k e => by cases e; omega))
                have mE := hide ((mj.out.keep b9.out).kept hg (by simp; omega))
                have vE := hide ((bv.out.keep b9.out).kept hg (by simp; omega))
                rw [hKl.out] at vE
                have kE := hide bk
                have K1E := hide (obj_kept (obj_keep K1.out b9.out) hg (by simp; omega))
                have K2E := hide hK2
                have zD : Hid (D1 < D2) := hide (by omega)
                have HL := hide (tlenI (show TabI W2.drew Bt b L from oE.out.tb))
                have m0 := mE.out.c1
                have v0 := vE.out.c1
                have k0 := kE.out.c1
                have rc := oE.out.rs.c1
                have rf := oE.out.rs.fr 0
                clear hg bk hK2 o9 mj bv K1 I2 G2 SI bk9 b9
                go_wp2_with fail
                refine region_only ?_
                go_region_with (refine HL.out.mono ?_; rintro e w' ⟨rfl, rfl⟩)
                all_goals
                  go_wp2_with fail
                  have KO := KeepsOthers.setCell W2.drew ⟨W.heap.size + 1 + 1, 0, none⟩ (.bool true)
                  have hA := KO.same D2 _ K2E.out rfl
                  have hB := KO.same D1 _ K1E.out rfl
                  refine ⟨by simp, .inl ⟨_, _, rfl, run_takeDeferred hA, ?_⟩⟩
                  have d12 := zD.out
                  have d1 := zr.out
                  have sp0 := oE.out.sep
                  have hB2 := (World.putObj_heap_other (w := W2.drew.setCell ⟨W.heap.size + 1 + 1, 0, none⟩ (.bool true)) (o := .deferred none) (show D1 ≠ D2 by omega)).trans hB
                  refine ⟨by simp, .inl ⟨_, _, rfl, run_takeDeferred hB2, ?_⟩⟩
                  have hc : (((W2.setCell ⟨W.heap.size + 1 + 1, 0, none⟩ (.bool true)).drew.putObj D2 (.deferred none)).putObj D1 (.deferred none)).cell? ⟨W.heap.size + 1 + 1, 0, none⟩ = some (.bool true) := ((((show Blk W2.drew _ _ _ from oE.out.rs).set (.bool true)).kept (grownBy_putObj' _ D2 (.deferred none)) (by simp; omega)).kept (grownBy_putObj' _ D1 (.deferred none)) (by simp; omega)).c1
                  refine ⟨.bool true, ?_, rfl, (((below_drew oE.out.bel).setCell (p := ⟨W.heap.size + 1 + 1, 0, none⟩) (show W.heap.size ≤ W.heap.size + 1 + 1 by omega) _).trans (belowK_b (w := W) (Nat.le_refl _) _ D2 _ _ (by omega) hA rfl rfl)).trans (belowK_b (w := W) (Nat.le_refl _) _ D1 _ _ (by omega) hB2 rfl rfl)⟩
                  simp [results, Try.f4, go_sem, hc]
    · have hn := FL.out.le
      have hnl : n ≤ len := by omega
      have hnc : n ≤ cap := by omega
      have hnc' : (n : Int) ≤ cap := by omega
      have n0 := O.out.nn.c1
      have f0 := O.out.sp.fr 0
      obtain ⟨w3, hw3⟩ : ∃ w3, wr.setCell ⟨W.heap.size, 0, none⟩ (.slice a n cap) = w3 := ⟨_, rfl⟩
      have O3 := hide (O.out.setS (.slice a n cap))
      rw [hw3] at O3
      have hL : Hid (L.length ≤ 2000) := hide (Nat.le_trans FL.out.len hk2)
      go_wp2_with fail
      clear O O0 n0 f0
      refine (place_any (-1) 0 _).mono ?_
      rintro e w4 ⟨rfl, hb4⟩
      replace O3 := hide (O3.out.keep hb4)
      clear hb4 hw3
      obtain ⟨w5, hw5⟩ : ∃ w5, ((w4.alloc (spotO (-1) 0)).alloc (.cells #[.int .i64 0] 3)).alloc (.cells #[.slice none 0 0] 28) = w5 := ⟨_, rfl⟩
      have P5 : Hid (∀ B, w4.heap.size + 2 < B → Ob w4.heap.size (w4.heap.size + 1) (w4.heap.size + 2) B (-1, 0) 0 [] w5) := hide (fun B hB => by
        rw [← hw5]
        refine ⟨((Blk.new w4 #[.int .i64 (-1), .int .i64 0] 35).alloc _).alloc _, ?_, ⟨.slice none 0 0, ?_, RowS.nil _ _⟩, by omega⟩
        · have := (Blk.new (w4.alloc (spotO (-1) 0)) #[.int .i64 0] 3).alloc (.cells #[.slice none 0 0] 28); simpa using this
        · have := Blk.new ((w4.alloc (spotO (-1) 0)).alloc (.cells #[.int .i64 0] 3)) #[.slice none 0 0] 28; simpa using this)
      have O5 := hide (((O3.out.alloc (spotO (-1) 0)).alloc (.cells #[.int .i64 0] 3)).alloc (.cells #[.slice none 0 0] 28))
      have z45 : Hid (w5.heap.size = w4.heap.size + 3 ∧ w2.heap.size < w4.heap.size) := hide ⟨by rw [← hw5]; simp, O3.out.lt⟩
      rw [hw5] at O5
      clear O3
      have HA := hide (allI_any O5.out.tb (by have := hL.out; omega))
      go_wp2_with fail
      clear hw5
      refine HA.out.mono ?_
      rintro e w6 ⟨v1, bs1, rfl, I1, hb6, n1⟩
      replace I1 := hide I1
      replace n1 := hide n1
      have O6 := hide (O5.out.keep hb6)
      have P6 := hide ((P5.out w6.heap.size (by have := hb6.size; have := z45.out; omega)).keep hb6)
      have z6 := hide hb6.size
      clear hb6 HA O5 P5
      obtain ⟨lb1, rfl⟩ := itI_func I1.out
      have G1 := hide (itI_at 11 (by decide) (by have := hL.out; omega) I1.out)
      go_wp2_with fail
      refine rangeIAB (n := 12) (by decide) 11 12 G1.out (Below.refl _ _) I1.out.1 rfl
        (fun pre W' => (Oa W (.slice a n cap) t l bo r W.heap.size (W.heap.size + 1) (W.heap.size + 1 + 1) Bt b w2.heap.size n L W' ∧ Ob w4.heap.size (w4.heap.size + 1) (w4.heap.size + 2) w6.heap.size (lastE pre) pre.length ((keysE pre).filter (hasA t l bo r)) W') ∧ SortE pre ∧ w6.heap.size ≤ W'.heap.size) (fun c pre W' => ¬ SortE pre)
        (fun pre X Y row ⟨⟨h1, h2⟩, h3, h4⟩ hg hr => ⟨⟨h1.own hg (by have := z6.out; have := z45.out; omega) hr, h2.own hg hr⟩, h3, Nat.le_trans h4 hg.size⟩) (fun c => ownFrom_pure _ _) ⟨⟨O6.out, P6.out⟩, List.Pairwise.nil, Nat.le_refl _⟩ (fun pre W h => h.2.2) ?assign ?body ?done ?stop
      case assign =>
        intro lo x W K hK
        gi_wp2
        exact hK
      case stop =>
        rintro D c k W hD hk h hK
        exact absurd (sortE_take O6.out.tb.sorted k) h
      case body =>
        rintro lo pre x X Bx hlo hr ⟨⟨o, p⟩, hso, hsz⟩ hBx bX hlt
        obtain ⟨i, ei, hin, hsp, hnx⟩ := FL.out.val x.1 x.2
        have hmx := o.tb.may x.1 x.2
        have hno := hide (fun h : ¬ ltS (lastE pre) x.1.1 => not_sortE (pre := pre) (x := x) (by have := may_wf hmx; unfold mayB at hmx; simp at hmx; omega) h)
        have hyes := hide (fun h : ltS (lastE pre) x.1.1 => sortE_snoc (pre := pre) (x := x) hso h)
        have hPl := hide ((hpl.out i (by omega)).1.keep o.bel)
        rw [hsp] at hPl
        have hks : Hid (keysE (pre ++ [x]) = keysE pre ++ [x.1.1]) := hide (by simp [keysE])
        have hls : Hid (lastE (pre ++ [x]) = x.1.1) := hide (lastE_snoc pre x)
        have hll : Hid ((pre ++ [x]).length = pre.length + 1) := hide (by simp)
        have hkl : Hid ((keysE pre).length ≤ 2000 ∧ pre.length ≤ 2000) := hide (by have := hL.out; simp [keysE]; omega)
        generalize hpx : pre ++ [x] = px at *
        generalize hla : lastE pre = la at *
        generalize hkk : keysE pre = ks at *
        generalize hpn : pre.length = pn at *
        obtain ⟨⟨⟨xr, xc⟩, xv⟩, hx⟩ := x
        obtain ⟨lr, lc⟩ := la
        simp only at ei hsp hnx hmx hno hyes hPl hks hls bX ⊢
        subst ei
        clear hpx hla hkk hpn hx hso hlt
        obtain rfl := ha.out (by omega)
        obtain ⟨s0, s1⟩ := bX.c2
        obtain ⟨l0, l1⟩ := p.la.c2
        have c0 := o.sp.c1
        have c1 := o.nn.c1
        have hin' : (i : Int) < n := by omega
        have hlt2 : (i : Int) + 1 ≤ 2000 := by omega
        have hpnb : (pn : Int) ≤ 2000 := by have := hkl.out.2; omega
        have hd0 : decide ((i : Int) < 0) = false := by simp
        have hd1 : decide ((n : Int) ≤ i) = false := by simp; omega
        have hd2 : decide (n ≤ i) = false := by simp; omega
        have hd3 : (!decide (i < n)) = false := by simp; omega
        have hd4 : (!decide ((i : Int) < n)) = false := by simp; omega
        have HAh := hide (ahead_any lr lc xr xc)
        replace o := hide o
        replace p := hide p
        replace bX := hide bX
        replace hsp := hide hsp
        replace hnx := hide hnx
        have sm0 := cell_regrown s0
        have sm1 := cell_regrown s1
        have lm0 := cell_regrown l0
        have lm1 := cell_regrown l1
        have cm0 := cell_regrown c0
        have cm1 := cell_regrown c1
        have pm0 := cell_regrown hPl.out.1
        have pm1 := cell_regrown hPl.out.2
        have k1 := fun d' os => CallsIn.regrown_of ((callsIn_wide (n := 9)).2 (HAh.out (grow (redrawn X d') os)))
        clear HAh
        by_cases hq : ltS (lr, lc) (xr, xc)
        · rw [decide_eq_true hq] at k1
          gi_wp2_with fail
          refine region_quietR lo (F := Fence.wide) rfl (by kernel_rfl) (by kernel_rfl) (by kernel_rfl) ?_
          repeat (gi_big_quiet_step (with_reducible exact k1 _ _))
          refine wpQuietIn_nil ?_
          intro _ hw'
          obtain ⟨⟨dq, osq⟩, hw''⟩ := hw'
          subst hw''
          have hbq := below_regrown X dq osq
          obtain ⟨X1, hX1⟩ : ∃ X1, grow (redrawn X dq) osq = X1 := ⟨_, rfl⟩
          rw [hX1] at hbq ⊢
          have D1 := hide (Bd.mk (o.out.keep hbq) (p.out.keep hbq) (KeepsFrom.keep (B := w6.heap.size) hbq) (KS.of_below (bs := bs1) hbq) (Nat.le_trans hsz hbq.size) ⟨z45.out.2, fun k hk => ⟨by have := n1.out k hk; have := z45.out; omega, I1.out.1 k hk⟩⟩)
          have bX1 := hide (bX.out.keep hbq)
          clear hX1 hbq sm0 sm1 lm0 lm1 cm0 cm1 pm0 pm1 s0 s1 l0 l1 c0 c1 k1 o p bX hPl hno
          gi_wp2_with fail
          gi_loopw [13] (fun v wr => ∃ j : Nat, i + 1 ≤ j ∧ j ≤ n ∧ v = .int .i64 j ∧ Hid (Below X1.heap.size X1 wr)) (fun v _ => n - (intOf v).toNat)
          case atStart => exact ⟨i + 1, Nat.le_refl _, hin, by go_num, hide (Below.refl _ _)⟩
          case round =>
            obtain ⟨j, hj1, hj2, rfl, hbj⟩ := hrel
            have Dj := hide (D1.out.keep hbj.out)
            have bj := hide (bX1.out.keep hbj.out)
            have c1 := Dj.out.o.nn.c1
            obtain ⟨s0, s1⟩ := bj.out.c2
            by_cases hjn : (j : Int) < n
            · have hPj := (hpl.out j (by omega)).1.keep Dj.out.o.bel
              have hne := hnx.out j (by omega) (by omega)
              generalize sp j = sj at hPj hne
              obtain ⟨rj, cj⟩ := sj
              obtain ⟨q0, q1⟩ := hPj
              simp only at q0 q1
              have c0 := Dj.out.o.sp.c1
              have sm0 := cell_regrown s0
              have sm1 := cell_regrown s1
              have cm0 := cell_regrown c0
              have qm0 := cell_regrown q0
              have qm1 := cell_regrown q1
              by_cases hrj : rj = xr
              · have hcj : ¬ cj = xc := fun e => hne (by rw [hrj, e])
                clear hne
                gi_wp2_with fail
                refine region_quietR lo (F := Fence.wide) rfl (by kernel_rfl) (by kernel_rfl) (by kernel_rfl) ?_
                repeat (gi_big_quiet_step (fail))
                refine wpQuietIn_nil ?_
                intro _ hw'
                obtain ⟨⟨dq2, osq2⟩, hw''⟩ := hw'
                subst hw''
                have hbq := hide (next hbj.out (below_regrown wr dq2 osq2))
                obtain ⟨X2, hX2⟩ : ∃ X2, grow (redrawn wr dq2) osq2 = X2 := ⟨_, rfl⟩
                rw [hX2] at hbq ⊢
                clear hX2 sm0 sm1 cm0 qm0 qm1 c0 c1 s0 s1 q0 q1
                gi_wp2_with fail
                refine ⟨⟨j + 1, by omega, by omega, by go_num, hbq⟩, ?_⟩
                simp [intOf]; omega
              · clear hne
                gi_wp2_with fail
                refine region_quietR lo (F := Fence.wide) rfl (by kernel_rfl) (by kernel_rfl) (by kernel_rfl) ?_
                repeat (gi_big_quiet_step (fail))
                refine wpQuietIn_nil ?_
                intro _ hw'
                obtain ⟨⟨dq2, osq2⟩, hw''⟩ := hw'
                subst hw''
                have hbq := hide (next hbj.out (below_regrown wr dq2 osq2))
                obtain ⟨X2, hX2⟩ : ∃ X2, grow (redrawn wr dq2) osq2 = X2 := ⟨_, rfl⟩
                rw [hX2] at hbq ⊢
                clear hX2 sm0 sm1 cm0 qm0 qm1 c0 c1 s0 s1 q0 q1
                gi_wp2_with fail
                refine ⟨⟨j + 1, by omega, by omega, by go_num, hbq⟩, ?_⟩
                simp [intOf]; omega
            · obtain ⟨l0, l1⟩ := Dj.out.p.la.c2
              have lf0 := Dj.out.p.la.fr 0
              have lf1 := Dj.out.p.la.fr 1
              obtain ⟨w7, hw7⟩ : ∃ w7, (wr.setCell ⟨w4.heap.size, 0, none⟩ (.int .i64 xr)).setCell ⟨w4.heap.size, 1, none⟩ (.int .i64 xc) = w7 := ⟨_, rfl⟩
              have D7 := hide (Dj.out.setL (xr, xc))
              have b7 := hide ((bj.out.kept (grown_setAt wr w4.heap.size 0 (.int .i64 xr)) (by simp; have := z6.out; have := z45.out; omega)).kept (grown_setAt _ w4.heap.size 1 (.int .i64 xc)) (by simp; have := z6.out; have := z45.out; omega))
              rw [hw7] at D7 b7
              have m0 := D7.out.p.ma.c1
              have mf := D7.out.p.ma.fr 0
              obtain ⟨w8, hw8⟩ : ∃ w8, w7.setCell ⟨w4.heap.size + 1, 0, none⟩ (.int .i64 ((pn + 1 : Nat) : Int)) = w8 := ⟨_, rfl⟩
              have D8 := hide (D7.out.setM (pn + 1))
              have b8 := hide (b7.out.kept (grown_setAt w7 (w4.heap.size + 1) 0 (.int .i64 ((pn + 1 : Nat) : Int))) (by simp; have := z6.out; have := z45.out; omega))
              rw [hw8] at D8 b8
              obtain ⟨t0, t1, t2, t3⟩ := D8.out.o.ar.c4
              obtain ⟨u0, u1⟩ := b8.out.c2
              have hc8 : ((pn + 1 : Nat) : Int) = (pn : Int) + 1 := by omega
              rw [hc8] at hw8
              gi_wp2_with fail
              clear l0 l1 lf0 lf1 m0 mf t0 t1 t2 t3 u0 u1 hw7 hw8 c1 s0 s1
              refine (CallsIn.inRound lo (callsIn_wide.2 (rhas_any t l bo r xr xc w8))).mono ?_
              rintro e w9 ⟨rfl, hb9⟩
              have D9 := hide (D8.out.keep hb9)
              have b9 := hide (b8.out.keep hb9)
              clear hb9 D8 b8 D7 b7 Dj bj D1 bX1
              have hso := hide (hyes.out hq)
              cases hh : hasB t l bo r xr xc
              · have hf : Hid ((keysE px).filter (hasA t l bo r) = ks.filter (hasA t l bo r)) := hide (by rw [hks.out, List.filter_append, List.filter_cons_of_neg (by show ¬ hasB t l bo r xr xc = true; rw [hh]; simp)]; simp)
                gi_wp2_with fail
                refine ⟨D9.out.kf, D9.out.kk, ⟨⟨D9.out.o, ?_⟩, hso.out, D9.out.z⟩⟩
                rw [hls.out, hll.out, hf.out]
                exact D9.out.p
              · have hf : Hid ((keysE px).filter (hasA t l bo r) = ks.filter (hasA t l bo r) ++ [(xr, xc)]) := hide (by rw [hks.out, List.filter_append, List.filter_cons_of_pos (by show hasB t l bo r xr xc = true; exact hh)]; simp)
                obtain ⟨v9, bv9, row9⟩ := D9.out.p.inn
                obtain ⟨av, cv, rfl⟩ := row_slice row9
                have c9 := bv9.c1
                have f9 := bv9.fr 0
                obtain ⟨u0, u1⟩ := b9.out.c2
                have hfl : Hid ((ks.filter (hasA t l bo r)).length < 1000000) := hide (Nat.lt_of_le_of_lt (List.length_filter_le _ _) (by have := hkl.out.1; omega))
                have hns := D9.out.z
                have DA := hide (D9.out.keep (w' := w9.alloc (spotO xr xc)) (step (Below.refl _ _) _))
                have bvA := hide (bv9.alloc (spotO xr xc))
                have rowA := hide (row9.alloc (spotO xr xc))
                generalize ks.filter (hasA t l bo r) = Kf at *
                clear hh D9 b9 bv9 row9
                gi_wp2_with (first
                  | (gi_at_builtin; refine wpListIn_appS rfl _ _ rfl rfl rfl rowA.out (C2.new w9 _ _ _) hfl.out (Nat.le_trans hns (by simp)) ?_; intro v' wb hrowb hgb hloc; obtain ⟨ab, kb, rfl⟩ : ∃ a c, v' = .slice a (Kf.length + 1) c := (by have h := row_slice hrowb; rwa [List.length_append] at h); have bvb := bvA.out.kept hgb (fun e => by have := (rowA.out.lt _ e.symm).1; have := DA.out.p.sep; omega); have cb := bvb.c1; have fb := bvb.fr 0; replace hrowb := hide hrowb; replace hgb := hide hgb)
                  | gi_in)
                have DB := DA.out.app bvA.out rowA.out hrowb.out hgb.out
                refine ⟨DB.kf, DB.kk, ⟨⟨DB.o, ?_⟩, hso.out, DB.z⟩⟩
                rw [hls.out, hll.out, hf.out]
                exact DB.p
        · rw [decide_eq_false hq] at k1
          have nso := hide (hno.out hq)
          clear hno hyes hq
          gi_wp2_with fail
          refine region_quietR lo (F := Fence.wide) rfl (by kernel_rfl) (by kernel_rfl) (by kernel_rfl) ?_
          repeat (gi_big_quiet_step (with_reducible exact k1 _ _))
          refine wpQuietIn_nil ?_
          intro _ hw'
          obtain ⟨⟨dq, osq⟩, hw''⟩ := hw'
          subst hw''
          have hbq := below_regrown X dq osq
          obtain ⟨X1, hX1⟩ : ∃ X1, grow (redrawn X dq) osq = X1 := ⟨_, rfl⟩
          rw [hX1] at hbq ⊢
          have o1 := hide (o.out.keep hbq)
          have KF := hide (KeepsFrom.keep (B := w6.heap.size) hbq)
          have rc := o1.out.rs.c1
          have rf := o1.out.rs.fr 0
          clear hX1 hbq sm0 sm1 lm0 lm1 cm0 cm1 pm0 pm1 s0 s1 l0 l1 c0 c1 k1 o p bX hPl
          gi_wp2_with fail
          exact ⟨KF.out.trans ((KeepsOthers.setCell _ _ _).from _), nso.out⟩
      case done =>
        rintro D1 W1 hD1 ⟨⟨o, p⟩, _, hsz⟩ hK1
        rw [List.length_attach] at p
        have hkE : (keysE L.attach).filter (hasA t l bo r) = keysT (L.filter fun p => hasA t l bo r p.1) := by
          unfold keysE keysT
          rw [show L.attach.map (fun x => x.1.1) = (L.attach.map Subtype.val).map (·.1) by rw [List.map_map]; rfl, List.attach_map_subtype_val, List.filter_map]
          rfl
        rw [hkE] at p
        generalize lastE L.attach = la at p
        replace o := hide o
        replace p := hide p
        replace hK1 := hide hK1
        have zD1 := hide (show w4.heap.size + 2 < D1 ∧ D1 < W1.heap.size from ⟨by have := z6.out; have := z45.out; omega, (Array.getElem?_eq_some_iff.1 hK1.out).1⟩)
        clear hkE hD1 hsz O6 P6 I1 G1
        go_wp2_with fail
        go_loopw [14] (fun v wr => ∃ j : Nat, j ≤ n ∧ v = .int .i64 j ∧ Hid (Below W1.heap.size W1 wr)) (fun v _ => n - (intOf v).toNat)
        case atStart => exact ⟨0, Nat.zero_le _, rfl, hide (Below.refl _ _)⟩
        case round =>
          obtain ⟨j, hj, rfl, hbj⟩ := hrel
          have oj := hide (o.out.keep hbj.out)
          have c1 := oj.out.nn.c1
          by_cases hjn : (j : Int) < n
          · have hPj := (hpl.out j (by omega)).1.keep oj.out.bel
            obtain ⟨_, wj1, wj2⟩ := hpl.out j (by omega)
            have hhas := FL.out.has j (by omega)
            generalize sp j = sj at hPj wj1 wj2 hhas
            obtain ⟨rj, cj⟩ := sj
            simp only at hPj wj1 wj2 hhas
            have HG := hide (tgetI (r := rj) (c := cj) oj.out.tb wj1 wj2)
            rw [hhas] at HG
            have q0 := hPj.1
            have q1 := hPj.2
            have c0 := oj.out.sp.c1
            obtain rfl := ha.out (by omega)
            by_cases g1 : 0 ≤ rj
            · by_cases g2 : rj < 65536
              · by_cases g3 : 0 ≤ cj
                · by_cases g4 : cj < 702
                  · have hmb : mayB rj cj = true := by unfold mayB; simp; omega
                    rw [hmb] at HG
                    clear hmb hhas
                    go_wp2_with fail
                    refine HG.out.mono ?_
                    rintro e w7 ⟨rfl, hb7⟩
                    have h7 := hide (next hbj.out hb7)
                    have o7 := hide (oj.out.keep hb7)
                    have q7 := hPj.keep hb7
                    clear HG hb7 hbj oj c0 c1 q0 q1
                    obtain ⟨q0, q1⟩ := q7
                    have c0 := o7.out.sp.c1
                    go_wp2_with fail
                    refine ⟨⟨j + 1, by omega, by go_num, h7⟩, ?_⟩
                    simp [intOf]; omega
                  · have hmb : mayB rj cj = false := by unfold mayB; simp; omega
                    rw [hmb] at HG
                    clear hmb hhas
                    go_wp2_with fail
                    refine HG.out.mono ?_
                    rintro e w7 ⟨rfl, hb7⟩
                    have h7 := hide (next hbj.out hb7)
                    have o7 := hide (oj.out.keep hb7)
                    have q7 := hPj.keep hb7
                    clear HG hb7 hbj oj c0 c1 q0 q1
                    obtain ⟨q0, q1⟩ := q7
                    have c0 := o7.out.sp.c1
                    go_wp2_with fail
                    refine ⟨⟨j + 1, by omega, by go_num, h7⟩, ?_⟩
                    simp [intOf]; omega
                · have hmb : mayB rj cj = false := by unfold mayB; simp; omega
                  rw [hmb] at HG
                  clear hmb hhas
                  go_wp2_with fail
                  refine HG.out.mono ?_
                  rintro e w7 ⟨rfl, hb7⟩
                  have h7 := hide (next hbj.out hb7)
                  have o7 := hide (oj.out.keep hb7)
                  have q7 := hPj.keep hb7
                  clear HG hb7 hbj oj c0 c1 q0 q1
                  obtain ⟨q0, q1⟩ := q7
                  have c0 := o7.out.sp.c1
                  go_wp2_with fail
                  refine ⟨⟨j + 1, by omega, by go_num, h7⟩, ?_⟩
                  simp [intOf]; omega
              · have hmb : mayB rj cj = false := by unfold mayB; simp; omega
                rw [hmb] at HG
                clear hmb hhas
                go_wp2_with fail
                refine HG.out.mono ?_
                rintro e w7 ⟨rfl, hb7⟩
                have h7 := hide (next hbj.out hb7)
                have o7 := hide (oj.out.keep hb7)
                have q7 := hPj.keep hb7
                clear HG hb7 hbj oj c0 c1 q0 q1
                obtain ⟨q0, q1⟩ := q7
                have c0 := o7.out.sp.c1
                go_wp2_with fail
                refine ⟨⟨j + 1, by omega, by go_num, h7⟩, ?_⟩
                simp [intOf]; omega
            · have hmb : mayB rj cj = false := by unfold mayB; simp; omega
              rw [hmb] at HG
              clear hmb hhas
              go_wp2_with fail
              refine HG.out.mono ?_
              rintro e w7 ⟨rfl, hb7⟩
              have h7 := hide (next hbj.out hb7)
              have o7 := hide (oj.out.keep hb7)
              have q7 := hPj.keep hb7
              clear HG hb7 hbj oj c0 c1 q0 q1
              obtain ⟨q0, q1⟩ := q7
              have c0 := o7.out.sp.c1
              go_wp2_with fail
              refine ⟨⟨j + 1, by omega, by go_num, h7⟩, ?_⟩
              simp [intOf]; omega
          · have pj := hide (p.out.keep hbj.out)
            have K1 := hide (obj_keep hK1.out hbj.out)
            have zr : Hid (D1 < wr.heap.size ∧ w4.heap.size + 2 < D1 ∧ w2.heap.size < w4.heap.size) := hide (by have := zD1.out; have := hbj.out.size; have := z45.out; omega)
            obtain ⟨v0, bv, row⟩ := pj.out.inn
            obtain ⟨av, cv, bsr, rfl, SI, hbsr⟩ := row_spots row
            have mj := hide pj.out.ma
            replace bv := hide bv
            replace SI := hide SI
            replace hbsr : Hid (∀ k ∈ bsr, k < wr.heap.size) := hide (fun k hk => (hbsr k hk).2.1)
            have oK := hide (oj.out.alloc (.cells #[.int .i64 0] 3))
            have bk0 := hide (Blk.new wr #[.int .i64 0] 3)
            have bK := hide (step (Below.refl wr.heap.size wr) (.cells #[.int .i64 0] 3))
            obtain ⟨t0, t1, t2, t3⟩ := oK.out.ar.c4
            have HO := hide (overI_any oK.out.tb (by have := hL.out; omega) t l bo r hwf.out)
            clear row pj p o hK1 oj hbj
            go_wp2_with fail
            refine HO.out.mono ?_
            rintro e w9 ⟨v2, bs2, rfl, I2, hb9, n2⟩
            replace I2 := hide I2
            replace n2 := hide n2
            have o9 := hide (oK.out.keep hb9)
            have bk9 := hide (bk0.out.keep hb9)
            have b9 := hide (next bK.out hb9)
            have z9 := hb9.size
            simp only [World.size_alloc] at z9 n2
            clear hb9 HO oK bk0 bK t0 t1 t2 t3 c1
            have hM2 : Hid ((L.filter fun p => hasA t l bo r p.1).length ≤ 2000) := hide (Nat.le_trans (List.length_filter_le _ _) hL.out)
            have sM2 : Hid (SortT (L.filter fun p => hasA t l bo r p.1)) := hide (List.Pairwise.filter _ o9.out.tb.sorted)
            generalize hM : (L.filter fun p => hasA t l bo r p.1) = M2 at *
            have hKl : Hid ((keysT M2).length = M2.length) := hide (by simp [keysT])
            obtain ⟨lb2, rfl⟩ := itI_func I2.out
            have G2 := hide (itI_at 11 (by decide) (by have := hM2.out; omega) I2.out)
            go_wp2_with fail
            refine rangeIA (n := 12) (by decide) 18 G2.out (Below.refl _ _) I2.out.1 rfl
              (fun pre W' => (w9.grownBy W' (some wr.heap.size) ∧ Blk W' wr.heap.size #[.int .i64 pre.length] 3) ∧ pre = M2.attach.take pre.length) (fun c pre W' => ¬ ∃ k, pre = M2.attach.take k)
              (OwnFrom.and (OwnFrom.and (ownFrom_grown w9 _) (Own.from (Blk.own _ _ _) _)) (ownFrom_pure _ _)) (fun c => ownFrom_pure _ _) ⟨⟨grown_refl _ _, bk9.out⟩, rfl⟩ (fun pre W h => h.1.1.size) ?assign ?body ?done ?stop
            case assign =>
              intro lo x W K hK
              gi_wp2
              exact hK
            case stop =>
              rintro D c k W hD hk h hK
              exact absurd ⟨k, rfl⟩ h
            case body =>
              rintro lo pre x X Bx hlo hr ⟨⟨hg, bk⟩, hpre⟩ hBx bX hlt
              have hpn : Hid ((pre ++ [x]).length = pre.length + 1) := hide (by simp)
              have hyes := hide (fun h : x.1.1 = (M2[pre.length]).1 => take_snoc hpre hlt (sort_same sM2.out hlt h))
              have hno := hide (fun h : x.1.1 ≠ (M2[pre.length]).1 => not_front hlt h)
              have zr' := zr.out
              have oX := hide (o9.out.kept hg (fun k e => by cases e; omega))
              have c0 := bk.c1
              have bvX := (bv.out.keep b9.out).kept hg (by simp; omega)
              have hlK : pre.length < (keysT M2).length := by rw [hKl.out]; exact hlt
              have hgk : (keysT M2)[pre.length] = (M2[pre.length]).1 := by simp [keysT]
              obtain ⟨g, rfl, hgb, hsp⟩ : ∃ g, av = some ⟨g, 0, none⟩ ∧ g ∈ bsr ∧ ∀ j (h : j < (keysT M2).length), SpotAt wr g j (keysT M2)[j] := by
                rcases SI.out with h | h
                · rw [h] at hlK; simp at hlK
                · exact h
              have hs1 := ((hsp pre.length hlK).keep b9.out).same (hg.block g (by have := hbsr.out g hgb; have := b9.out.size; omega) (by have := hbsr.out g hgb; simp; omega))
              rw [hgk] at hs1
              rw [hKl.out] at bvX
              clear hlK hgk hsp
              generalize hy : (M2[pre.length]).1 = y at *
              have hlt' : (pre.length : Int) < M2.length := by omega
              have hle' : ¬ (M2.length : Int) ≤ pre.length := by omega
              have hb2 : (pre.length : Int) ≤ 2000 := by have := hM2.out; omega
              generalize hpx : pre ++ [x] = px at *
              generalize pre.length = pn at *
              obtain ⟨⟨⟨xr, xc⟩, xv⟩, hx⟩ := x
              obtain ⟨yr, yc⟩ := y
              obtain ⟨q0, q1⟩ := hs1
              simp only at hyes hno bX q0 q1 ⊢
              have hd1 : decide ((M2.length : Int) ≤ pn) = false := by simp; omega
              have hd2 : decide (M2.length ≤ pn) = false := by simp; omega
              have hd3 : (!decide (pn < M2.length)) = false := by simp; omega
              have hd4 : (!decide ((pn : Int) < M2.length)) = false := by simp; omega
              obtain ⟨s0, s1⟩ := bX.c2
              have c1 := bvX.c1
              have sm0 := cell_regrown s0
              have sm1 := cell_regrown s1
              have cm0 := cell_regrown c0
              have cm1 := cell_regrown c1
              have qm0 := cell_regrown q0
              have qm1 := cell_regrown q1
              replace hg := hide hg
              replace bk := hide bk
              clear hpx hpre hx hy bX bvX hr zr'
              by_cases h1 : yr = xr
              · by_cases h2 : yc = xc
                · have yes := hide (hyes.out (by rw [h1, h2]))
                  clear hno hyes
                  subst h1 h2
                  gi_wp2_with fail
                  refine region_quietR lo (F := Fence.wide) rfl (by kernel_rfl) (by kernel_rfl) (by kernel_rfl) ?_
                  repeat (gi_big_quiet_step (fail))
                  refine wpQuietIn_nil ?_
                  intro _ hw'
                  obtain ⟨⟨dq, osq⟩, hw''⟩ := hw'
                  subst hw''
                  have hbq := hide (below_regrown X dq osq)
                  obtain ⟨X1, hX1⟩ : ∃ X1, grow (redrawn X dq) osq = X1 := ⟨_, rfl⟩
                  rw [hX1] at hbq ⊢
                  clear hX1 sm0 sm1 cm0 cm1 qm0 qm1 c0 c1 s0 s1 q0 q1
                  have bk1 := hide (bk.out.keep hbq.out)
                  have g1 := hide (grown_keep hg.out hbq.out)
                  have k0 := bk1.out.c1
                  have kf := bk1.out.fr 0
                  gi_wp2_with fail
                  refine ⟨(KeepsFrom.keep (B := w9.heap.size) hbq.out).trans ((KeepsOthers.setCell _ _ _).from _), KS_t (KS.of_below hbq.out) (KS.of_grown (grownBy_setCell' X1 _ _) (fun k hk e => by have := n2.out k hk; cases e; omega)), ⟨⟨grown_set g1.out _, ?_⟩, yes.out⟩⟩
                  rw [hpn.out]
                  exact bk1.out.set _
                · have nfr := hide (hno.out (fun e => h2 (by have := congrArg Prod.snd e; simpa using this.symm)))
                  clear hno hyes
                  gi_wp2_with fail
                  refine region_quietR lo (F := Fence.wide) rfl (by kernel_rfl) (by kernel_rfl) (by kernel_rfl) ?_
                  repeat (gi_big_quiet_step (fail))
                  refine wpQuietIn_nil ?_
                  intro _ hw'
                  obtain ⟨⟨dq, osq⟩, hw''⟩ := hw'
                  subst hw''
                  have hbq := hide (below_regrown X dq osq)
                  obtain ⟨X1, hX1⟩ : ∃ X1, grow (redrawn X dq) osq = X1 := ⟨_, rfl⟩
                  rw [hX1] at hbq ⊢
                  clear hX1 sm0 sm1 cm0 cm1 qm0 qm1 c0 c1 s0 s1 q0 q1
                  have o1 := hide (oX.out.keep hbq.out)
                  have rc := o1.out.rs.c1
                  have rf := o1.out.rs.fr 0
                  gi_wp2_with fail
                  exact ⟨(KeepsFrom.keep (B := w9.heap.size) hbq.out).trans ((KeepsOthers.setCell _ _ _).from _), nfr.out⟩
              · have nfr := hide (hno.out (fun e => h1 (by have := congrArg Prod.fst e; simpa using this.symm)))
                clear hno hyes
                gi_wp2_with fail
                refine region_quietR lo (F := Fence.wide) rfl (by kernel_rfl) (by kernel_rfl) (by kernel_rfl) ?_
                repeat (gi_big_quiet_step (fail))
                refine wpQuietIn_nil ?_
                intro _ hw'
                obtain ⟨⟨dq, osq⟩, hw''⟩ := hw'
                subst hw''
                have hbq := hide (below_regrown X dq osq)
                obtain ⟨X1, hX1⟩ : ∃ X1, grow (redrawn X dq) osq = X1 := ⟨_, rfl⟩
                rw [hX1] at hbq ⊢
                clear hX1 sm0 sm1 cm0 cm1 qm0 qm1 c0 c1 s0 s1 q0 q1
                have o1 := hide (oX.out.keep hbq.out)
                have rc := o1.out.rs.c1
                have rf := o1.out.rs.fr 0
                gi_wp2_with fail
                exact ⟨(KeepsFrom.keep (B := w9.heap.size) hbq.out).trans ((KeepsOthers.setCell _ _ _).from _), nfr.out⟩
            case done =>
              rintro D2 W2 hD2 ⟨⟨hg, bk⟩, _⟩ hK2
              rw [List.length_attach] at bk
              have zr' := zr.out
              have oE := hide (o9.out.kept hg (fun k e => by cases e; omega))
              have mE := hide ((mj.out.keep b9.out).kept hg (by simp; omega))
              have vE := hide ((bv.out.keep b9.out).kept hg (by simp; omega))
              rw [hKl.out] at vE
              have kE := hide bk
              have K1E := hide (obj_kept (obj_keep K1.out b9.out) hg (by simp; omega))
              have K2E := hide hK2
              have zD : Hid (D1 < D2) := hide (by omega)
              have HL := hide (tlenI (show TabI W2.drew Bt b L from oE.out.tb))
              have m0 := mE.out.c1
              have v0 := vE.out.c1
              have k0 := kE.out.c1
              have rc := oE.out.rs.c1
              have rf := oE.out.rs.fr 0
              clear hg bk hK2 o9 mj bv K1 I2 G2 SI bk9 b9
              go_wp2_with fail
              refine region_only ?_
              go_region_with (refine HL.out.mono ?_; rintro e w' ⟨rfl, rfl⟩)
              all_goals
                go_wp2_with fail
                have KO := KeepsOthers.setCell W2.drew ⟨W.heap.size + 1 + 1, 0, none⟩ (.bool true)
                have hA := KO.same D2 _ K2E.out rfl
                have hB := KO.same D1 _ K1E.out rfl
                refine ⟨by simp, .inl ⟨_, _, rfl, run_takeDeferred hA, ?_⟩⟩
                have d12 := zD.out
                have d1 := zr.out
                have sp0 := oE.out.sep
                have hB2 := (World.putObj_heap_other (w := W2.drew.setCell ⟨W.heap.size + 1 + 1, 0, none⟩ (.bool true)) (o := .deferred none) (show D1 ≠ D2 by omega)).trans hB
                refine ⟨by simp, .inl ⟨_, _, rfl, run_takeDeferred hB2, ?_⟩⟩
                have hc : (((W2.setCell ⟨W.heap.size + 1 + 1, 0, none⟩ (.bool true)).drew.putObj D2 (.deferred none)).putObj D1 (.deferred none)).cell? ⟨W.heap.size + 1 + 1, 0, none⟩ = some (.bool true) := ((((show Blk W2.drew _ _ _ from oE.out.rs).set (.bool true)).kept (grownBy_putObj' _ D2 (.deferred none)) (by simp; omega)).kept (grownBy_putObj' _ D1 (.deferred none)) (by simp; omega)).c1
                refine ⟨.bool true, ?_, rfl, (((below_drew oE.out.bel).setCell (p := ⟨W.heap.size + 1 + 1, 0, none⟩) (show W.heap.size ≤ W.heap.size + 1 + 1 by omega) _).trans (belowK_b (w := W) (Nat.le_refl _) _ D2 _ _ (by omega) hA rfl rfl)).trans (belowK_b (w := W) (Nat.le_refl _) _ D1 _ _ (by omega) hB2 rfl rfl)⟩
                simp [results, Try.f4, go_sem, hc]
end Go.Proofs.Ytmfkeobjbcinpaa
