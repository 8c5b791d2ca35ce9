/- quadrilleref12.Move.all of every tree that may be. -/
import Derived.Test.YtnikmbkkhfmbeaaR12e
import Derived.Test.YtnikmbkkhfmbeaaEq9
namespace Go.Proofs.Ytnikmbkkhfmbeaa
open Go.RowKit Go.Sort
set_option linter.unusedVariables false

theorem exz : exO nd0 (.slice none 0 0) = (.cells #[.int .i64 0, .int .i64 0, .int .i64 0, .string { data := #[] }, .int .i64 0, .int .i64 0, .bool false, .bool false, .int .i64 0, .int .i64 0, .bool false, .bool false, .int .i64 0, .slice none 0 0] 29) := rfl
theorem alst_in {N : Nat} {w w1 : World} {nd : Nd} {ks : List Ex} {wr : World} {a : Option Addr} {len cap : Nat} {css : List (Array Value)} (h : AlSt N w1 ks ks.length wr (.slice a len cap) css) (hs : SmE (.mk nd ks)) (hw : w1.heap.size = w.heap.size + 1 + 1 + 1) (hN : N ≤ w.heap.size) :
    In (OldN N w.heap.size ((wr.setCell ⟨w.heap.size + 1, 13, none⟩ (.slice a len cap)).setRow (w.heap.size + 1 + 1) (exC nd (.slice a len cap))).heap.size) ((wr.setCell ⟨w.heap.size + 1, 13, none⟩ (.slice a len cap)).setRow (w.heap.size + 1 + 1) (exC nd (.slice a len cap))) (exV nd (.slice a len cap)) (.mk nd ks) := by
  have hz : ((wr.setCell ⟨w.heap.size + 1, 13, none⟩ (.slice a len cap)).setRow (w.heap.size + 1 + 1) (exC nd (.slice a len cap))).heap.size = wr.heap.size := by simp
  obtain ⟨_, _, _, _, h1, _⟩ := h.fin (w := w1) (nd := nd) hs (Nat.le_refl _)
  refine h1.move (fun x hx => ⟨?_, ?_⟩)
  · rw [hz]; rcases hx with hx | hx; exact .inl hx; exact .inr ⟨by omega, hx.2⟩
  · have : x ≠ w.heap.size + 1 ∧ x ≠ w.heap.size + 1 + 1 := by rcases hx with hx | hx <;> omega
    exact (setRow_other _ _ _ _ this.2).trans (Below.heap_setCell _ _ _ _ this.1)
set_option maxHeartbeats 4000000 in
set_option maxRecDepth 100000 in
theorem all_loop {K dr dc t n : Int} {f : Mv} (nd : Nd) (ks : List Ex) (ih : ∀ u ∈ ks, AllIs K dr dc t n f u) (N : Nat) (a : Option Addr) (len cap : Nat) (w : World) (ht : In (· < N) w (exV nd (.slice a len cap)) (.mk nd ks)) (hN : N ≤ w.heap.size) (hn : nodesE (.mk nd ks) ≤ 512) (hall : allL ks = true) (hsm : SmE (.mk nd (ks.map (movE f)))) (k5 : (nd.kind == 5) = false) (k6 : (nd.kind == 6) = false) :
    Calls Try.prog 36 #[mvV K dr dc t n, exV nd (.slice a len cap)] w fun e w' => AllP N w (.mk nd (ks.map (movE f))) e w' := by
  obtain ⟨a1, len1, cap1, hv, hl, hll, _, hkid⟩ := ht.un
  obtain ⟨rfl, rfl, rfl⟩ : a = a1 ∧ len = len1 ∧ cap = cap1 := by have := congrArg (fun v => match v with | Value.agg c => c[13]? | _ => none) hv; simpa [exC] using this
  have hle : Hid (len ≤ 511) := hide (by have := hl.out; have := len_nodes ks; rw [nodesE] at hn; omega)
  have hnk : Hid (∀ k ∈ ks, nodesE k ≤ 512) := hide (fun k hk => by have := nodes_mem hk; rw [nodesE] at hn; omega)
  have hak : Hid (∀ k ∈ ks, allE k = true) := hide (fun k hk => all_kid hall hk)
  have c13 := (at14 nd (.slice a len cap)).c13
  have MB := hide (((Blk.new w #[.int .i64 K, .int .i64 dr, .int .i64 dc, .int .i64 t, .int .i64 n] 64).alloc (exO nd (.slice a len cap))).alloc (exO nd0 (.slice none 0 0)))
  have NB := hide ((Blk.new1 w (.cells #[.int .i64 K, .int .i64 dr, .int .i64 dc, .int .i64 t, .int .i64 n] 64) (exC nd (.slice a len cap)) 29).alloc (exO nd0 (.slice none 0 0)))
  have RB := hide (Blk.new2 w (.cells #[.int .i64 K, .int .i64 dr, .int .i64 dc, .int .i64 t, .int .i64 n] 64) (exO nd (.slice a len cap)) (exC nd0 (.slice none 0 0)) 29)
  have B0 := hide (step (step (step (Below.refl w.heap.size w) (.cells #[.int .i64 K, .int .i64 dr, .int .i64 dc, .int .i64 t, .int .i64 n] 64)) (exO nd (.slice a len cap))) (exO nd0 (.slice none 0 0)))
  have S0 : Hid ((((w.alloc (.cells #[.int .i64 K, .int .i64 dr, .int .i64 dc, .int .i64 t, .int .i64 n] 64)).alloc (exO nd (.slice a len cap))).alloc (exO nd0 (.slice none 0 0))).heap.size = w.heap.size + 1 + 1 + 1) := hide (by simp)
  obtain ⟨w0, hw0⟩ : ∃ w0, ((w.alloc (.cells #[.int .i64 K, .int .i64 dr, .int .i64 dc, .int .i64 t, .int .i64 n] 64)).alloc (exO nd (.slice a len cap))).alloc (.cells #[.int .i64 0, .int .i64 0, .int .i64 0, .string { data := #[] }, .int .i64 0, .int .i64 0, .bool false, .bool false, .int .i64 0, .int .i64 0, .bool false, .bool false, .int .i64 0, .slice none 0 0] 29) = w0 := ⟨_, rfl⟩
  replace MB : Hid (Blk w0 w.heap.size #[.int .i64 K, .int .i64 dr, .int .i64 dc, .int .i64 t, .int .i64 n] 64) := by rw [← hw0]; exact MB
  replace NB : Hid (Blk w0 (w.heap.size + 1) (exC nd (.slice a len cap)) 29) := by rw [← hw0]; exact NB
  replace RB : Hid (Blk w0 (w.heap.size + 1 + 1) (exC nd0 (.slice none 0 0)) 29) := by rw [← hw0]; exact RB
  replace B0 : Hid (Below w.heap.size w w0) := by rw [← hw0]; exact B0
  replace S0 : Hid (w0.heap.size = w.heap.size + 1 + 1 + 1) := by rw [← hw0]; exact S0
  have m0 := MB.out.at' 0
  have m1 := MB.out.at' 1
  have m2 := MB.out.at' 2
  have m3 := MB.out.at' 3
  have m4 := MB.out.at' 4
  simp at m0 m1 m2 m3 m4
  have z0 := (NB.out.at' 0).trans (at14 nd (.slice a len cap)).c0
  have hml : Hid ((ks.map (movE f)).length = ks.length) := hide (by simp)
  have hst : Hid (AlSt N w0 (ks.map (movE f)) 0 w0 (.slice none 0 0) []) := hide ⟨Below.refl _ _, ⟨rfl, .inl ⟨rfl, rfl⟩⟩, by rw [List.take_zero]; trivial⟩
  have hN0 : Hid (N ≤ w0.heap.size) := hide (by rw [S0.out]; omega)
  replace ih := hide ih
  replace hN := hide hN
  replace hsm := hide hsm
  clear ht hn hall hv hll
  go_enter Try.func36, Try.ntmps36
  go_wp2_with fail
  clear z0 m0 m1 m2 m3 m4 hw0 k5 k6
  go_loopw [5, 6] (fun l i wr => ∃ (k : Nat) (css : List (Array Value)) (la : Option Addr) (ll lc : Nat), k ≤ len ∧ l = .slice la ll lc ∧ i = .int .i64 k ∧ Hid (AlSt N w0 (ks.map (movE f)) k wr (.slice la ll lc) css)) (fun _ i _ => len - (intOf i).toNat)
  case atStart => exact ⟨0, [], none, 0, 0, Nat.zero_le _, rfl, rfl, hst⟩
  case round =>
    clear hst
    obtain ⟨k, css, la, ll, lc, hkl, rfl, rfl, HC⟩ := hrel
    have z13 := ((NB.out.keep HC.out.low).at' 13).trans c13
    by_cases hlt : k < len
    · have p0 : (k : Int) < (len : Int) := by omega
      have hk : k < ks.length := by have := hl.out; omega
      obtain ⟨b, o, rfl, hbN, hkd⟩ : ∃ b o, a = some ⟨b, o, none⟩ ∧ b < N ∧ Kids (· < N) w b o ks := by rcases hkid.out with h | h; omega; exact h
      obtain ⟨cs, hIk, hrk⟩ := hkd.get k hk
      obtain ⟨aa, kl, cc, rfl⟩ := hIk.cs
      have belw := hide (next B0.out HC.out.low)
      have R1 := range_of_block hrk (belw.out.block b (Nat.lt_of_lt_of_le hbN hN.out))
      obtain ⟨y0, y1, y2, y3, y4, y5, y6, y7, y8, y9, y10, y11, y12, y13⟩ := range14 R1
      have R2 : ∀ o', (wr.alloc o').rangeAt b (o + k * 14) (exC ks[k].nd (.slice aa kl cc)).toList := fun o' => range_of_block (w := wr) R1 (Below.heap_alloc wr o' b (Nat.lt_of_lt_of_le hbN (Nat.le_trans hN.out belw.out.size)))
      have u0 := fun o' => (range14 (R2 o')).1
      have u1 := fun o' => (range14 (R2 o')).2.1
      have u2 := fun o' => (range14 (R2 o')).2.2.1
      have u3 := fun o' => (range14 (R2 o')).2.2.2.1
      have u4 := fun o' => (range14 (R2 o')).2.2.2.2.1
      have u5 := fun o' => (range14 (R2 o')).2.2.2.2.2.1
      have u6 := fun o' => (range14 (R2 o')).2.2.2.2.2.2.1
      have u7 := fun o' => (range14 (R2 o')).2.2.2.2.2.2.2.1
      have u8 := fun o' => (range14 (R2 o')).2.2.2.2.2.2.2.2.1
      have u9 := fun o' => (range14 (R2 o')).2.2.2.2.2.2.2.2.2.1
      have u10 := fun o' => (range14 (R2 o')).2.2.2.2.2.2.2.2.2.2.1
      have u11 := fun o' => (range14 (R2 o')).2.2.2.2.2.2.2.2.2.2.2.1
      have u12 := fun o' => (range14 (R2 o')).2.2.2.2.2.2.2.2.2.2.2.2.1
      have u13 := fun o' => (range14 (R2 o')).2.2.2.2.2.2.2.2.2.2.2.2.2
      have MR := MB.out.keep HC.out.low
      have NR := NB.out.keep HC.out.low
      have m0 := MR.at' 0
      have m1 := MR.at' 1
      have m2 := MR.at' 2
      have m3 := MR.at' 3
      have m4 := MR.at' 4
      have q0 := fun o' => (Blk.alloc MR o').at' 0
      have q1 := fun o' => (Blk.alloc MR o').at' 1
      have q2 := fun o' => (Blk.alloc MR o').at' 2
      have q3 := fun o' => (Blk.alloc MR o').at' 3
      have q4 := fun o' => (Blk.alloc MR o').at' 4
      have q13 := fun o' => ((Blk.alloc NR o').at' 13).trans c13
      simp at m0 m1 m2 m3 m4 q0 q1 q2 q3 q4
      have D1 : Hid (Below w.heap.size w wr.drew) := hide belw.out.drew
      have D2 : Hid (Below w.heap.size w (wr.alloc (.cells #[.int .i64 0, .int .i64 0, .int .i64 0, .string { data := #[] }, .int .i64 0, .int .i64 0, .bool false, .bool false, .int .i64 0, .int .i64 0, .bool false, .bool false, .int .i64 0, .slice none 0 0] 29)).drew) := hide (step belw.out (.cells #[.int .i64 0, .int .i64 0, .int .i64 0, .string { data := #[] }, .int .i64 0, .int .i64 0, .bool false, .bool false, .int .i64 0, .int .i64 0, .bool false, .bool false, .int .i64 0, .slice none 0 0] 29)).drew
      have KZ : Hid (Blk (wr.alloc (.cells #[.int .i64 0, .int .i64 0, .int .i64 0, .string { data := #[] }, .int .i64 0, .int .i64 0, .bool false, .bool false, .int .i64 0, .int .i64 0, .bool false, .bool false, .int .i64 0, .slice none 0 0] 29)).drew wr.heap.size (exC nd0 (.slice none 0 0)) 29) := hide (Blk.new wr (exC nd0 (.slice none 0 0)) 29)
      have IH0 := hide (fun W (h : Below w.heap.size w W) => ih.out _ (List.getElem_mem hk) N _ W (hIk.low (h.mono hN.out)) (Nat.le_trans hN.out h.size) (hnk.out _ (List.getElem_mem hk)) (hak.out _ (List.getElem_mem hk)))
      have hcl : Hid (css.length < 1000000) := hide (by have := HC.out.kids.len; rw [this, List.length_take]; have := hle.out; have := hl.out; have := hml.out; omega)
      have hstep := hide (fun (w2 w3 : World) (n : Nd) (sa : Option Addr) (sl sc : Nat) (v' : Value) => HC.out.step (w2 := w2) (w3 := w3) (n := n) (sa := sa) (sl := sl) (sc := sc) (v' := v') hN0.out (by have := hml.out; omega))
      have hgm : (ks.map (movE f))[k]'(by have := hml.out; omega) = movE f ks[k] := by simp
      rw [hgm] at hstep
      have wk := IntWalk.wrap64_in ((k : Int) + 1) ⟨by omega, by have := hle.out; omega⟩
      generalize ks[k] = tk' at *
      obtain ⟨bn, bk', hbe⟩ : ∃ bn bk', movE f tk' = .mk bn bk' := by cases movE f tk'; exact ⟨_, _, rfl⟩
      have IH : Hid (∀ W, Below w.heap.size w W → Calls Try.prog 36 #[mvV K dr dc t n, lit14 tk'.nd (.slice aa kl cc)] W fun e w' => ∃ a len cap, e = .returned (exV bn (.slice a len cap)) ∧ In (OldN N W.heap.size w'.heap.size) w' (exV bn (.slice a len cap)) (.mk bn bk') ∧ Below W.heap.size W w') := hide (fun W h => by have := IH0.out W h; rw [hbe] at this; exact this)
      rw [hbe] at hstep
      clear IH0 hIk hrk hkd hgm hbe R1 R2 MR NR
      go_wp2_with fail
      go_region_with (first
        | (go_at_call 36; with_reducible refine (IH.out _ D1.out).mono ?_; rintro e w2 ⟨ak, lk, ck, rfl, hI, hb⟩; have hsn1 := run_putnew w2 bn ak lk ck)
        | (go_at_call 36; with_reducible refine (IH.out _ D2.out).mono ?_; rintro e w2 ⟨ak, lk, ck, rfl, hI, hb⟩; have KB2 := KZ.out.keep hb; have hsr2 := run_putrow bn ak lk ck KB2 rfl))
      all_goals clear m0 m1 m2 m3 m4 q0 q1 q2 q3 q4 q13 z13 y0 u0 y1 u1 y2 u2 y3 u3 y4 u4 y5 u5 y6 u6 y7 u7 y8 u8 y9 u9 y10 u10 y11 u11 y12 u12 y13 u13
      all_goals first
        | (have hq := hsn1
           have hb' : Below wr.heap.size wr w2 := ⟨hb.os, hb.tape, hb.output, hb.size, hb.block⟩
           obtain ⟨w2n, hw2n⟩ : ∃ w2n, w2n = w2.alloc (exO bn (.slice ak lk ck)) := ⟨_, rfl⟩
           have K2 : Hid (Blk w2n w2.heap.size (exC bn (.slice ak lk ck)) 29) := hide (by rw [hw2n]; exact Blk.new w2 _ _)
           have hb2 : Hid (Below wr.heap.size wr w2n) := hide (by rw [hw2n]; exact step hb' _)
           have hI2 : Hid (In (OldN N wr.heap.size w2n.heap.size) w2n (exV bn (.slice ak lk ck)) (.mk bn bk')) := hide (by
             rw [hw2n]
             refine hI.move (fun x hx => ⟨?_, Below.heap_alloc w2 _ x ?_⟩)
             · rcases hx with hx | hx
               · exact .inl hx
               · exact .inr ⟨hx.1, by have := hx.2; simp; omega⟩
             · have h1 := hb'.size
               have h2 := belw.out.size
               have h3 := hN.out
               rcases hx with hx | hx
               · omega
               · exact hx.2)
           rw [← hw2n]
           clear hw2n hq hsn1 hb hb' hI IH D1 D2 KZ
           have hrx : Hid (RowX (w2n.alloc (exO bn (.slice ak lk ck))) w0.heap.size (.slice la ll lc) css) := hide (owns_keep (w' := w2n.alloc (exO bn (.slice ak lk ck))) HC.out.row (fun x hx => by have := (owns_lt HC.out.row x hx).2; exact (step hb2.out (exO bn (.slice ak lk ck))).block x this))
           have hrg := hide (range_ex w2n bn (.slice ak lk ck))
           have hbs : Hid (w0.heap.size ≤ (w2n.alloc (exO bn (.slice ak lk ck))).heap.size) := hide (Nat.le_trans HC.out.low.size (step hb2.out (exO bn (.slice ak lk ck))).size)
           go_wp2_with (first
             | (refine wpList_load_blk rfl 29 _ rfl _ rfl _ (by with_reducible exact K2.out) _ Try.underlying29 rfl (exC_info _ _) ?_)
             | (refine Go.Great.wpList_buildSliceTo rfl 27 29 1 _ rfl w2n.heap.size (by simp) _ rfl Try.underlying27 (exC bn (.slice ak lk ck)) (by rw [Array.toList_map]; exact built1 _ _) ?_)
             | (at_builtin; refine wpList_appX (v := .slice la ll lc) (css := css) (n := bn) (sa := ak) (sl := lk) (sc := ck) rfl _ _ rfl rfl rfl hrx.out hrg.out hcl.out hbs.out ?_; intro v' w3 r1 r2 r3; obtain ⟨va, vl, vc, rfl⟩ := owns_shape9 r1; have hnx := hide (hstep.out _ _ _ _ _ _ _ hI2.out hb2.out r1 r2 r3); clear r1 r2 r3))
           refine ⟨⟨k + 1, _, _, _, _, hlt, rfl, by rw [wk]; rfl, hnx⟩, ?_⟩
           rw [wk]
           exact meas_lt hlt)
        | (have hq := hsr2
           have hb1 : Below wr.heap.size wr w2 := (step (Below.refl wr.heap.size wr) (.cells #[.int .i64 0, .int .i64 0, .int .i64 0, .string { data := #[] }, .int .i64 0, .int .i64 0, .bool false, .bool false, .int .i64 0, .int .i64 0, .bool false, .bool false, .int .i64 0, .slice none 0 0] 29)).trans (Below.mono (⟨hb.os, hb.tape, hb.output, hb.size, hb.block⟩ : Below (wr.alloc (.cells #[.int .i64 0, .int .i64 0, .int .i64 0, .string { data := #[] }, .int .i64 0, .int .i64 0, .bool false, .bool false, .int .i64 0, .int .i64 0, .bool false, .bool false, .int .i64 0, .slice none 0 0] 29)).heap.size (wr.alloc (.cells #[.int .i64 0, .int .i64 0, .int .i64 0, .string { data := #[] }, .int .i64 0, .int .i64 0, .bool false, .bool false, .int .i64 0, .int .i64 0, .bool false, .bool false, .int .i64 0, .slice none 0 0] 29)) w2) (by simp))
           obtain ⟨w2n, hw2n⟩ : ∃ w2n, w2n = w2.setRow wr.heap.size (exC bn (.slice ak lk ck)) := ⟨_, rfl⟩
           have K2 : Hid (Blk w2n wr.heap.size (exC bn (.slice ak lk ck)) 29) := hide (by rw [hw2n]; exact KB2.setRow)
           have hb2 : Hid (Below wr.heap.size wr w2n) := hide (by rw [hw2n]; exact below_setRow hb1 (Nat.le_refl _) _)
           have hI2 : Hid (In (OldN N wr.heap.size w2n.heap.size) w2n (exV bn (.slice ak lk ck)) (.mk bn bk')) := hide (by
             rw [hw2n]
             have hz : (wr.alloc (.cells #[.int .i64 0, .int .i64 0, .int .i64 0, .string { data := #[] }, .int .i64 0, .int .i64 0, .bool false, .bool false, .int .i64 0, .int .i64 0, .bool false, .bool false, .int .i64 0, .slice none 0 0] 29)).drew.heap.size = wr.heap.size + 1 := by show (wr.alloc (.cells #[.int .i64 0, .int .i64 0, .int .i64 0, .string { data := #[] }, .int .i64 0, .int .i64 0, .bool false, .bool false, .int .i64 0, .int .i64 0, .bool false, .bool false, .int .i64 0, .slice none 0 0] 29)).heap.size = _; simp
             refine hI.move (fun x hx => ⟨?_, setRow_other _ _ _ _ ?_⟩)
             · rcases hx with hx | hx
               · exact .inl hx
               · exact .inr ⟨by have := hx.1; rw [hz] at this; omega, by rw [size_setRow]; exact hx.2⟩
             · have h2 := belw.out.size
               have h3 := hN.out
               rcases hx with hx | hx
               · omega
               · have := hx.1; rw [hz] at this; omega)
           rw [← hw2n]
           clear hw2n hq hsr2 hb hb1 hI IH D1 D2 KZ KB2
           have hrx : Hid (RowX (w2n.alloc (exO bn (.slice ak lk ck))) w0.heap.size (.slice la ll lc) css) := hide (owns_keep (w' := w2n.alloc (exO bn (.slice ak lk ck))) HC.out.row (fun x hx => by have := (owns_lt HC.out.row x hx).2; exact (step hb2.out (exO bn (.slice ak lk ck))).block x this))
           have hrg := hide (range_ex w2n bn (.slice ak lk ck))
           have hbs : Hid (w0.heap.size ≤ (w2n.alloc (exO bn (.slice ak lk ck))).heap.size) := hide (Nat.le_trans HC.out.low.size (step hb2.out (exO bn (.slice ak lk ck))).size)
           go_wp2_with (first
             | (refine wpList_load_blk rfl 29 _ rfl _ rfl _ (by with_reducible exact K2.out) _ Try.underlying29 rfl (exC_info _ _) ?_)
             | (refine Go.Great.wpList_buildSliceTo rfl 27 29 1 _ rfl w2n.heap.size (by simp) _ rfl Try.underlying27 (exC bn (.slice ak lk ck)) (by rw [Array.toList_map]; exact built1 _ _) ?_)
             | (at_builtin; refine wpList_appX (v := .slice la ll lc) (css := css) (n := bn) (sa := ak) (sl := lk) (sc := ck) rfl _ _ rfl rfl rfl hrx.out hrg.out hcl.out hbs.out ?_; intro v' w3 r1 r2 r3; obtain ⟨va, vl, vc, rfl⟩ := owns_shape9 r1; have hnx := hide (hstep.out _ _ _ _ _ _ _ hI2.out hb2.out r1 r2 r3); clear r1 r2 r3))
           refine ⟨⟨k + 1, _, _, _, _, hlt, rfl, by rw [wk]; rfl, hnx⟩, ?_⟩
           rw [wk]
           exact meas_lt hlt)
    · obtain rfl : k = len := by omega
      have hk' : Hid (AlSt N w0 (ks.map (movE f)) (ks.map (movE f)).length wr (.slice la ll lc) css) := hide (by rw [hml.out, ← hl.out]; exact HC.out)
      obtain ⟨_, _, _, _, hIn, hwd⟩ := hk'.out.fin (w := w) (nd := nd) hsm.out (by rw [S0.out]; omega)
      have NR := hide (NB.out.keep HC.out.low)
      have RR := hide (RB.out.keep HC.out.low)
      have q1 := NR.out.fr 13
      have F1 : Blk (wr.setCell ⟨w.heap.size + 1, 13, none⟩ (.slice la ll lc)) (w.heap.size + 1) (exC nd (.slice la ll lc)) 29 := NR.out.set 13 _
      have F2 : Blk (wr.setCell ⟨w.heap.size + 1, 13, none⟩ (.slice la ll lc)) (w.heap.size + 1 + 1) (exC nd0 (.slice none 0 0)) 29 := blk_other RR.out (by omega)
      have hlow := next B0.out HC.out.low
      have hB : Hid (Below w.heap.size w ((wr.setCell ⟨w.heap.size + 1, 13, none⟩ (.slice la ll lc)).setRow (w.heap.size + 1 + 1) (exC nd (.slice la ll lc)))) := hide (below_setRow (hlow.setCell (p := ⟨w.heap.size + 1, 13, none⟩) (by simp) _) (by omega) _)
      have hIf : Hid (In (OldN N w.heap.size ((wr.setCell ⟨w.heap.size + 1, 13, none⟩ (.slice la ll lc)).setRow (w.heap.size + 1 + 1) (exC nd (.slice la ll lc))).heap.size) ((wr.setCell ⟨w.heap.size + 1, 13, none⟩ (.slice la ll lc)).setRow (w.heap.size + 1 + 1) (exC nd (.slice la ll lc))) (exV nd (.slice la ll lc)) (.mk nd (ks.map (movE f)))) := hide (alst_in hk'.out hsm.out S0.out hN.out)
      clear hIn hwd hlow
      go_wp2_with (first
        | (refine wpList_load_blk rfl 29 _ rfl _ rfl _ (by with_reducible exact F1) _ Try.underlying29 rfl (exC_info _ _) ?_)
        | (refine wpList_store_row rfl 29 _ _ rfl _ (exC nd (.slice la ll lc)) rfl rfl 29 _ F2 (exC_info _ _) (by rfl) (exC_one _ _ _ _) ?_))
      refine bodyPost_ret (v := exV nd (.slice la ll lc)) (results_cell_row Try.results36 _ _ (w.heap.size + 1 + 1) 29 (exC nd (.slice la ll lc)) (0, 0) _ rfl F2.setRow Try.underlying29 rfl (exC_info _ _)) rfl ?_
      exact ⟨_, _, _, rfl, hIf.out, hB.out⟩
theorem all_any {K dr dc t n : Int} {f : Mv} (hK : Mvd K dr dc t n f) : ∀ u, AllIs K dr dc t n f u := by
  refine Ex.ind fun nd ks ih => ?_
  intro N v w ht hN hn hall
  have hsm := In.sm _ ht
  obtain ⟨a, len, cap, rfl, hl, _, htx, _⟩ := ht.un
  obtain ⟨h1, h2⟩ := all_mk hall
  by_cases h5 : nd.kind = 5
  · obtain rfl : ks = [] := List.eq_nil_of_length_eq_zero (shape5 h1 h5).2.2
    obtain rfl : len = 0 := hl.out
    rw [movE, movL]
    exact all_5 hK nd a cap N w h1 h5 htx.out
  · by_cases h6 : nd.kind = 6
    · obtain rfl : ks = [] := List.eq_nil_of_length_eq_zero (shape6 h1 h6).2.2.2
      obtain rfl : len = 0 := hl.out
      rw [movE, movL]
      exact all_6 hK nd a cap N w h1 h6 htx.out
    · have hs2 := mov_sm f _ hall hsm
      rw [movE, movN_other f h1 h5 h6, movL_map] at hs2 ⊢
      exact all_loop nd ks ih N a len cap w ht hN hn h2 hs2 (by simp [h5]) (by simp [h6])
end Go.Proofs.Ytnikmbkkhfmbeaa
