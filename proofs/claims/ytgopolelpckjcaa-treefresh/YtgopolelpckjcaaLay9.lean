/- quadrillelaw9.Lay and marked: what they answer. -/
import Derived.Test.YtgopolelpckjcaaLyM9
namespace Go.Proofs.Ytgopolelpckjcaa
open Go.RowKit Go.Sort
set_option linter.unusedVariables false

/-- What Lay answers. -/
def LayP (w : World) (t : Ex) (e : Ending) (w' : World) : Prop := ∃ b bs, e = .returned (exV t.nd (.slice (some ⟨b, 0, none⟩) t.kids.length (t.kids.length + 1))) ∧ Ly w' (exV t.nd (.slice (some ⟨b, 0, none⟩) t.kids.length (t.kids.length + 1))) t bs ∧ bs.Nodup ∧ (∀ k ∈ bs, w.heap.size ≤ k ∧ k < w'.heap.size) ∧ Below w.heap.size w w'
abbrev LayIs (t : Ex) : Prop := ∀ (v : Value) (w : World), Tree w v t → nodesE t ≤ 512 → Calls Try.prog 9 #[v] w fun e w' => LayP w t e w'
set_option maxHeartbeats 2000000 in
set_option maxRecDepth 100000 in
theorem lay_any : ∀ t, LayIs t := by
  refine Ex.ind fun nd ks ih => ?_
  intro v w ht hn
  obtain ⟨a, len, cap, rfl, hl, _, _, _⟩ := ht.un
  obtain rfl : len = ks.length := hl.out
  have hK := ht.kidsAt
  have hle : Hid (ks.length ≤ 511) := hide (by have := len_nodes ks; rw [nodesE] at hn; omega)
  have hnk : Hid (∀ k ∈ ks, nodesE k ≤ 512) := hide (fun k hk => by have := nodes_mem hk; rw [nodesE] at hn; omega)
  have c13 := (at14 nd (.slice a ks.length cap)).c13
  have hB2 := hide (step (step (Below.refl w.heap.size w) (exO nd (.slice a ks.length cap))) (exO nd0 (.slice none 0 0)))
  have P0 := hide ((Blk.new w (exC nd (.slice a ks.length cap)) 29).alloc (exO nd0 (.slice none 0 0)))
  have P1 := hide (Blk.new1 w (exO nd (.slice a ks.length cap)) (exC nd0 (.slice none 0 0)) 29)
  have S2 : Hid (((w.alloc (exO nd (.slice a ks.length cap))).alloc (exO nd0 (.slice none 0 0))).heap.size = w.heap.size + 1 + 1) := hide (by simp)
  obtain ⟨i0, hi, hz0, hz1, hz2⟩ := info_parts info_ex
  replace hi := hide hi
  replace hz0 := hide hz0
  replace hz1 := hide hz1
  replace hz2 := hide hz2
  replace hK := hide hK
  replace ih := hide ih
  have q13 := (P0.out.at' 13).trans c13
  have wl := IntWalk.wrap64_in ((ks.length : Int) + 1) ⟨by omega, by have := hle.out; omega⟩
  clear ht hn hl
  go_enter Try.func9, Try.ntmps9
  go_wp2_with (first
    | (at_make; (refine wpList_make_own _ rfl _ _ 27 rfl (w.heap.size + 1 + 1) 29 i0 _ 14 Try.underlying27 hi.out hz0.out hz1.out _ _ _ (ks.length + 1) rfl rfl (by rw [wl]; rfl) ?m1 ?m2 ?m3 ?_)))
  case m1 => rw [hz2.out]; have := hle.out; omega
  case m2 => have := hle.out; unfold maxLen; omega
  case m3 => simp
  intro w1 ho hg
  have hst : Hid (LySt ((w.alloc (exO nd (.slice a ks.length cap))).alloc (exO nd0 (.slice none 0 0))) (w.heap.size + 1 + 1) (ks.length + 1) ks 0 w1 [] []) := hide ⟨⟨hg.os, hg.tape, hg.output, hg.size, fun x hx => hg.block x hx (by simp)⟩, by rw [S2.out]; exact ho, by rw [List.take_zero]; rfl, List.nodup_nil, fun x hx => by cases hx⟩
  clear ho hg q13 wl
  go_wp2_with fail
  go_loopw [3, 4] (fun l i wr => ∃ (k : Nat) (css : List (Array Value)) (bs : List Nat), k ≤ ks.length ∧ l = .slice (some ⟨w.heap.size + 1 + 1, 0, none⟩) k (ks.length + 1) ∧ i = .int .i64 k ∧ Hid (LySt ((w.alloc (exO nd (.slice a ks.length cap))).alloc (exO nd0 (.slice none 0 0))) (w.heap.size + 1 + 1) (ks.length + 1) ks k wr css bs)) (fun _ i _ => ks.length - (intOf i).toNat)
  case atStart => exact ⟨0, [], [], Nat.zero_le _, rfl, rfl, hst⟩
  case round =>
    clear hst
    obtain ⟨k, css, bs, hkl, rfl, rfl, HC⟩ := hrel
    have z13 := ((P0.out.keep HC.out.low).at' 13).trans c13
    by_cases hlt : k < ks.length
    · have p0 : (k : Int) < (ks.length : Int) := by omega
      obtain ⟨b, o, rfl, hk, aa, kl, cc, tk, rk⟩ := hK.out.get hlt
      have belw := hide (next hB2.out HC.out.low)
      have R1 := hide (range_of_block rk (belw.out.block b (World.block_lt_of_cell? w ⟨b, _, none⟩ (rk 0 _ rfl))))
      have IH := hide (ih.out _ (List.getElem_mem hk) _ wr (tk.step belw.out) (hnk.out _ (List.getElem_mem hk)))
      have hmore := hide (fun (w2 w3 : World) (n : Nd) (s : Value) (bk : List Nat) => HC.out.more (w2 := w2) (w3 := w3) (n := n) (s := s) (bk := bk) hk)
      have hown := hide (fun (w2 : World) (o : Obj) (hb : Below wr.heap.size wr w2) => owns_keep (w' := w2.alloc o) HC.out.row (fun x hx => by have := (owns_lt HC.out.row x hx).2; rw [Below.heap_alloc _ _ x (Nat.lt_of_lt_of_le this hb.size)]; exact hb.block x this))
      have wk := IntWalk.wrap64_in ((k : Int) + 1) ⟨by omega, by have := hle.out; omega⟩
      have hk1 : Hid (k < ks.length + 1) := hide (by omega)
      generalize ks[k] = tk' at *
      clear tk rk
      go_wp2_with (first
        | (refine wpList_load_at rfl 29 _ rfl _ _ rfl _ _ (by with_reducible exact R1.out) Try.underlying29 rfl (exC_info _ _) ?_)
        | (go_at_call 9; refine IH.out.mono ?_; rintro e w2 ⟨bk0, bks, rfl, hN, hNd, hNa, hb2⟩; have hrw := hide (hown.out w2 (exO tk'.nd (.slice (some ⟨bk0, 0, none⟩) tk'.kids.length (tk'.kids.length + 1))) hb2); have hrg := hide (range_ex w2 tk'.nd (.slice (some ⟨bk0, 0, none⟩) tk'.kids.length (tk'.kids.length + 1))); have hmk := hide (fun w3 => hmore.out w2 w3 _ _ bks hN hNd hNa hb2); clear hN hNd hNa hb2)
        | (refine Go.Great.wpList_buildSliceTo rfl 27 29 1 _ rfl w2.heap.size rfl _ rfl Try.underlying27 (exC tk'.nd (.slice (some ⟨bk0, 0, none⟩) tk'.kids.length (tk'.kids.length + 1))) (by rw [Array.toList_map]; exact built1 _ _) ?_)
        | (at_builtin; refine wpList_fitX (g := w.heap.size + 1 + 1) (k := k) (cap := ks.length + 1) (X := w2.heap.size) (n := tk'.nd) (sa := some ⟨bk0, 0, none⟩) (sl := tk'.kids.length) (sc := tk'.kids.length + 1) rfl _ _ rfl rfl rfl hrw.out hrg.out hk1.out ?_; intro w3 r1 r2; have hnx := hide (hmk.out w3 r1 r2); clear r1 r2))
      refine ⟨⟨k + 1, _, _, hlt, rfl, by rw [wk]; rfl, hnx⟩, ?_⟩
      rw [wk]
      exact meas_lt hlt
    · obtain rfl : k = ks.length := by omega
      have hrw := hide (owns_keep (w' := wr.alloc (exO (nd7 ks.length) (.slice none 0 0))) HC.out.row (fun x hx => Below.heap_alloc _ _ x (owns_lt HC.out.row x hx).2))
      have hrg := hide (range_ex wr (nd7 ks.length) (.slice none 0 0))
      have hk1 : Hid (ks.length < ks.length + 1) := hide (by omega)
      have hfin := hide (fun (w3 : World) => HC.out.fin (nd := nd) (w3 := w3))
      have wl := IntWalk.wrap64_in (ks.length : Int) ⟨by omega, by have := hle.out; omega⟩
      go_wp2_with (first
        | (refine Go.Great.wpList_buildSliceTo rfl 27 29 1 _ rfl wr.heap.size rfl _ rfl Try.underlying27 (exC (nd7 ks.length) (.slice none 0 0)) (by kernel_rfl) ?_)
        | (at_builtin; refine wpList_fitX (g := w.heap.size + 1 + 1) (k := ks.length) (cap := ks.length + 1) (X := wr.heap.size) (n := nd7 ks.length) (sa := none) (sl := 0) (sc := 0) rfl _ _ rfl rfl rfl hrw.out hrg.out hk1.out ?_; intro w3 r1 r2; obtain ⟨hLy, hNd, hNa, hlow⟩ := hfin.out w3 r1 r2; have z3 := ((P0.out.keep hlow).at' 13).trans c13; have f3 := (P0.out.keep hlow).fr 13; have hgt : ∀ x ∈ (w.heap.size + 1 + 1) :: bs, w.heap.size + 1 < x := (fun x hx => by have := (hNa x hx).1; rw [S2.out] at this; omega); obtain ⟨F1, F2, F3, F4, F5⟩ := cp_fin (next hB2.out hlow) (P0.out.keep hlow) (P1.out.keep hlow) (⟨Ly.ow _ hLy, hNd, fun x hx => ⟨by have := hgt x hx; omega, (hNa x hx).2⟩⟩ : New w w3 (exV nd (.slice (some ⟨w.heap.size + 1 + 1, 0, none⟩) ks.length (ks.length + 1))) (.mk nd ks) ((w.heap.size + 1 + 1) :: bs)) hgt; replace F4 := hide F4; replace F5 := hide F5; replace hLy := hide hLy; replace hNd := hide hNd; replace hgt := hide hgt; clear r1 r2 hNa)
        | (refine wpList_load_blk rfl 29 _ rfl _ rfl _ (by with_reducible exact F1) _ Try.underlying29 rfl (exC_info _ _) ?_)
        | (refine wpList_store_row rfl 29 _ _ rfl _ (exC nd (.slice (some ⟨w.heap.size + 1 + 1, 0, none⟩) ks.length (ks.length + 1))) rfl rfl 29 _ F2 (exC_info _ _) (by rfl) (exC_one _ _ _ _) ?_))
      refine bodyPost_ret (v := exV nd (.slice (some ⟨w.heap.size + 1 + 1, 0, none⟩) ks.length (ks.length + 1))) (results_cell_row Try.results9 _ _ (w.heap.size + 1) 29 (exC nd (.slice (some ⟨w.heap.size + 1 + 1, 0, none⟩) ks.length (ks.length + 1))) (0, 0) _ rfl F3 Try.underlying29 rfl (exC_info _ _)) rfl ?_
      exact ⟨_, _, rfl, hLy.out.move _ (fun x hx => (setRow_other _ _ _ _ (by have := hgt.out x hx; omega)).trans (Below.heap_setCell _ _ _ _ (by have := hgt.out x hx; show x ≠ w.heap.size; omega))), hNd.out, F4.out.at', F5.out⟩
abbrev MarkIs (t : Ex) : Prop := ∀ (v : Value) (w : World) (bs : List Nat), Ly w v t bs → (∀ x ∈ bs, x < w.heap.size) → nodesE t ≤ 512 → Calls Try.prog 36 #[v] w fun e w' => e = .returned (.bool true) ∧ Below w.heap.size w w'
set_option maxHeartbeats 2000000 in
set_option maxRecDepth 100000 in
theorem marked_any : ∀ t, MarkIs t := by
  refine Ex.ind fun nd ks ih => ?_
  intro v w bs ho hlt hn
  obtain ⟨b, cells, bs', rfl, rfl, hc, hz, hmx, hr, hk⟩ := ho.un
  have hle : Hid (ks.length ≤ 511) := hide (by have := len_nodes ks; rw [nodesE] at hn; omega)
  have hnk : Hid (∀ k ∈ ks, nodesE k ≤ 512) := hide (fun k hk => by have := nodes_mem hk; rw [nodesE] at hn; omega)
  have c13 := (at14 nd (.slice (some ⟨b, 0, none⟩) ks.length (ks.length + 1))).c13
  have P0 := hide (Blk.new w (exC nd (.slice (some ⟨b, 0, none⟩) ks.length (ks.length + 1))) 29)
  have B0 := hide (step (Below.refl w.heap.size w) (exO nd (.slice (some ⟨b, 0, none⟩) ks.length (ks.length + 1))))
  have R0 := hide (range_of_block hr (B0.out.block b (hlt b (List.mem_cons_self ..))))
  have hsn := run_putnew (w.alloc (exO nd (.slice (some ⟨b, 0, none⟩) ks.length (ks.length + 1)))) (nd7 ks.length) none 0 0
  rw [World.size_alloc] at hsn
  have X1 := hide (Blk.new1 w (exO nd (.slice (some ⟨b, 0, none⟩) ks.length (ks.length + 1))) (exC (nd7 ks.length) (.slice none 0 0)) 29)
  have x0 := (X1.out.at' 0).trans (at14 (nd7 ks.length) (.slice none 0 0)).c0
  have x2 := (X1.out.at' 2).trans (at14 (nd7 ks.length) (.slice none 0 0)).c2
  have x13 := (X1.out.at' 13).trans (at14 (nd7 ks.length) (.slice none 0 0)).c13
  have q13 := (P0.out.at' 13).trans c13
  have wl := IntWalk.wrap64_in ((ks.length : Int) + 1) ⟨by omega, by have := hle.out; omega⟩
  have p1 : ((ks.length + 1 : Nat) : Int) = (ks.length : Int) + 1 := by omega
  replace hk := hide hk
  replace hlt := hide hlt
  replace ih := hide ih
  clear hr hc hz hmx ho hn
  go_enter Try.func36, Try.ntmps36
  go_wp2_with (first
    | (refine wpList_load_at rfl 29 _ rfl _ _ rfl _ _ (by with_reducible exact R0.out) Try.underlying29 rfl (exC_info _ _) ?_))
  have B1 : Hid (Below w.heap.size w ((w.alloc (exO nd (.slice (some ⟨b, 0, none⟩) ks.length (ks.length + 1)))).alloc (exO (nd7 ks.length) (.slice none 0 0)))) := hide (step B0.out _)
  have P1 : Hid (Blk ((w.alloc (exO nd (.slice (some ⟨b, 0, none⟩) ks.length (ks.length + 1)))).alloc (exO (nd7 ks.length) (.slice none 0 0))) w.heap.size (exC nd (.slice (some ⟨b, 0, none⟩) ks.length (ks.length + 1))) 29) := hide (P0.out.alloc _)
  clear x0 x2 x13 q13 hsn wl p1 X1 R0
  go_loopw [5] (fun i wr => ∃ (k : Nat), k ≤ ks.length ∧ i = .int .i64 k ∧ Hid (Below ((w.alloc (exO nd (.slice (some ⟨b, 0, none⟩) ks.length (ks.length + 1)))).alloc (exO (nd7 ks.length) (.slice none 0 0))).heap.size ((w.alloc (exO nd (.slice (some ⟨b, 0, none⟩) ks.length (ks.length + 1)))).alloc (exO (nd7 ks.length) (.slice none 0 0))) wr)) (fun i _ => ks.length - (intOf i).toNat)
  case atStart => exact ⟨0, Nat.zero_le _, rfl, Below.refl _ _⟩
  case round =>
    obtain ⟨k, hkl, rfl, HB⟩ := hrel
    have z13 := ((P1.out.keep HB.out).at' 13).trans c13
    by_cases hlt' : k < ks.length
    · have p0 : (k : Int) < (ks.length : Int) := by omega
      obtain ⟨cs, b1, hsub, hLy, hrk⟩ := hk.out.get k hlt'
      have bw := hide (next B1.out HB.out)
      have hl1 : ∀ x ∈ b1, x < w.heap.size := fun x hx => hlt.out x (List.mem_cons_of_mem _ (hsub x hx))
      have R1 := hide (range_of_block hrk (bw.out.block b (hlt.out b (List.mem_cons_self ..))))
      obtain ⟨aa, al, ac, rfl⟩ := hLy.cs
      have IH := hide (ih.out _ (List.getElem_mem hlt') _ wr b1 (hLy.move _ (fun x hx => bw.out.block x (hl1 x hx))) (fun x hx => Nat.lt_of_lt_of_le (hl1 x hx) bw.out.size) (hnk.out _ (List.getElem_mem hlt')))
      have wk := IntWalk.wrap64_in ((k : Int) + 1) ⟨by omega, by have := hle.out; omega⟩
      rw [Nat.zero_add] at R1
      generalize ks[k] = tk' at *
      clear hLy hrk hl1 hsub
      go_wp2_with (first
        | (refine wpList_load_at rfl 29 _ rfl _ _ rfl _ _ (by with_reducible exact R1.out) Try.underlying29 rfl (exC_info _ _) ?_)
        | (go_at_call 36; refine IH.out.mono ?_; rintro e w4 ⟨rfl, hb4⟩; have b4 := hide (next HB.out hb4); clear hb4))
      refine ⟨⟨k + 1, hlt', by rw [wk]; rfl, b4⟩, ?_⟩
      rw [wk]
      exact meas_lt hlt'
    · obtain rfl : k = ks.length := by omega
      go_wp2_with fail
      go_ret
      exact ⟨rfl, next B1.out HB.out⟩
end Go.Proofs.Ytgopolelpckjcaa
