/- quadrilleref9.Own: a tree in memory of its own, its lists grown one by one. -/
import Derived.Test.YtgopolelpckjcaaROwn9
namespace Go.Proofs.Ytgopolelpckjcaa
open Go.RowKit Go.Sort
set_option linter.unusedVariables false

abbrev OwnIs (t : Ex) : Prop := ∀ (v : Value) (w : World), Tree w v t → nodesE t ≤ 512 → Calls Try.prog 39 #[v] w fun e w' => OwnP w t e w'
theorem meas_lt9 {len k : Nat} (h : k < len) : len - (intOf (.int .i64 ((k : Int) + 1))).toNat < len - (intOf (.int .i64 (k : Int))).toNat := by
  show len - ((k : Int) + 1).toNat < len - (k : Int).toNat
  omega
theorem range_ex (w : World) (n : Nd) (s : Value) : (w.alloc (exO n s)).rangeAt w.heap.size 0 (exC n s).toList := World.rangeAt_of_block (Blk.new w (exC n s) 29) 0 14
theorem onst_end {w w1 : World} {nd : Nd} {ks : List Ex} {len : Nat} {wr : World} {v : Value} {css : List (Array Value)} {bs : List Nat} (h1 : w1.heap.size = w.heap.size + 1 + 1) (hl : len = ks.length) (h : OnSt w1 ks len wr v css bs) :
    New w wr (exV nd v) (.mk nd ks) (v.ownBlock.toList ++ bs) ∧ ∀ k ∈ v.ownBlock.toList ++ bs, w.heap.size + 1 < k := by
  have hk := h.kids
  rw [List.take_of_length_le (by omega)] at hk
  obtain ⟨a, l, c, rfl, ho⟩ := tree_row (nd := nd) h.row hk
  have hown := owns_lt h.row
  have hall : ∀ x ∈ (Value.slice a l c).ownBlock.toList ++ bs, w1.heap.size ≤ x ∧ x < wr.heap.size := fun x hx => by
    rcases List.mem_append.1 hx with hx | hx
    · exact hown x (by simpa using hx)
    · have := h.new x hx; exact ⟨this.1, this.2.1⟩
  refine ⟨⟨ho, ?_, fun x hx => ?_⟩, fun x hx => ?_⟩
  · refine List.nodup_append.2 ⟨?_, h.nd, fun x hx y hy e => ?_⟩
    · cases (Value.slice a l c).ownBlock <;> simp
    · subst e
      exact (h.new x hy).2.2 (by simpa using hx)
  · have := hall x hx; exact ⟨by omega, this.2⟩
  · have := hall x hx; omega
set_option maxHeartbeats 800000 in
set_option maxRecDepth 100000 in
theorem rown_any : ∀ t, OwnIs t := by
  refine Ex.ind fun nd ks ih => ?_
  intro v w ht hn
  obtain ⟨a, len, cap, rfl, _, _, _, _⟩ := ht.un
  have hK := ht.kidsAt
  have hlen := hide hK.lq
  have hle : len ≤ 511 := by have := hlen.out; have := len_nodes ks; rw [nodesE] at hn; omega
  have hnk : ∀ k ∈ ks, nodesE k ≤ 512 := fun k hk => by have := nodes_mem hk; rw [nodesE] at hn; omega
  have c13 := (at14 nd (.slice a len cap)).c13
  have hB2 := hide (step (step (Below.refl w.heap.size w) (exO nd (.slice a len cap))) (exO nd0 (.slice none 0 0)))
  have P0 := hide ((Blk.new w (exC nd (.slice a len cap)) 29).alloc (exO nd0 (.slice none 0 0)))
  have P1 := hide (Blk.new1 w (exO nd (.slice a len cap)) (exC nd0 (.slice none 0 0)) 29)
  have S2 : Hid (((w.alloc (exO nd (.slice a len cap))).alloc (exO nd0 (.slice none 0 0))).heap.size = w.heap.size + 1 + 1) := hide (by simp)
  have hst : OnSt ((w.alloc (exO nd (.slice a len cap))).alloc (exO nd0 (.slice none 0 0))) ks 0 ((w.alloc (exO nd (.slice a len cap))).alloc (exO nd0 (.slice none 0 0))) (.slice none 0 0) [] [] := ⟨Below.refl _ _, ⟨rfl, .inl ⟨rfl, rfl⟩⟩, rfl, List.nodup_nil, fun x hx => by cases hx⟩
  replace hst := hide hst
  replace hK := hide hK
  replace ih := hide ih
  replace hnk := hide hnk
  replace hle := hide hle
  clear ht hn
  go_enter Try.func39, Try.ntmps39
  go_wp2_with fail
  go_loopw [3, 4] (fun l i wr => ∃ (k : Nat) (css : List (Array Value)) (bs : List Nat) (la : Option Addr) (ll lc : Nat), k ≤ len ∧ l = .slice la ll lc ∧ i = .int .i64 k ∧ Hid (OnSt ((w.alloc (exO nd (.slice a len cap))).alloc (exO nd0 (.slice none 0 0))) ks k wr (.slice la ll lc) css bs)) (fun _ i _ => len - (intOf i).toNat)
  case atStart => exact ⟨0, [], [], none, 0, 0, Nat.zero_le _, rfl, rfl, hst⟩
  case round =>
    obtain ⟨k, css, bs, la, ll, lc, hkl, rfl, rfl, HC⟩ := hrel
    have z13 := ((P0.out.keep HC.out.low).at' 13).trans c13
    by_cases hlt : k < len
    · have p0 : (k : Int) < (len : Int) := by omega
      obtain ⟨b, o, rfl, hk, aa, kl, cc, tk, rk⟩ := hK.out.get hlt
      have belw := hide (next hB2.out HC.out.low)
      have R1 := hide (range_of_block rk (belw.out.block b (World.block_lt_of_cell? w ⟨b, _, none⟩ (rk 0 _ rfl))))
      have IH := hide (ih.out _ (List.getElem_mem hk) _ wr (tk.step belw.out) (hnk.out _ (List.getElem_mem hk)))
      have hcl : Hid (css.length < 1000000) := hide (by have := HC.out.kids.len.1; rw [this, List.length_take]; have := hle.out; have := hlen.out; omega)
      have hstep := hide (fun (w2 w3 : World) (n : Nd) (sa : Option Addr) (sl sc : Nat) (bk : List Nat) (v' : Value) => HC.out.step (w2 := w2) (w3 := w3) (n := n) (sa := sa) (sl := sl) (sc := sc) (bk := bk) (v' := v') hk)
      generalize ks[k] = tk' at *
      have wk := IntWalk.wrap64_in ((k : Int) + 1) ⟨by omega, by have := hle.out; omega⟩
      clear tk rk
      go_wp2_with (first
        | (refine wpList_load_at rfl 29 _ rfl _ _ rfl _ _ (by with_reducible exact R1.out) Try.underlying29 rfl (exC_info _ _) ?_))
      rename_i K Q' hK'
      refine IH.out.mono ?_
      rintro e w2 ⟨ak, lk, ck, bk, rfl, hN, hb2, _⟩
      dsimp only
      refine hK' _ _ ?_
      refine Go.Great.wpList_buildSliceTo rfl 27 29 1 _ rfl w2.heap.size rfl _ rfl Try.underlying27 (exC tk'.nd (.slice ak lk ck)) ?hf ?_
      case hf => 
        rw [Array.toList_map]
        exact built1 _ _
      have hrx : RowX (w2.alloc (exO tk'.nd (.slice ak lk ck))) ((w.alloc (exO nd (.slice (some ⟨b, o, none⟩) len cap))).alloc (exO nd0 (.slice none 0 0))).heap.size (.slice la ll lc) css := owns_keep (w' := w2.alloc (exO tk'.nd (.slice ak lk ck))) HC.out.row (fun x hx => by have := (owns_lt HC.out.row x hx).2; rw [Below.heap_alloc _ _ x (Nat.lt_of_lt_of_le this hb2.size)]; exact hb2.block x this)
      have hrg := range_ex w2 tk'.nd (.slice ak lk ck)
      have hbs : ((w.alloc (exO nd (.slice (some ⟨b, o, none⟩) len cap))).alloc (exO nd0 (.slice none 0 0))).heap.size ≤ (w2.alloc (exO tk'.nd (.slice ak lk ck))).heap.size := Nat.le_trans HC.out.low.size (Nat.le_trans hb2.size (by simp))
      refine wpList_appX (v := .slice la ll lc) (css := css) (n := tk'.nd) (sa := ak) (sl := lk) (sc := ck) rfl _ _ rfl rfl rfl hrx hrg hcl.out hbs ?_
      intro v' w3 r1 r2 r3
      obtain ⟨va, vl, vc, rfl⟩ := owns_shape9 r1
      have hnx := hide (hstep.out _ _ _ _ _ _ _ _ hN hb2 r1 r2 r3)
      clear r1 r2 r3 hrx hrg hbs hN hb2
      go_wp2_with fail
      refine ⟨⟨k + 1, _, _, _, _, _, hlt, rfl, by rw [wk]; rfl, hnx⟩, ?_⟩
      rw [wk]
      exact meas_lt9 hlt
    · obtain rfl : k = len := by omega
      obtain ⟨hN, hgt⟩ := onst_end (nd := nd) S2.out hlen.out HC.out
      obtain ⟨F1, F2, F3, F4, F5⟩ := cp_fin (next hB2.out HC.out.low) (P0.out.keep HC.out.low) (P1.out.keep HC.out.low) hN hgt
      have q1 := (P0.out.keep HC.out.low).fr 13
      have F6 : Hid (OwnR w ((wr.setCell ⟨w.heap.size, 13, none⟩ (.slice la ll lc)).setRow (w.heap.size + 1) (exC nd (.slice la ll lc))) (.slice la ll lc) ks ((Value.slice la ll lc).ownBlock.toList ++ bs)) := hide (by
        have hk := HC.out.kids
        rw [List.take_of_length_le (by have := hlen.out; omega)] at hk
        exact OwnR.keep (w' := wr) ⟨css, bs, owns_base HC.out.row (by rw [S2.out]; omega), hk, rfl⟩ (fun k hk => (setRow_other _ _ _ _ (by have := hgt k hk; omega)).trans (Below.heap_setCell _ _ _ _ (by have := hgt k hk; show k ≠ w.heap.size; omega))))
      replace F4 := hide F4
      replace F5 := hide F5
      clear hN hgt
      go_wp2_with (first
        | (refine wpList_load_blk rfl 29 _ rfl _ rfl _ (by with_reducible exact F1) _ Try.underlying29 rfl (exC_info _ _) ?_)
        | (refine wpList_store_row rfl 29 _ _ rfl _ (exC nd (.slice la ll lc)) rfl rfl 29 _ F2 (exC_info _ _) (by rfl) (exC_one _ _ _ _) ?_))
      refine bodyPost_ret (v := exV nd (.slice la ll lc)) (results_cell_row Try.results39 _ _ (w.heap.size + 1) 29 (exC nd (.slice la ll lc)) (0, 0) _ rfl F3 Try.underlying29 rfl (exC_info _ _)) rfl ?_
      exact ⟨_, _, _, _, rfl, F4.out, F5.out, F6.out⟩
end Go.Proofs.Ytgopolelpckjcaa
