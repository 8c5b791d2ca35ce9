/- tree.Copy's closure: a tree in memory of its own. -/
import Derived.Test.YtiajoppbgebnpaaOwn9
namespace Go.Proofs.Ytiajoppbgebnpaa
open Go.RowKit Go.Sort
set_option linter.unusedVariables false

theorem heap_setCells (b : Nat) : ∀ (vs : List Value) (o : Nat) (w : World) (k : Nat), k ≠ b → (w.setCells b o vs).heap[k]? = w.heap[k]?
  | [], _, _, _, _ => rfl
  | v :: r, o, w, k, h => by rw [World.setCells, heap_setCells b r (o + 1) _ k h]; exact Below.heap_setCell _ _ _ k h
theorem size_setCells (b : Nat) : ∀ (vs : List Value) (o : Nat) (w : World), (w.setCells b o vs).heap.size = w.heap.size
  | [], _, _ => rfl
  | v :: r, o, w => by rw [World.setCells, size_setCells b r (o + 1)]; simp
theorem os_setCells (b : Nat) : ∀ (vs : List Value) (o : Nat) (w : World), (w.setCells b o vs).os = w.os ∧ (w.setCells b o vs).tape = w.tape ∧ (w.setCells b o vs).output = w.output
  | [], _, _ => ⟨rfl, rfl, rfl⟩
  | v :: r, o, w => by rw [World.setCells]; obtain ⟨h1, h2, h3⟩ := os_setCells b r (o + 1) (w.setCell ⟨b, o, none⟩ v); exact ⟨h1.trans rfl, h2.trans rfl, h3.trans rfl⟩
theorem row_setCells (b : Nat) (t : TypeId) : ∀ (vs : List Value) (o : Nat) (w : World) (cs : Array Value), w.heap[b]? = some (.cells cs t (0, 0)) → ∃ cs', (w.setCells b o vs).heap[b]? = some (.cells cs' t (0, 0)) ∧ cs'.size = cs.size
  | [], _, w, cs, h => ⟨cs, h, rfl⟩
  | v :: r, o, w, cs, h => by
    rw [World.setCells]
    obtain ⟨cs', h1, h2⟩ := row_setCells b t r (o + 1) _ _ (heap_setCell_same w b o cs t v h)
    exact ⟨cs', h1, by rw [h2]; simp⟩
theorem chg_setCells {m : Nat → Prop} {b : Nat} (hm : m b) (vs : List Value) (o : Nat) (w : World) : Chg m w (w.setCells b o vs) := by
  obtain ⟨h1, h2, h3⟩ := os_setCells b vs o w
  exact ⟨h1, h2, h3, Nat.le_of_eq (size_setCells b vs o w).symm, fun k _ hk => heap_setCells b vs o w k (fun e => hk (by rw [e]; exact hm))⟩
theorem below_setCells {B : Nat} {a w : World} (h : Below B a w) {b : Nat} (hb : B ≤ b) (vs : List Value) (o : Nat) : Below B a (w.setCells b o vs) := by
  obtain ⟨h1, h2, h3⟩ := os_setCells b vs o w
  exact ⟨h1.trans h.os, h2.trans h.tape, h3.trans h.output, by rw [size_setCells]; exact h.size, fun k hk => (heap_setCells b vs o w k (by omega)).trans (h.block k hk)⟩
theorem there_of_row {w : World} {b : Nat} {cs : Array Value} {t : TypeId} (h : w.heap[b]? = some (.cells cs t (0, 0))) {o n : Nat} (hn : o + n ≤ cs.size) : w.there b o n := fun j hj => by
  refine ⟨?_, frozen_of_row w b _ cs t h⟩
  rw [cell_of_row w b (o + j) cs t (0, 0) h, Array.getElem?_eq_getElem (by omega)]
  rfl
theorem run_put {P : Program} {w : World} {b o : Nat} (n : Nd) (a : Option Addr) (l c : Nat) (h : w.there b o 14) : (storeCells ⟨b, o, none⟩ (exC n (.slice a l c)).toList).run P w = .ok () (w.setCells b o (exC n (.slice a l c)).toList) := by
  have := run_storeCells_cells (P := P) b o (exC n (.slice a l c)).toList 0 w (fun j hj => (h j (by rw [exC_len] at hj; exact hj)).1) (fun j hj => (h j (by rw [exC_len] at hj; exact hj)).2)
    (fun v hv => (Array.all_eq_true_iff_forall_mem.1 (exC_one n a l c)) v (by simpa using hv))
  exact this
theorem run_putnew (w : World) (n : Nd) (a : Option Addr) (l c : Nat) : (storeCells ⟨w.heap.size, 0, none⟩ (exC n (.slice a l c)).toList).run Try.prog (w.alloc (.cells #[.int .i64 0, .int .i64 0, .int .i64 0, .string { data := #[] }, .int .i64 0, .int .i64 0, .bool false, .bool false, .int .i64 0, .int .i64 0, .bool false, .bool false, .int .i64 0, .slice none 0 0] 37)) = .ok () (w.alloc (exO n (.slice a l c))) :=
  run_storeCells_new w 37 _ _ (exC_info _ _) (by rfl) (exC_one _ _ _ _)
theorem len_nodes : ∀ ks : List Ex, ks.length ≤ nodesL ks
  | [] => by simp [nodesL]
  | k :: r => by rw [nodesL]; have := len_nodes r; have := nodes_pos k; simp only [List.length_cons]; omega
theorem nodes_mem : ∀ {ks : List Ex} {k : Ex}, k ∈ ks → nodesE k ≤ nodesL ks
  | [], k, h => by cases h
  | x :: r, k, h => by
    rw [nodesL]
    rcases List.mem_cons.1 h with rfl | h
    · omega
    · have := nodes_mem h; omega
/-- What the going over leaves: the row, and the copies of the first ones. -/
structure CpSt (w : World) (R len : Nat) (ks : List Ex) (k : Nat) (wr : World) (bs : List Nat) : Prop where
  low : Below (w.heap.size) w wr
  row : ∃ cells, wr.heap[R]? = some (.cells cells 37 (0, 0)) ∧ cells.size = len * 14
  lt : R < wr.heap.size
  at' : w.heap.size ≤ R
  ow : OwL wr R 0 (ks.take k) bs
  nd : bs.Nodup
  new : ∀ x ∈ bs, R < x ∧ x < wr.heap.size
/-- One more kid is copied and stored. -/
theorem CpSt.step {w : World} {R len : Nat} {ks : List Ex} {k : Nat} {wr : World} {bs : List Nat} (h : CpSt w R len ks k wr bs) (hlen : len = ks.length) (hk : k < ks.length) (o : Obj) {w2 : World} {cs : Array Value} {bk : List Nat}
    (hN : New (wr.alloc o) w2 (.agg cs) ks[k] bk) (hb : Below (wr.alloc o).heap.size (wr.alloc o) w2) : CpSt w R len ks (k + 1) (w2.setCells R (k * 14) cs.toList) (bs ++ bk) := by
  obtain ⟨cells, hrow, hz⟩ := h.row
  have hal : (wr.alloc o).heap.size = wr.heap.size + 1 := by simp
  have hlow2 : Below (w.heap.size) w w2 := by
    have h1 := h.low.alloc (by have := h.lt; have := h.at'; omega) o
    exact h1.trans (hb.mono (by have := h.lt; have := h.at'; omega))
  have hkeep : ∀ x, x < wr.heap.size → w2.heap[x]? = wr.heap[x]? := fun x hx => (hb.block x (by omega)).trans (Below.heap_alloc wr o x hx)
  have hrow2 : w2.heap[R]? = some (.cells cells 37 (0, 0)) := (hkeep R h.lt).trans hrow
  obtain ⟨aa, ll, cc, rfl⟩ := hN.ow.cs
  have hth : w2.there R (k * 14) 14 := there_of_row hrow2 (by rw [hz, hlen]; omega)
  obtain ⟨cells', hr', hz'⟩ := row_setCells R 37 (exC ks[k].nd (.slice aa ll cc)).toList (k * 14) w2 cells hrow2
  have hsz := size_setCells R (exC ks[k].nd (.slice aa ll cc)).toList (k * 14) w2
  have hl2 : wr.heap.size + 1 ≤ w2.heap.size := by rw [← hal]; exact hb.size
  have hbk : ∀ x ∈ bk, wr.heap.size + 1 ≤ x ∧ x < w2.heap.size := fun x hx => by rw [← hal]; exact hN.at' x hx
  refine ⟨below_setCells hlow2 h.at' _ _, ⟨cells', hr', by rw [hz', hz]⟩, by rw [hsz]; have := h.lt; omega, h.at', ?_, ?_, ?_⟩
  · have ho : OwL w2 R 0 (ks.take k) bs := h.ow.move _ (fun x hx => hkeep x (h.new x hx).2) (fun j => World.cell?_of_block (hkeep R h.lt))
    have htk : (ks.take k).length = k := by simp; omega
    have ho' : OwL (w2.setCells R (k * 14) (exC ks[k].nd (.slice aa ll cc)).toList) R 0 (ks.take k) bs := ho.move' _ (fun x hx => heap_setCells R _ _ w2 x (by have := (h.new x hx).1; omega)) (fun j v hj hv => by
      rw [World.cell?_setCells_out R _ _ w2 ⟨R, j, none⟩ (fun _ _ => .inl (by show j < k * 14; rw [htk] at hj; omega))]
      exact hv)
    rw [List.take_succ_eq_append_getElem hk]
    refine OwL.snoc _ ho' (hN.ow.move _ (fun x hx => heap_setCells R _ _ w2 x (by have := (hbk x hx).1; have := h.lt; omega))) ?_
    rw [htk, Nat.zero_add]
    exact World.rangeAt_setCells_same w2 R (k * 14) _ (by rw [exC_len]; exact hth)
  · exact List.nodup_append.2 ⟨h.nd, hN.nd, fun x hx y hy e => by have := (h.new x hx).2; have := (hbk y hy).1; omega⟩
  · intro x hx
    rw [hsz]
    rcases List.mem_append.1 hx with hx | hx
    · have := h.new x hx; omega
    · have := hbk x hx; have := h.lt; omega
theorem CpSt.thereR {w : World} {R len : Nat} {ks : List Ex} {k : Nat} {wr : World} {bs : List Nat} (h : CpSt w R len ks k wr bs) (hk : k < len) (o : Obj) {w2 : World} (hb : Below (wr.alloc o).heap.size (wr.alloc o) w2) : w2.there R (k * 14) 14 := by
  obtain ⟨cells, hrow, hz⟩ := h.row
  have hlt := h.lt
  exact there_of_row (((hb.block R (by simp; omega)).trans (Below.heap_alloc wr o R hlt)).trans hrow) (by rw [hz]; omega)
theorem cp_start {w2 w1 : World} {len : Nat} {ks : List Ex} {xs : List Value} (ho : w1.ownsRow w2.heap.size 37 14 (.slice (some ⟨w2.heap.size, 0, none⟩) len len) len xs) (hg : w2.grownBy w1 none) (hpos : 0 < len) : CpSt w2 w2.heap.size len ks 0 w1 [] := by
  rcases ho.2 with ⟨h, _⟩ | ⟨g, cap, cur, hv, _, hr, _, _, hz, _⟩
  · cases h
  · simp only [Value.slice.injEq, Option.some.injEq, Addr.mk.injEq, true_and] at hv
    obtain ⟨⟨rfl, _⟩, rfl⟩ := hv
    refine ⟨⟨hg.os, hg.tape, hg.output, hg.size, fun k hk => hg.block k hk (by simp)⟩, ⟨cur, hr, hz⟩, (Array.getElem?_eq_some_iff.1 hr).1, Nat.le_refl _, ?_, List.nodup_nil, fun x hx => by cases hx⟩
    rw [List.take_zero]
    unfold OwL
    rfl
abbrev cpV (B : Nat) : Value := .func (.func 52) #[] #[.pointer (some ⟨B, 0, none⟩)]
abbrev CpBox (B : Nat) (w : World) : Prop := Blk w B #[cpV B] 40
/-- What the closure answers. -/
def CpP (w : World) (t : Ex) (e : Ending) (w' : World) : Prop := ∃ a len cap bs, e = .returned (exV t.nd (.slice a len cap)) ∧ New w w' (exV t.nd (.slice a len cap)) t bs ∧ Below w.heap.size w w'
abbrev CopyIs (B : Nat) (t : Ex) : Prop := ∀ (v : Value) (w : World), Tree w v t → nodesE t ≤ 512 → CpBox B w → Calls Try.prog 52 #[v, .pointer (some ⟨B, 0, none⟩)] w fun e w' => CpP w t e w'
theorem info_ex : (Try.prog.info? 37).map (fun i => (i.zero, i.size, i.bytes)) = some (some (exV ⟨0, 0, 0, no, ⟨0, 0, false, false⟩, ⟨0, 0, false, false⟩, 0⟩ (.slice none 0 0)), 14, 120) := by kernel_rfl
abbrev nd0 : Nd := ⟨0, 0, 0, no, ⟨0, 0, false, false⟩, ⟨0, 0, false, false⟩, 0⟩
/-- The copy's root is written, and handed back. -/
theorem cp_fin {w wr : World} {nd : Nd} {ks : List Ex} {sl sl' : Value} {z : Array Value} {bs : List Nat} (hb : Below w.heap.size w wr) (h0 : Blk wr w.heap.size (exC nd sl) 37) (h1 : Blk wr (w.heap.size + 1) z 37)
    (hN : New w wr (exV nd sl') (.mk nd ks) bs) (hne : ∀ k ∈ bs, w.heap.size + 1 < k) :
    Blk (wr.setCell ⟨w.heap.size, 13, none⟩ sl') w.heap.size (exC nd sl') 37 ∧ Blk (wr.setCell ⟨w.heap.size, 13, none⟩ sl') (w.heap.size + 1) z 37 ∧
    Blk ((wr.setCell ⟨w.heap.size, 13, none⟩ sl').setRow (w.heap.size + 1) (exC nd sl')) (w.heap.size + 1) (exC nd sl') 37 ∧
    New w ((wr.setCell ⟨w.heap.size, 13, none⟩ sl').setRow (w.heap.size + 1) (exC nd sl')) (exV nd sl') (.mk nd ks) bs ∧ Below w.heap.size w ((wr.setCell ⟨w.heap.size, 13, none⟩ sl').setRow (w.heap.size + 1) (exC nd sl')) := by
  have b0 : Blk (wr.setCell ⟨w.heap.size, 13, none⟩ sl') w.heap.size (exC nd sl') 37 := h0.set 13 sl'
  have b1 : Blk (wr.setCell ⟨w.heap.size, 13, none⟩ sl') (w.heap.size + 1) z 37 := (Below.heap_setCell _ _ _ _ (by simp)).trans h1
  have hsame : ∀ k, k ≠ w.heap.size → k ≠ w.heap.size + 1 → ((wr.setCell ⟨w.heap.size, 13, none⟩ sl').setRow (w.heap.size + 1) (exC nd sl')).heap[k]? = wr.heap[k]? := fun k h1 h2 => (setRow_other _ _ _ _ h2).trans (Below.heap_setCell _ _ _ _ h1)
  have hsz : ((wr.setCell ⟨w.heap.size, 13, none⟩ sl').setRow (w.heap.size + 1) (exC nd sl')).heap.size = wr.heap.size := by simp
  refine ⟨b0, b1, setRow_heap _ _ _ _ _ _ b1, ⟨hN.ow.move _ (fun k hk => hsame k (by have := hne k hk; omega) (by have := hne k hk; omega)), hN.nd, fun k hk => by rw [hsz]; exact hN.at' k hk⟩, ⟨hb.os, hb.tape, hb.output, by rw [hsz]; exact hb.size, fun k hk => (hsame k (by omega) (by omega)).trans (hb.block k hk)⟩⟩
set_option maxHeartbeats 800000 in
set_option maxRecDepth 100000 in
theorem copyOf_any (B : Nat) : ∀ t, CopyIs B t := by
  refine Ex.ind fun nd ks ih => ?_
  intro v w ht hn hB
  obtain ⟨a, len, cap, rfl, _, _, _, _⟩ := ht.un
  have hK := ht.kidsAt
  have hlen := hide hK.lq
  have hle : len ≤ 511 := by have := hlen.out; have := len_nodes ks; rw [nodesE] at hn; omega
  have hnk : ∀ k ∈ ks, nodesE k ≤ 512 := fun k hk => by have := nodes_mem hk; rw [nodesE] at hn; omega
  have A := at14 nd (.slice a len cap)
  have c13 := A.c13
  replace hK := hide hK
  replace hB := hide hB
  replace ih := hide ih
  replace hnk := hide hnk
  clear A ht hn
  obtain ⟨ie, hie⟩ : ∃ i, Try.prog.info? 37 = some i := by
    cases h : Try.prog.info? 37 with
    | none => have := info_ex; rw [h] at this; cases this
    | some i => exact ⟨i, rfl⟩
  obtain ⟨hz0, hz1, hz2⟩ : ie.zero = some (exV nd0 (.slice none 0 0)) ∧ ie.size = 14 ∧ ie.bytes = 120 := by
    have := info_ex
    rw [hie] at this
    simpa using this
  by_cases hpos : 0 < len
  · have p0 : (0 : Int) < (len : Int) := by omega
    replace hle := hide hle
    replace hie := hide hie
    replace hz0 := hide hz0
    replace hz1 := hide hz1
    replace hz2 := hide hz2
    go_enter Try.func52, Try.ntmps52
    go_wp2_with (first
      | (at_make; refine wpList_make_full _ rfl _ _ 30 rfl (w.heap.size + 1 + 1) 37 ie _ 14 Try.underlying30 hie.out hz0.out hz1.out _ _ _ _ len rfl rfl rfl rfl ?m1 ?m2 ?m3 ?_))
    case m1 => rw [hz2.out]; have := hle.out; omega
    case m2 => have := hle.out; unfold maxLen; omega
    case m3 => simp
    intro w1 ho hg
    have hst := hide (cp_start (ks := ks) (w2 := (w.alloc (exO nd (.slice a len cap))).alloc (exO nd0 (.slice none 0 0))) (by simpa only [World.size_alloc] using ho) hg hpos)
    simp only [World.size_alloc] at hst
    have hB2 : Below w.heap.size w ((w.alloc (exO nd (.slice a len cap))).alloc (exO nd0 (.slice none 0 0))) := step (step (Below.refl _ w) _) _
    have P0 := hide ((Blk.new w (exC nd (.slice a len cap)) 37).alloc (exO nd0 (.slice none 0 0)))
    have P1 := hide (Blk.new1 w (exO nd (.slice a len cap)) (exC nd0 (.slice none 0 0)) 37)
    replace hB2 := hide hB2
    have q13 := ((P0.out.keep hst.out.low).at' 13).trans c13
    clear ho hg
    go_wp2_with fail
    go_loopw [18] (fun i wr => ∃ (k : Nat), k ≤ len ∧ i = .int .i64 k ∧ Hid (∃ bs, CpSt ((w.alloc (exO nd (.slice a len cap))).alloc (exO nd0 (.slice none 0 0))) (w.heap.size + 1 + 1) len ks k wr bs)) (fun i _ => len - (intOf i).toNat)
    case atStart => exact ⟨0, Nat.zero_le _, rfl, [], hst.out⟩
    case round =>
      obtain ⟨k, hkl, rfl, bs, HC⟩ := hrel
      replace HC := hide HC
      clear q13 hst
      by_cases hlt : k < len
      · have p1 : (k : Int) < (len : Int) := by omega
        obtain ⟨b, o, rfl, hk, aa, ll, cc, tk, rk⟩ := hK.out.get hlt
        have belw := hide (next hB2.out HC.out.low)
        have R1 := range_of_block rk (belw.out.block b (World.block_lt_of_cell? w ⟨b, _, none⟩ (rk 0 _ rfl)))
        have ihk := ih.out _ (List.getElem_mem hk) _ (wr.alloc (exO ks[k].nd (.slice aa ll cc))) (tk.step (step belw.out _)) (hnk.out _ (List.getElem_mem hk)) (hB.out.keep (step belw.out _))
        have hstep := hide (fun (w2 : World) (cs : Array Value) (bk : List Nat) => HC.out.step (w2 := w2) (cs := cs) (bk := bk) hlen.out hk (exO ks[k].nd (.slice aa ll cc)))
        have hth := hide (fun (w2 : World) => HC.out.thereR (w2 := w2) hlt (exO ks[k].nd (.slice aa ll cc)))
        generalize ks[k] = tk' at *
        have L1 := hide (Blk.new wr (exC tk'.nd (.slice aa ll cc)) 37)
        have cB := (hB.out.keep (step belw.out (exO tk'.nd (.slice aa ll cc)))).one
        have IH := hide ihk
        have wk := IntWalk.wrap64_in ((k : Int) + 1) ⟨by omega, by have := hle.out; omega⟩
        have hsn := run_putnew wr tk'.nd aa ll cc
        clear tk rk ihk
        go_wp2_with (first
          | (refine wpList_load_at rfl 37 _ rfl _ _ rfl _ _ (by with_reducible exact R1) Try.underlying37 rfl (exC_info _ _) ?_)
          | (refine wpList_load_blk rfl 37 _ rfl _ rfl _ (by with_reducible exact L1.out) _ Try.underlying37 rfl (exC_info _ _) ?_)
          | (go_at_call 52; refine IH.out.mono ?_; rintro e w2 ⟨ak, lk, ck, bk, rfl, hN, hb2⟩; have hst2 := hide (hstep.out _ _ _ hN hb2); have hsc := run_put (P := Try.prog) tk'.nd ak lk ck (hth.out _ hb2); clear hN; replace hb2 := hide hb2))
        refine ⟨⟨k + 1, hlt, by rw [wk]; rfl, _, hst2.out⟩, ?_⟩
        rw [wk]
        show len - ((k : Int) + 1).toNat < len - (k : Int).toNat
        omega
      · obtain rfl : k = len := by omega
        obtain ⟨cells, hrow, hz⟩ := HC.out.row
        have hN : New w wr (exV nd (.slice (some ⟨w.heap.size + 1 + 1, 0, none⟩) k k)) (.mk nd ks) ((w.heap.size + 1 + 1) :: bs) := by
          refine ⟨?_, List.nodup_cons.2 ⟨fun h => absurd (HC.out.new _ h).1 (Nat.lt_irrefl _), HC.out.nd⟩, fun x hx => ?_⟩
          · unfold Ow
            refine ⟨_, _, _, rfl, hlen.out, .inr ⟨_, cells, bs, rfl, rfl, hrow, hz, ⟨Nat.le_refl _, by have := hle.out; unfold maxLen; omega⟩, ?_⟩⟩
            have := HC.out.ow
            rwa [hlen.out, List.take_length] at this
          · rcases List.mem_cons.1 hx with rfl | hx
            · exact ⟨by omega, HC.out.lt⟩
            · have := HC.out.new x hx; exact ⟨by omega, this.2⟩
        have belw := next hB2.out HC.out.low
        obtain ⟨F1, F2, F3, F4, F5⟩ := cp_fin belw (P0.out.keep HC.out.low) (P1.out.keep HC.out.low) hN (by
          intro x hx
          rcases List.mem_cons.1 hx with rfl | hx
          · omega
          · have := (HC.out.new x hx).1; omega)
        have q0 := ((P0.out.keep HC.out.low).at' 13).trans c13
        have q1 := (P0.out.keep HC.out.low).fr 13
        replace F4 := hide F4
        replace F5 := hide F5
        clear hN hrow hz
        go_wp2_with (first
          | (refine wpList_load_blk rfl 37 _ rfl _ rfl _ (by with_reducible exact F1) _ Try.underlying37 rfl (exC_info _ _) ?_)
          | (refine wpList_store_row rfl 37 _ _ rfl _ (exC nd (.slice (some ⟨w.heap.size + 1 + 1, 0, none⟩) k k)) rfl rfl 37 _ F2 (exC_info _ _) (by rfl) (exC_one _ _ _ _) ?_))
        refine bodyPost_ret (v := exV nd (.slice (some ⟨w.heap.size + 1 + 1, 0, none⟩) k k)) (results_cell_row Try.results52 _ _ (w.heap.size + 1) 37 (exC nd (.slice (some ⟨w.heap.size + 1 + 1, 0, none⟩) k k)) (0, 0) _ rfl F3 Try.underlying37 rfl (exC_info _ _)) rfl ?_
        exact ⟨_, _, _, _, rfl, F4.out, F5.out⟩
  · obtain rfl : len = 0 := by omega
    obtain rfl : ks = [] := List.eq_nil_of_length_eq_zero hlen.out.symm
    have hset : (exC nd (.slice a 0 cap)).setIfInBounds 13 (.slice none 0 0) = exC nd (.slice none 0 0) := rfl
    have L0 := (Blk.new w (exC nd (.slice none 0 0)) 37).alloc (exO nd0 (.slice none 0 0))
    have hsn := run_putnew (w.alloc (exO nd (.slice none 0 0))) nd none 0 0
    simp only [World.size_alloc] at hsn
    replace L0 := hide L0
    clear hie hz0 hz1 hz2 hpos
    go_enter Try.func52, Try.ntmps52
    go_wp2_with fail
    refine wp_loop_rounds 1 ?_
    rw [rounds_succ]
    go_wp2_with (first
      | (refine wpList_load_blk rfl 37 _ rfl _ rfl _ L0.out _ Try.underlying37 rfl (exC_info _ _) ?_))
    refine bodyPost_ret (v := exV nd (.slice none 0 0)) (results_cell_row Try.results52 _ _ (w.heap.size + 1) 37 (exC nd (.slice none 0 0)) (0, 0) _ rfl (Blk.new1 w (exO nd (.slice none 0 0)) (exC nd (.slice none 0 0)) 37) Try.underlying37 rfl (exC_info _ _)) rfl ?_
    exact ⟨_, _, _, [], rfl, ⟨by unfold Ow; exact ⟨_, _, _, rfl, rfl, .inl ⟨rfl, rfl, rfl, rfl⟩⟩, List.nodup_nil, fun x hx => by cases hx⟩, step (step (Below.refl _ w) _) _⟩
end Go.Proofs.Ytiajoppbgebnpaa
