/- quadrillelaw9.Spoil: what it leaves: nothing is written but the tree's own lists. -/
import Derived.Test.YtgopolelpckjcaaLyM9
namespace Go.Proofs.Ytgopolelpckjcaa
open Go.RowKit Go.Sort
set_option linter.unusedVariables false

mutual
theorem Ow.lt {w : World} : ∀ (t : Ex) {v : Value} {bs : List Nat}, Ow w v t bs → ∀ x ∈ bs, x < w.heap.size
  | .mk nd ks, v, bs, h => by
    unfold Ow at h
    obtain ⟨a, len, cap, _, _, h⟩ := h
    rcases h with ⟨_, _, _, rfl⟩ | ⟨b, cells, bs', _, rfl, hc, _, _, hk⟩
    · intro x hx; cases hx
    · intro x hx
      rcases List.mem_cons.1 hx with rfl | hx
      · exact (Array.getElem?_eq_some_iff.1 hc).1
      · exact OwL.lt ks hk x hx
theorem OwL.lt {w : World} {b : Nat} : ∀ (ks : List Ex) {o : Nat} {bs : List Nat}, OwL w b o ks bs → ∀ x ∈ bs, x < w.heap.size
  | [], o, bs, h => by unfold OwL at h; subst h; intro x hx; cases hx
  | k :: r, o, bs, h => by
    unfold OwL at h
    obtain ⟨cs, b1, b2, rfl, h1, _, h3⟩ := h
    intro x hx
    rcases List.mem_append.1 hx with hx | hx
    · exact Ow.lt k h1 x hx
    · exact OwL.lt r h3 x hx
end
/-- The kids' blocks, kid by kid, apart. -/
theorem OwL.split {w : World} {b : Nat} : ∀ (ks : List Ex) {o : Nat} {bs : List Nat}, OwL w b o ks bs → bs.Nodup →
    ∃ bl : Nat → List Nat, (∀ i (hi : i < ks.length), (∃ cs, Ow w (.agg cs) ks[i] (bl i) ∧ w.rangeAt b (o + i * 14) cs.toList) ∧ (∀ x ∈ bl i, x ∈ bs) ∧ (bl i).Nodup) ∧ ∀ i j, i < ks.length → j < ks.length → i ≠ j → ∀ x ∈ bl i, x ∉ bl j
  | [], o, bs, h, hn => ⟨fun _ => [], fun i hi => absurd hi (Nat.not_lt_zero i), fun i j hi => absurd hi (Nat.not_lt_zero i)⟩
  | k :: r, o, bs, h, hn => by
    unfold OwL at h
    obtain ⟨cs, b1, b2, rfl, h1, h2, h3⟩ := h
    obtain ⟨n1, n2, n3⟩ := List.nodup_append.1 hn
    obtain ⟨bl, hA, hB⟩ := OwL.split r h3 n2
    refine ⟨fun i => match i with | 0 => b1 | i + 1 => bl i, fun i hi => ?_, fun i j hi hj hne x hx => ?_⟩
    · cases i with
      | zero => exact ⟨⟨cs, by simpa using h1, by simpa using h2⟩, fun x hx => List.mem_append_left _ hx, n1⟩
      | succ i =>
        obtain ⟨⟨cs', h4, h5⟩, h6, h7⟩ := hA i (by simpa using hi)
        exact ⟨⟨cs', by simpa only [List.getElem_cons_succ] using h4, by rw [show o + (i + 1) * 14 = o + 14 + i * 14 by omega]; exact h5⟩, fun x hx => List.mem_append_right _ (h6 x hx), h7⟩
    · cases i with
      | zero =>
        cases j with
        | zero => exact absurd rfl hne
        | succ j => exact fun hq => n3 x hx x ((hA j (by simpa using hj)).2.1 x hq) rfl
      | succ i =>
        cases j with
        | zero => exact fun hq => n3 x hq x ((hA i (by simpa using hi)).2.1 x hx) rfl
        | succ j => exact hB i j (by simpa using hi) (by simpa using hj) (fun e => hne (by rw [e])) x hx
theorem Chg.wide {m m' : Nat → Prop} {w w' : World} (h : Chg m w w') (hm : ∀ k, m k → m' k) : Chg m' w w' := ⟨h.os, h.tape, h.output, h.size, fun k hk hn => h.block k hk (fun e => hn (hm k e))⟩
theorem Chg.of_grown {m : Nat → Prop} {w w' : World} {r : Option Nat} (h : w.grownBy w' r) (hm : ∀ k, r = some k → m k) : Chg m w w' := ⟨h.os, h.tape, h.output, h.size, fun k hk hn => h.block k hk (fun e => hn (hm k e.symm))⟩
/-- The list's own block, whatever it holds. -/
def Shp (w : World) (a : Option Addr) (cap : Nat) : Prop := ∀ b, a = some ⟨b, 0, none⟩ → ∃ cur, w.heap[b]? = some (.cells cur 29 (0, 0)) ∧ cur.size = cap * 14
abbrev nd99 (i : Int) : Nd := ⟨99, 0, i, { data := #[115, 112, 111, 105, 108, 116] }, ⟨0, 0, false, false⟩, ⟨0, 0, false, false⟩, 0⟩
abbrev nd98 : Nd := ⟨98, 0, 0, { data := #[103, 114, 111, 119, 110] }, ⟨0, 0, false, false⟩, ⟨0, 0, false, false⟩, 0⟩
/-- One kid is written over. -/
def put99 (w : World) (b j : Nat) : World := w.setCells b (j * 14) (exC (nd99 j) (.slice none 0 0)).toList
def Th (w : World) (b j : Nat) : Prop := w.there b (j * 14) 14
theorem wpList_put99 {ops : Array Oper} {rest : List Oper} {op : Oper} {a : Act} {w : World} {Q : Exit → Act → World → Prop} {b j : Nat} (hgd : op.guard = none) (x y : Operand) (ho : op.op = .store 29 x y)
    (hx : a.eval x = .pointer (some ⟨b, j * 14, none⟩)) (hy : a.eval y = .agg #[.int .i64 99, .int .i64 0, .int .i64 (j : Int), .string { data := #[115, 112, 111, 105, 108, 116] }, .int .i64 0, .int .i64 0, .bool false, .bool false, .int .i64 0, .int .i64 0, .bool false, .bool false, .int .i64 0, .slice none 0 0]) (ht : Th w b j) (h : wpList Try.prog ops Q rest (a.put op.dst undef) (put99 w b j)) : wpList Try.prog ops Q (op :: rest) a w :=
  wpList_store_mid hgd 29 x y ho b (j * 14) (exC (nd99 j) (.slice none 0 0)) hx hy ht (exC_info _ _) (exC_one _ _ _ _) h
abbrev SpoilIs (t : Ex) : Prop := ∀ (v : Value) (w : World) (bs : List Nat), Ow w v t bs → bs.Nodup → nodesE t ≤ 512 → Calls Try.prog 13 #[v] w fun e w' => e = .returned (.tuple #[]) ∧ Chg (· ∈ bs) w w'
set_option maxHeartbeats 2000000 in
set_option maxRecDepth 100000 in
theorem spoil_any : ∀ t, SpoilIs t := by
  refine Ex.ind fun nd ks ih => ?_
  intro v w bs ho hnd hn
  have hlt := hide (Ow.lt _ ho)
  obtain ⟨a, len, cap, rfl, hl, hc⟩ := ho.un
  have hlen := hide hl
  have hle : Hid (len ≤ 511) := hide (by have := len_nodes ks; rw [nodesE] at hn; omega)
  have hnk : Hid (∀ k ∈ ks, nodesE k ≤ 512) := hide (fun k hk => by have := nodes_mem hk; rw [nodesE] at hn; omega)
  have c13 := (at14 nd (.slice a len cap)).c13
  have P0 := hide (Blk.new w (exC nd (.slice a len cap)) 29)
  have hsp : Hid (∃ bl : Nat → List Nat, (∀ i (hi : i < ks.length), ∃ b cs, a = some ⟨b, 0, none⟩ ∧ b ∈ bs ∧ (∀ j, j < ks.length → b ∉ bl j) ∧ Ow w (.agg cs) ks[i] (bl i) ∧ w.rangeAt b (i * 14) cs.toList ∧ (∀ x ∈ bl i, x ∈ bs) ∧ (bl i).Nodup) ∧ ∀ i j, i < ks.length → j < ks.length → i ≠ j → ∀ x ∈ bl i, x ∉ bl j) := hide (by
    rcases hc with ⟨_, h0, _, _⟩ | ⟨b, cells, bs', ha, rfl, hcell, hz, _, hk⟩
    · exact ⟨fun _ => [], fun i hi => by omega, fun i j hi => by omega⟩
    · obtain ⟨n1, n2⟩ := List.nodup_cons.1 hnd
      obtain ⟨bl, hA, hB⟩ := OwL.split ks hk n2
      refine ⟨bl, fun i hi => ?_, hB⟩
      obtain ⟨⟨cs, h1, h2⟩, h3, h4⟩ := hA i hi
      exact ⟨b, cs, ha, List.mem_cons_self .., fun j hj hq => n1 ((hA j hj).2.1 b hq), h1, by simpa using h2, fun x hx => List.mem_cons_of_mem _ (h3 x hx), h4⟩)
  have hcap : Hid ((a = none ∧ cap = 0 ∧ len = 0) ∨ ∃ b, a = some ⟨b, 0, none⟩ ∧ b ∈ bs ∧ len ≤ cap ∧ cap ≤ maxLen ∧ Shp w a cap) := hide (by
    rcases hc with ⟨h2, h0, h1, _⟩ | ⟨b, cells, bs', ha, rfl, hcell, hz, hle, hk⟩
    · exact .inl ⟨h2, h1, h0⟩
    · exact .inr ⟨b, ha, List.mem_cons_self .., hle.1, hle.2, fun b' e => by rw [ha] at e; cases e; exact ⟨cells, hcell, hz⟩⟩)
  have hnb : Hid (w.heap.size ∉ bs) := hide (fun h => Nat.lt_irrefl _ (hlt.out _ h))
  obtain ⟨bl, hA, hB⟩ := hsp.out
  replace hA := hide hA
  replace hB := hide hB
  replace ih := hide ih
  clear hc hl ho hnd hn hsp
  have hmn := ite_min
  go_enter Try.func13, Try.ntmps13
  go_wp2_with fail
  go_loopw [2] (fun i wr => ∃ (k : Nat), k ≤ len ∧ i = .int .i64 k ∧ Hid (Chg (fun x => ∃ j, j < k ∧ j < ks.length ∧ x ∈ bl j) (w.alloc (exO nd (.slice a len cap))) wr)) (fun i _ => len - (intOf i).toNat)
  case atStart => exact ⟨0, Nat.zero_le _, rfl, Chg.refl _ _⟩
  case round =>
    obtain ⟨k, hkl, rfl, HC⟩ := hrel
    have hbl : ∀ j, j < ks.length → ∀ x ∈ bl j, x ∈ bs := fun j hj => by obtain ⟨_, _, _, _, _, _, _, h, _⟩ := hA.out j hj; exact h
    have HCw : Hid (Chg (· ∈ bs) (w.alloc (exO nd (.slice a len cap))) wr) := hide (HC.out.wide (fun x ⟨j, _, h2, h3⟩ => hbl j h2 x h3))
    have z13 := ((HCw.out.blk P0.out hnb.out).at' 13).trans c13
    replace hbl := hide hbl
    by_cases hlt' : k < len
    · have p0 : (k : Int) < (len : Int) := by omega
      have hk1 : k < ks.length := by have := hlen.out; omega
      obtain ⟨b, cs, rfl, hbb, hbn, hOw, hrg, hsub, hnd⟩ := hA.out k hk1
      have hsz : ∀ x, x ∈ bs → x < (w.alloc (exO nd (.slice (some ⟨b, 0, none⟩) len cap))).heap.size := fun x hx => by have := hlt.out x hx; simp; omega
      have hal : ∀ x, x ∈ bs → (w.alloc (exO nd (.slice (some ⟨b, 0, none⟩) len cap))).heap[x]? = w.heap[x]? := fun x hx => Below.heap_alloc w _ x (hlt.out x hx)
      have hOw' : Ow wr (.agg cs) ks[k] (bl k) := hOw.move _ (fun x hx => (HC.out.block x (hsz x (hsub x hx)) (fun ⟨j, h1, h2, h3⟩ => hB.out k j hk1 h2 (by omega) x hx h3)).trans (hal x (hsub x hx)))
      have R1 := hide (range_of_block hrg ((HC.out.block b (hsz b hbb) (fun ⟨j, h1, h2, h3⟩ => hbn j h2 h3)).trans (hal b hbb)))
      obtain ⟨aa, al, ac, rfl⟩ := hOw'.cs
      have IH := hide (ih.out _ (List.getElem_mem hk1) _ wr _ hOw' hnd (hnk.out _ (List.getElem_mem hk1)))
      have wk := IntWalk.wrap64_in ((k : Int) + 1) ⟨by omega, by have := hle.out; omega⟩
      generalize ks[k] = tk' at *
      clear hOw hOw' hrg hsz hal hbb hbn hsub hnd HCw
      go_wp2_with (first
        | (refine wpList_load_at rfl 29 _ rfl _ _ rfl _ _ (by with_reducible exact R1.out) Try.underlying29 rfl (exC_info _ _) ?_)
        | (go_at_call 13; refine IH.out.mono ?_; rintro e w5 ⟨rfl, h5⟩; have C5 : Hid (Chg (fun x => ∃ j, j < k + 1 ∧ j < ks.length ∧ x ∈ bl j) (w.alloc (exO nd (.slice (some ⟨b, 0, none⟩) len cap))) w5) := hide ((HC.out.wide (fun x ⟨j, h1, h2, h3⟩ => ⟨j, by omega, h2, h3⟩)).trans (h5.wide (fun x hx => ⟨k, by omega, hk1, hx⟩))); clear h5))
      refine ⟨⟨k + 1, hlt', by rw [wk]; rfl, C5⟩, ?_⟩
      rw [wk]
      exact meas_lt hlt'
    · obtain rfl : k = len := by omega
      have S1 : Hid (Shp wr a cap) := hide (by
        rcases hcap.out with ⟨h0, _⟩ | ⟨b, ha, hbb, _, _, hs⟩
        · intro b hb; rw [h0] at hb; cases hb
        · intro b' hb'
          obtain ⟨cur, h1, h2⟩ := hs b' hb'
          have hb2 : b' ∈ bs := by rw [ha] at hb'; cases hb'; exact hbb
          refine ⟨cur, (HC.out.block b' (by have := hlt.out b' hb2; simp; omega) (fun ⟨j, _, h3, h4⟩ => ?_)).trans ((Below.heap_alloc w _ b' (hlt.out b' hb2)).trans h1), h2⟩
          obtain ⟨b3, _, ha3, _, hbn, _⟩ := hA.out j h3
          rw [hb'] at ha3; cases ha3
          exact hbn j h3 h4)
      obtain ⟨wa, rfl⟩ : ∃ wa, wa = wr := ⟨wr, rfl⟩
      clear HC
      go_wp2_with fail
      go_loopw [3] (fun i wr => ∃ (j : Nat), j ≤ k ∧ i = .int .i64 j ∧ Hid (Chg (· ∈ bs) (w.alloc (exO nd (.slice a k cap))) wr) ∧ Hid (Shp wr a cap)) (fun i _ => k - (intOf i).toNat)
      case atStart => exact ⟨0, Nat.zero_le _, rfl, HCw, S1⟩
      case round =>
        clear S1 HCw z13
        obtain ⟨j, hjl, rfl, HD, HS⟩ := hrel
        have z13 := ((HD.out.blk P0.out hnb.out).at' 13).trans c13
        by_cases hjt : j < k
        · have p1 : (j : Int) < (k : Int) := by omega
          rcases hcap.out with ⟨_, _, h0⟩ | ⟨b, rfl, hbb, hlc, hcm, _⟩
          · exfalso; omega
          obtain ⟨cur, hcur, hcs⟩ := HS.out b rfl
          have hth : Th wr b j := there_of_row hcur (by rw [hcs]; omega)
          have D2 : Hid (Chg (· ∈ bs) (w.alloc (exO nd (.slice (some ⟨b, 0, none⟩) k cap))) (put99 wr b j)) := hide (HD.out.trans (chg_setCells hbb _ _ _))
          have S2 : Hid (Shp (put99 wr b j) (some ⟨b, 0, none⟩) cap) := hide (fun b' e => by
            cases e
            obtain ⟨cs', h1, h2⟩ := row_setCells b 29 (exC (nd99 j) (.slice none 0 0)).toList (j * 14) wr cur hcur
            exact ⟨cs', h1, by rw [h2]; exact hcs⟩)
          have wj := IntWalk.wrap64_in ((j : Int) + 1) ⟨by omega, by have := hle.out; omega⟩
          replace hth := hide hth
          clear hcur hcs hlc hcm hbb
          go_wp2_with (first
            | (refine wpList_put99 (b := b) (j := j) rfl _ _ rfl rfl rfl (by with_reducible exact hth.out) ?_))
          refine ⟨⟨j + 1, hjt, by rw [wj]; rfl, D2, S2⟩, ?_⟩
          rw [wj]
          exact meas_lt hjt
        · obtain rfl : j = k := by omega
          obtain ⟨wb, rfl⟩ : ∃ wb, wb = wr := ⟨wr, rfl⟩
          have wl := IntWalk.wrap64_in ((j : Int) + 5000) ⟨by omega, by have := hle.out; omega⟩
          go_wp2_with fail
          try simp only [wl]
          clear wl
          go_loopw [4] (fun l wr => ∃ (m : Nat), m ≤ cap ∧ l = .slice a m cap ∧ Hid (Chg (· ∈ bs) (w.alloc (exO nd (.slice a j cap))) wr) ∧ Hid (Shp wr a cap)) (fun l _ => cap - lenOf l)
          case atStart => exact ⟨j, by rcases hcap.out with ⟨_, h1, h2⟩ | ⟨_, _, _, h, _⟩ <;> omega, rfl, HD, HS⟩
          case round =>
            clear HD HS z13
            obtain ⟨m, hmc, rfl, HD, HS⟩ := hrel
            by_cases hmt : (m : Int) < min (cap : Int) ((j : Int) + 5000)
            · have hmc2 : m < cap := by omega
              rcases hcap.out with ⟨_, h0, _⟩ | ⟨b, rfl, hbb, hlc, hcm, _⟩
              · exfalso; omega
              obtain ⟨cur, hcur, hcs⟩ := HS.out b rfl
              have hown : (wr.alloc (exO nd98 (.slice none 0 0))).ownsRow 0 29 14 (.slice (some ⟨b, 0, none⟩) m cap) m (cur.toList.take (m * 14)) := ⟨by rw [List.length_take, Array.length_toList, hcs]; omega, .inr ⟨b, cap, cur, rfl, Nat.zero_le _, (Below.heap_alloc wr _ b (Array.getElem?_eq_some_iff.1 hcur).1).trans hcur, hmc, hcm, hcs, rfl⟩⟩
              have hrg := hide (range_ex wr nd98 (.slice none 0 0))
              have hbw := hide ((Array.getElem?_eq_some_iff.1 hcur).1)
              replace hown := hide hown
              replace hbb := hide hbb
              clear hcur hcs
              go_wp2_with (first
                | (refine Go.Great.wpList_buildSliceTo rfl 27 29 1 _ rfl wr.heap.size rfl _ rfl Try.underlying27 (exC nd98 (.slice none 0 0)) (by kernel_rfl) ?_)
                | (at_builtin; refine wpList_fitX (g := b) (k := m) (cap := cap) (X := wr.heap.size) (n := nd98) (sa := none) (sl := 0) (sc := 0) rfl _ _ rfl rfl rfl hown.out hrg.out hmc2 ?_; intro w4 r1 r2; have D4 : Hid (Chg (· ∈ bs) (w.alloc (exO nd (.slice (some ⟨b, 0, none⟩) j cap))) w4) := hide ((HD.out.alloc _).trans (Chg.of_grown r2 (fun q e => by cases e; exact hbb.out))); have S4 : Hid (Shp w4 (some ⟨b, 0, none⟩) cap) := hide (fun b' e => by cases e; rcases r1.2 with ⟨e, _⟩ | ⟨g', cap', cur', e, _, h1, _, _, h2, _⟩; (cases e); (cases e; exact ⟨cur', h1, h2⟩)); clear r1 r2))
              first
                | exact ⟨⟨m + 1, hmc2, rfl, D4, S4⟩, by show cap - (m + 1) < cap - m; omega⟩
                | exact ⟨⟨_, _, _, _, _, _, _, _, _, ⟨m + 1, hmc2, rfl, D4, S4⟩, rfl⟩, by show cap - (m + 1) < cap - m; omega⟩
            · go_wp2_with fail
              refine Go.Great.bodyPost_end0 rfl rfl ?_
              exact ⟨rfl, (Chg.of_below (step (Below.refl _ _) _)).trans HD.out⟩
end Go.Proofs.Ytgopolelpckjcaa
