/- FoldTruths: AND ends at the first that is false, OR at the first that is true, XOR goes through all. Proved of the Go text. -/
import Derived.Test.YtchphbclaapfhaaGreatDoorTruM15
namespace Go.Proofs.YtchphbclaapfhaaGreatDoor
open Go.RowKit Go.Sort
open T9 (Blk Chg)
set_option linter.unusedVariables false
set_option linter.unusedSimpArgs false

theorem info65 : CallIs 20 #[.int .i64 65] (.tuple #[.agg #[.string ⟨#[65, 78, 68]⟩, .int .i64 6, .int .i64 1, .int .i64 (-1)], .int .i64 0]) := fun w => by
  have h := T9.info_yes 64 (by decide) w
  have e : T9.tab[64]'(by rw [T9.tab_len]; decide) = (⟨#[65, 78, 68]⟩, 1, -1) := by
    have : T9.tab[64]? = some (⟨#[65, 78, 68]⟩, 1, -1) := by kernel_rfl
    exact (List.getElem?_eq_some_iff.1 this).2
  rw [e] at h
  exact h
theorem idx65 (w : World) : (Instr.index 72 (.agg fcatC) (.int .i64 65)).run Tryz.prog w = .ok (.func (.func 42) #[] #[]) w := index77 11 _ rfl w
theorem info66 : CallIs 20 #[.int .i64 66] (.tuple #[.agg #[.string ⟨#[79, 82]⟩, .int .i64 6, .int .i64 1, .int .i64 (-1)], .int .i64 0]) := fun w => by
  have h := T9.info_yes 65 (by decide) w
  have e : T9.tab[65]'(by rw [T9.tab_len]; decide) = (⟨#[79, 82]⟩, 1, -1) := by
    have : T9.tab[65]? = some (⟨#[79, 82]⟩, 1, -1) := by kernel_rfl
    exact (List.getElem?_eq_some_iff.1 this).2
  rw [e] at h
  exact h
theorem idx66 (w : World) : (Instr.index 72 (.agg fcatC) (.int .i64 66)).run Tryz.prog w = .ok (.func (.func 43) #[] #[]) w := index77 12 _ rfl w
theorem info67 : CallIs 20 #[.int .i64 67] (.tuple #[.agg #[.string ⟨#[88, 79, 82]⟩, .int .i64 6, .int .i64 1, .int .i64 (-1)], .int .i64 0]) := fun w => by
  have h := T9.info_yes 66 (by decide) w
  have e : T9.tab[66]'(by rw [T9.tab_len]; decide) = (⟨#[88, 79, 82]⟩, 1, -1) := by
    have : T9.tab[66]? = some (⟨#[88, 79, 82]⟩, 1, -1) := by kernel_rfl
    exact (List.getElem?_eq_some_iff.1 this).2
  rw [e] at h
  exact h
theorem idx67 (w : World) : (Instr.index 72 (.agg fcatC) (.int .i64 67)).run Tryz.prog w = .ok (.func (.func 44) #[] #[]) w := index77 13 _ rfl w
theorem args1 (w : World) (x : Ag) : ArgsAt (w.alloc (agO x)) (· < (w.alloc (agO x)).heap.size) (some ⟨w.heap.size, 0, none⟩) [x] := by
  have hb := Blk.new w #[.bool x.is, .int .i64 x.t, .int .i64 x.l, .int .i64 x.b, .int .i64 x.r, .int .i64 x.v.k, .int .i64 x.v.i, .string x.v.t] 30
  refine .inr ⟨_, _, rfl, by simp, fun j z hz i v hv => ?_⟩
  rw [hb.at']
  match j, hz with
  | 0, hz => obtain rfl : x = z := by simpa using hz
             match i, hv with
             | 0, hv | 1, hv | 2, hv | 3, hv | 4, hv | 5, hv | 6, hv | 7, hv => exact hv
             | i + 8, hv => simp at hv
/-- Truths that were handed in. -/
def BoolsAt (w : World) (a : Option Addr) (bs : List Bool) : Prop := bs = [] ∨ ∃ b o, a = some ⟨b, o, none⟩ ∧ ∀ (j : Nat) (x : Bool), bs[j]? = some x → w.cell? ⟨b, o + j, none⟩ = some (.bool x)
theorem BoolsAt.keep {w w' : World} {a : Option Addr} {bs : List Bool} (h : BoolsAt w a bs) (hb : Below w.heap.size w w') : BoolsAt w' a bs := by
  rcases h with h | ⟨b, o, h, g⟩
  · exact .inl h
  · exact .inr ⟨b, o, h, fun j x hx => keep1 hb (g j x hx)⟩
theorem BoolsAt.take {w : World} {a : Option Addr} {bs : List Bool} (h : BoolsAt w a bs) (n : Nat) : BoolsAt w a (bs.take n) := by
  rcases h with h | ⟨b, o, h, g⟩
  · left; rw [h]; simp
  · exact .inr ⟨b, o, h, fun j x hx => g j x (by rw [List.getElem?_take] at hx; split at hx; exact hx; cases hx)⟩
theorem slice300B (b o len cap : Nat) (hl : 300 < len) (hc : len ≤ cap) (w : World) : (Instr.slice 43 (.slice (some ⟨b, o, none⟩) len cap) none (some (.int .i64 300)) none).run Tryz.prog w = .ok (.slice (some ⟨b, o, none⟩) 300 cap) w := by
  have hu := Tryz.underlying43
  have h1 : (300 : Int) ≤ (cap : Int) := by omega
  go_simp
  try (intro h; omega)
  try (rw [if_pos (by omega)])
theorem va_eqT (i : Int) (w : World) : (binOp .eql 28 (vV 2 i no) (vV 2 i no)).run Tryz.prog w = .ok (.bool true) w := by go_simp
theorem ite_min (x y : Int) : (if y < x then y else x) = min x y := by split <;> omega
theorem bV_ok (b : Bool) : VaOk (bV b) := by
  refine ⟨.inr (.inr (.inl ⟨rfl, ?_, rfl⟩)), ?_, ?_⟩ <;> cases b <;> simp [b2i]
/-- What run answers of AND, OR, XOR. -/
def FtRun (bs : List Bool) (fI : Int) (i : Int) (n : Nat) : Prop := ∀ (w : World) (aa : Option Addr) (capa : Nat), ArgsAt w (· < w.heap.size) aa [agC (bs.length : Nat)] → ∀ (av : Option Addr) (capv : Nat), ValsAt w av (bs.map bV) → Calls Tryz.prog 11 #[.int .i64 fI, .slice aa 1 capa, .slice av bs.length capv] w fun e w' => ∃ a c, e = .returned (.tuple #[vV 2 i no, .slice a n c, .bool true]) ∧ Below w.heap.size w w'
theorem ft_run (bs : List Bool) (h1 : 1 ≤ bs.length) (h3 : bs.length ≤ 300) : FtRun bs 65 (b2i (if firstI false bs < bs.length then false else true)) (min (firstI false bs + 1) bs.length) ∧ FtRun bs 66 (b2i (if firstI true bs < bs.length then true else false)) (min (firstI true bs + 1) bs.length) ∧ FtRun bs 67 (b2i (par bs)) bs.length := by
  obtain ⟨tr, htr⟩ := tru_is
  have ht : ∀ b, tr (bV b) = (b, 0) := fun b => by rw [(htr (bV b) (bV_ok b)).2 rfl]; cases b <;> rfl
  have hn : bs ≠ [] := fun e => by rw [e] at h1; simp at h1
  have hl : (bs.map bV).length = bs.length := List.length_map _
  have hok : ∀ x ∈ bs.map bV, VaOk x := fun x hx => by obtain ⟨b, _, rfl⟩ := List.mem_map.1 hx; exact bV_ok b
  refine ⟨?_, ?_, ?_⟩
  · intro w aa capa ha av capv hv
    have := run_col 65 _ _ _ _ _ (and_mkis tr htr) _ _ info65 idx65 (.inr rfl) (bs.map bV) (by omega) (by omega) hok w aa capa (by rw [hl]; exact ha) av capv hv
    rw [until_col tr ht false bs false (.inr hn), hl] at this
    refine this.mono fun e w' ⟨v, g1, g2, g3⟩ => ?_
    obtain ⟨a, n, c, rfl, hn'⟩ := g2.shapeN
    simp only [List.length_map, List.length_range] at hn'
    subst hn'
    exact ⟨a, c, g1, g3⟩
  · intro w aa capa ha av capv hv
    have := run_col 66 _ _ _ _ _ (or_mkis tr htr) _ _ info66 idx66 (.inr rfl) (bs.map bV) (by omega) (by omega) hok w aa capa (by rw [hl]; exact ha) av capv hv
    rw [until_col tr ht true bs false (.inr hn), hl] at this
    refine this.mono fun e w' ⟨v, g1, g2, g3⟩ => ?_
    obtain ⟨a, n, c, rfl, hn'⟩ := g2.shapeN
    simp only [List.length_map, List.length_range] at hn'
    subst hn'
    exact ⟨a, c, g1, g3⟩
  · intro w aa capa ha av capv hv
    have := run_col 67 _ _ _ _ _ (xor_mkis tr htr) _ _ info67 idx67 (.inr rfl) (bs.map bV) (by omega) (by omega) hok w aa capa (by rw [hl]; exact ha) av capv hv
    rw [xor_col tr ht bs false false (.inr hn), hl] at this
    refine this.mono fun e w' ⟨v, g1, g2, g3⟩ => ?_
    obtain ⟨a, n, c, rfl, hn'⟩ := g2.shapeN
    simp only [List.length_map, List.length_range] at hn'
    subst hn'
    refine ⟨a, c, ?_, g3⟩
    rw [g1]
    cases par bs <;> rfl
set_option maxHeartbeats 8000000 in
set_option maxRecDepth 100000 in
theorem ft_small (bs : List Bool) (m : Nat) (hm3 : m ≤ 300) (hm : bs.length = m) (a : Option Addr) (cap : Nat) (w : World) (h : BoolsAt w a bs) : Calls Tryz.prog 6 #[.slice a m cap] w fun e w' => e = .returned (.bool true) ∧ Below w.heap.size w w' := by
  have HR := hide (fun h1 => ft_run bs h1 (by omega))
  have pl : ¬ (300 : Int) < (m : Int) := by omega
  have HCe := cells_is (m : Int) (by omega) (by omega)
  replace hm := hide hm
  replace h := hide h
  go_enter Tryz.func6, Tryz.ntmps6
  go_wp2_with fail
  refine (begun15.out _).mono ?_
  rintro e w1 ⟨rfl, hb1⟩
  have K1 := hide (next (Below.refl w.heap.size w) hb1)
  have h1 := hide (h.out.keep hb1)
  clear hb1 h
  by_cases h0 : m = 0
  · subst h0
    go_wp2_with fail
    go_ret
    exact ⟨rfl, K1.out⟩
  have p0 : ((m : Int) == 0) = false := by simp; omega
  have HR1 := hide (HR.out (by have := hm.out; omega))
  go_wp2_with fail
  go_loopw [3, 4, 5, 6, 7] (fun l od no ye i wr => ∃ (j : Nat) (ov N Y : Int), j ≤ m ∧ i = .int .i64 (j : Int) ∧ od = .int .i64 ov ∧ no = .int .i64 N ∧ ye = .int .i64 Y ∧ Hid (ov = b2i (par (bs.take j))) ∧ Hid (N = (upI false bs j : Nat)) ∧ Hid (Y = (upI true bs j : Nat)) ∧ Hid (RowV wr w1.heap.size l ((bs.take j).map bV)) ∧ Hid (Below w1.heap.size w1 wr)) (fun _ _ _ _ i _ => m - (intOf i).toNat)
  case atStart => exact ⟨0, 0, (m : Int), (m : Int), Nat.zero_le _, rfl, rfl, rfl, rfl, hide rfl, hide (by rw [upI_zero, hm.out]), hide (by rw [upI_zero, hm.out]), hide (RowV.nil _ _), hide (Below.refl _ _)⟩
  case round =>
    obtain ⟨j, ov, N, Y, hj, rfl, rfl, rfl, rfl, ho, hN, hY, HV, HB⟩ := hrel
    have hz : Hid (w1.heap.size ≤ wr.heap.size) := hide HB.out.size
    obtain ⟨al, nl, cl, rfl, hnl⟩ := HV.out.shapeN
    replace hnl := hide hnl
    by_cases hlt : j < m
    · have q0 : (j : Int) < (m : Int) := by omega
      have hj' : j < bs.length := by have := hm.out; omega
      obtain ⟨b, o, hab, hb⟩ : ∃ b o, a = some ⟨b, o, none⟩ ∧ ∀ (j : Nat) (x : Bool), bs[j]? = some x → w1.cell? ⟨b, o + j, none⟩ = some (.bool x) := by
        rcases h1.out with h | h
        · rw [h] at hj'; cases hj'
        · exact h
      subst hab
      have a0 : ∀ o', (wr.alloc o').cell? ⟨b, o + j, none⟩ = some (.bool bs[j]) := fun o' => keep1 (step (Below.refl wr.heap.size wr) o') (keep1 HB.out (hb j _ (List.getElem?_eq_getElem hj')))
      have htk : Hid ((bs.take j).map bV ++ [bV bs[j]] = (bs.take (j + 1)).map bV) := hide (by rw [List.take_succ_eq_append_getElem hj', List.map_append]; rfl)
      have hps := hide (par_succ bs j hj')
      have uy := fun d => hide (upI_yes d bs j hj')
      have un := fun d => hide (upI_no d bs j hj')
      have hac : Hid (((bs.take j).map bV).length < 1000000) := hide (by rw [List.length_map, List.length_take]; omega)
      generalize bs[j] = x at *
      have hmn := ite_min
      have hBB : ∀ i, Hid (w1.heap.size ≤ ((wr.alloc (vO 2 i no)).alloc (vO 2 i no)).heap.size) := fun i => hide (Nat.le_trans hz.out (by simp; omega))
      have R3 := fun i => hide ((HV.out.keep (step (Below.refl wr.heap.size wr) (vO 2 i no))).keep (step (Below.refl _ _) (vO 2 i no)))
      have K3 := fun i => hide ((HB.out.alloc hz.out (vO 2 i no)).alloc (Nat.le_trans hz.out (by simp)) (vO 2 i no))
      have hrg : ∀ i, Hid (((wr.alloc (vO 2 i no)).alloc (vO 2 i no)).rangeAt (wr.heap.size + 1) 0 (vaC ⟨2, i, no⟩)) := fun i => hide (fun jj u hu => by
        have hb := T9.Blk.new1 wr (vO 2 i no) #[.int .i64 2, .int .i64 i, .string no] 28
        rw [hb.at', Nat.zero_add]
        simpa using hu)
      clear hb hj'
      have hm1 : (intOf (.int .i64 ((j : Int) + 1))).toNat = j + 1 := rfl
      have hm2 : (intOf (.int .i64 (j : Int))).toNat = j := rfl
      replace hm1 := hide hm1
      replace hm2 := hide hm2
      cases x with
      | true =>
        have hY' : Hid (min Y (j : Int) = (upI true bs (j + 1) : Nat)) := hide (by rw [hY.out, (uy true).out rfl]; omega)
        have hN' : Hid (N = (upI false bs (j + 1) : Nat)) := hide (by rw [hN.out, (un false).out (by decide)])
        cases hp : par (bs.take j) with
        | true =>
          obtain rfl : ov = 1 := by rw [ho.out, hp]; rfl
          have ho' : Hid ((0 : Int) = b2i (par (bs.take (j + 1)))) := hide (by rw [hps.out, hp]; rfl)
          replace hp := hide hp
          go_wp2_with (refine wpList_appV rfl _ _ rfl rfl rfl (R3 1).out (bV true) (hrg 1).out hac.out (hBB 1).out ?_; intro v5 w5 g1 g2)
          rw [htk.out] at g1
          refine ⟨⟨j + 1, _, _, _, hlt, rfl, rfl, rfl, rfl, ho', hN', hY', hide g1, hide ?_⟩, ?_⟩
          · exact ⟨g2.os.trans (K3 1).out.os, g2.tape.trans (K3 1).out.tape, g2.output.trans (K3 1).out.output, Nat.le_trans (K3 1).out.size g2.size, fun k hk => (g2.block k (Nat.lt_of_lt_of_le hk (hBB 1).out) (fun e => by have := (owns_lt (R3 1).out k e.symm).1; omega)).trans ((K3 1).out.block k hk)⟩
          · rw [hm1.out, hm2.out]; omega
        | false =>
          obtain rfl : ov = 0 := by rw [ho.out, hp]; rfl
          have ho' : Hid ((1 : Int) = b2i (par (bs.take (j + 1)))) := hide (by rw [hps.out, hp]; rfl)
          replace hp := hide hp
          go_wp2_with (refine wpList_appV rfl _ _ rfl rfl rfl (R3 1).out (bV true) (hrg 1).out hac.out (hBB 1).out ?_; intro v5 w5 g1 g2)
          rw [htk.out] at g1
          refine ⟨⟨j + 1, _, _, _, hlt, rfl, rfl, rfl, rfl, ho', hN', hY', hide g1, hide ?_⟩, ?_⟩
          · exact ⟨g2.os.trans (K3 1).out.os, g2.tape.trans (K3 1).out.tape, g2.output.trans (K3 1).out.output, Nat.le_trans (K3 1).out.size g2.size, fun k hk => (g2.block k (Nat.lt_of_lt_of_le hk (hBB 1).out) (fun e => by have := (owns_lt (R3 1).out k e.symm).1; omega)).trans ((K3 1).out.block k hk)⟩
          · rw [hm1.out, hm2.out]; omega
      | false =>
        have hN' : Hid (min N (j : Int) = (upI false bs (j + 1) : Nat)) := hide (by rw [hN.out, (uy false).out rfl]; omega)
        have hY' : Hid (Y = (upI true bs (j + 1) : Nat)) := hide (by rw [hY.out, (un true).out (by decide)])
        have ho' : Hid (ov = b2i (par (bs.take (j + 1)))) := hide (by rw [hps.out, ho.out]; cases par (bs.take j) <;> rfl)
        go_wp2_with (refine wpList_appV rfl _ _ rfl rfl rfl (R3 0).out (bV false) (hrg 0).out hac.out (hBB 0).out ?_; intro v5 w5 g1 g2)
        rw [htk.out] at g1
        refine ⟨⟨j + 1, _, _, _, hlt, rfl, rfl, rfl, rfl, ho', hN', hY', hide g1, hide ?_⟩, ?_⟩
        · exact ⟨g2.os.trans (K3 0).out.os, g2.tape.trans (K3 0).out.tape, g2.output.trans (K3 0).out.output, Nat.le_trans (K3 0).out.size g2.size, fun k hk => (g2.block k (Nat.lt_of_lt_of_le hk (hBB 0).out) (fun e => by have := (owns_lt (R3 0).out k e.symm).1; omega)).trans ((K3 0).out.block k hk)⟩
        · rw [hm1.out, hm2.out]; omega
    · obtain rfl : m = j := by omega
      have htk : Hid (bs.take m = bs) := hide (by rw [← hm.out]; exact List.take_length)
      have q0 : ¬ (m : Int) < (m : Int) := by omega
      have ho2 : Hid (b2i (par bs) = ov) := hide (by rw [ho.out, htk.out])
      have hN2 : Hid (N = (firstI false bs : Nat) ∧ N ≤ (m : Int)) := hide (by rw [hN.out, ← hm.out, upI_end]; have := firstI_le false bs; have := hm.out; omega)
      have hY2 : Hid (Y = (firstI true bs : Nat) ∧ Y ≤ (m : Int)) := hide (by rw [hY.out, ← hm.out, upI_end]; have := firstI_le true bs; have := hm.out; omega)
      obtain ⟨H65, H66, H67⟩ := HR1.out
      rw [ho2.out] at H67
      replace H67 := hide H67
      replace H65 := hide H65
      replace H66 := hide H66
      have hvs : Hid (ValsAt wr al (bs.map bV)) := hide (by have := HV.out.vals; rw [htk.out] at this; exact this)
      have hnl' : m = nl := by have := hnl.out; rw [htk.out, List.length_map, hm.out] at this; exact this.symm
      subst hnl'
      have KR := hide (next K1.out HB.out)
      clear ho hN hY HV HB hnl htk hz hj hlt
      obtain ⟨F0, hF0⟩ : ∃ F0, firstI false bs = F0 := ⟨_, rfl⟩
      obtain ⟨F1, hF1⟩ : ∃ F1, firstI true bs = F1 := ⟨_, rfl⟩
      rw [hF0, hm.out] at H65
      rw [hF1, hm.out] at H66
      rw [hF0] at hN2
      rw [hF1] at hY2
      rw [hm.out] at H67
      go_wp2_with fail
      refine (HCe.out _).mono ?_
      rintro e w2 ⟨rfl, hb2⟩
      have K2 := hide (next KR.out hb2)
      have A2 : Hid (ArgsAt (w2.alloc (agO (agC (m : Int)))) (· < (w2.alloc (agO (agC (m : Int)))).heap.size) (some ⟨w2.heap.size, 0, none⟩) [agC (bs.length : Nat)]) := hide (by rw [hm.out]; exact args1 w2 _)
      have V2 := hide ((hvs.out.keep hb2).keep (step (Below.refl w2.heap.size w2) (agO (agC (m : Int)))))
      have C65 := H65.out _ _ 1 A2.out al cl V2.out
      rw [hm.out] at C65
      replace C65 := hide C65
      have K2a := hide (step K2.out (agO (agC (m : Int))))
      clear hb2 hvs
      go_wp2_with fail
      refine C65.out.mono ?_
      rintro e w3 ⟨a3, c3, rfl, hb3⟩
      obtain ⟨x3, hx3⟩ : ∃ x3, b2i (if F0 < m then false else true) = x3 := ⟨_, rfl⟩
      obtain ⟨n3, hn3⟩ : ∃ n3, min (F0 + 1) m = n3 := ⟨_, rfl⟩
      rw [hx3, hn3]
      replace hx3 := hide hx3
      replace hn3 := hide hn3
      have K3 := hide (step (next K2a.out hb3) (vO 2 x3 no))
      have A3 := hide (args_below (args_below A2.out hb3) (step (Below.refl w3.heap.size w3) (vO 2 x3 no)))
      have V3 := hide ((V2.out.keep hb3).keep (step (Below.refl w3.heap.size w3) (vO 2 x3 no)))
      have X3 := hide (Blk.new w3 #[.int .i64 2, .int .i64 x3, .string no] 28)
      have C66 := H66.out _ _ 1 A3.out al cl V3.out
      rw [hm.out] at C66
      replace C66 := hide C66
      clear hb3 A2 V2 K2a C65
      go_wp2_with fail
      refine C66.out.mono ?_
      rintro e w4 ⟨a4, c4, rfl, hb4⟩
      obtain ⟨x4, hx4⟩ : ∃ x4, b2i (if F1 < m then true else false) = x4 := ⟨_, rfl⟩
      obtain ⟨n4, hn4⟩ : ∃ n4, min (F1 + 1) m = n4 := ⟨_, rfl⟩
      rw [hx4, hn4]
      replace hx4 := hide hx4
      replace hn4 := hide hn4
      have K4 := hide (step (next K3.out hb4) (vO 2 x4 no))
      have A4 := hide (args_below (args_below A3.out hb4) (step (Below.refl w4.heap.size w4) (vO 2 x4 no)))
      have V4 := hide ((V3.out.keep hb4).keep (step (Below.refl w4.heap.size w4) (vO 2 x4 no)))
      have X4 := hide ((X3.out.keep hb4).alloc (vO 2 x4 no))
      have Y4 := hide (Blk.new w4 #[.int .i64 2, .int .i64 x4, .string no] 28)
      have C67 := H67.out _ _ 1 A4.out al cl V4.out
      rw [hm.out] at C67
      replace C67 := hide C67
      clear hb4 A3 V3 X3 C66
      go_wp2_with fail
      refine C67.out.mono ?_
      rintro e w5 ⟨a5, c5, rfl, hb5⟩
      have K5 := hide (step (next K4.out hb5) (vO 2 ov no))
      have X5 := X4.out.keep hb5
      have Y5 := Y4.out.keep hb5
      have x0 : ∀ o1 o2 o3, (((w5.alloc o1).alloc o2).alloc o3).cell? ⟨w3.heap.size, 0, none⟩ = some (.int .i64 2) := fun o1 o2 o3 => (((X5.alloc o1).alloc o2).alloc o3).at' 0
      have x1 : ∀ o1 o2 o3, (((w5.alloc o1).alloc o2).alloc o3).cell? ⟨w3.heap.size, 1, none⟩ = some (.int .i64 x3) := fun o1 o2 o3 => (((X5.alloc o1).alloc o2).alloc o3).at' 1
      have x2 : ∀ o1 o2 o3, (((w5.alloc o1).alloc o2).alloc o3).cell? ⟨w3.heap.size, 2, none⟩ = some (.string no) := fun o1 o2 o3 => (((X5.alloc o1).alloc o2).alloc o3).at' 2
      have y0 : ∀ o1 o2 o3, (((w5.alloc o1).alloc o2).alloc o3).cell? ⟨w4.heap.size, 0, none⟩ = some (.int .i64 2) := fun o1 o2 o3 => (((Y5.alloc o1).alloc o2).alloc o3).at' 0
      have y1 : ∀ o1 o2 o3, (((w5.alloc o1).alloc o2).alloc o3).cell? ⟨w4.heap.size, 1, none⟩ = some (.int .i64 x4) := fun o1 o2 o3 => (((Y5.alloc o1).alloc o2).alloc o3).at' 1
      have y2 : ∀ o1 o2 o3, (((w5.alloc o1).alloc o2).alloc o3).cell? ⟨w4.heap.size, 2, none⟩ = some (.string no) := fun o1 o2 o3 => (((Y5.alloc o1).alloc o2).alloc o3).at' 2
      clear hb5 A4 V4 X4 Y4 C67 X5 Y5
      obtain ⟨hN3, hN4⟩ := hN2.out
      obtain ⟨hY3, hY4⟩ := hY2.out
      have hmn := ite_min
      have bN0 : 0 ≤ N := by omega
      have bN1 : N ≤ 300 := by omega
      have bY0 : 0 ≤ Y := by omega
      have bY1 : Y ≤ 300 := by omega
      have t3 : ((n3 : Int) == min (N + 1) (m : Int)) = true := by rw [beq_iff_eq]; have := hn3.out; omega
      have t4 : ((n4 : Int) == min (Y + 1) (m : Int)) = true := by rw [beq_iff_eq]; have := hn4.out; omega
      have KF : ∀ o1 o2, Hid (Below w.heap.size w (((w5.alloc (vO 2 ov no)).alloc o1).alloc o2)) := fun o1 o2 => hide (step (step K5.out o1) o2)
      by_cases c0 : F0 < m <;> by_cases c1 : F1 < m
      all_goals
        have e3 := hx3.out
        have e4 := hx4.out
        simp only [c0, c1, if_true, if_false, b2i, reduceIte, Bool.false_eq_true] at e3 e4
        subst e3 e4
      · have u1 : (N == (m : Int)) = false := by simp; omega
        have u2 : Y < (m : Int) := by omega
        have v3 := va_eqT 0
        have v4 := va_eqT 1
        have v5 := va_eqT ov
        clear hN3 hN4 hY3 hY4 c0 c1 hF0 hF1
        go_wp2_with fail
        go_ret
        exact ⟨rfl, (KF _ _).out⟩
      · have u1 : (N == (m : Int)) = false := by simp; omega
        have u2 : ¬ Y < (m : Int) := by omega
        have v3 := va_eqT 0
        have v4 := va_eqT 0
        have v5 := va_eqT ov
        clear hN3 hN4 hY3 hY4 c0 c1 hF0 hF1
        go_wp2_with fail
        go_ret
        exact ⟨rfl, (KF _ _).out⟩
      · have u1 : (N == (m : Int)) = true := by simp; omega
        have u2 : Y < (m : Int) := by omega
        have v3 := va_eqT 1
        have v4 := va_eqT 1
        have v5 := va_eqT ov
        clear hN3 hN4 hY3 hY4 c0 c1 hF0 hF1
        go_wp2_with fail
        go_ret
        exact ⟨rfl, (KF _ _).out⟩
      · have u1 : (N == (m : Int)) = true := by simp; omega
        have u2 : ¬ Y < (m : Int) := by omega
        have v3 := va_eqT 1
        have v4 := va_eqT 0
        have v5 := va_eqT ov
        clear hN3 hN4 hY3 hY4 c0 c1 hF0 hF1
        go_wp2_with fail
        go_ret
        exact ⟨rfl, (KF _ _).out⟩
set_option maxHeartbeats 8000000 in
set_option maxRecDepth 100000 in
theorem ft_great (bs : List Bool) (m : Nat) (hm3 : m ≤ 300) (hm : bs.length = m) (a : Option Addr) (cap : Nat) (len : Nat) (hl : 300 < len) (hcap : len ≤ cap) (hm300 : m = 300) (w : World) (h : BoolsAt w a bs) : Calls Tryz.prog 6 #[.slice a len cap] w fun e w' => e = .returned (.bool true) ∧ Below w.heap.size w w' := by
  have HR := hide (fun h1 => ft_run bs h1 (by omega))
  subst hm300
  obtain ⟨b0, o0, hab⟩ : ∃ b o, a = some ⟨b, o, none⟩ := by
    rcases h with h | ⟨b, o, h, _⟩
    · rw [h] at hm; cases hm
    · exact ⟨b, o, h⟩
  subst hab
  have hsl := fun w => slice300B b0 o0 len cap hl hcap w
  have pl : (300 : Int) < (len : Int) := by omega
  have pl' : 300 < len := hl
  clear hl hcap
  have HCe := cells_is 300 (by omega) (by omega)
  replace hm := hide hm
  replace h := hide h
  go_enter Tryz.func6, Tryz.ntmps6
  go_wp2_with fail
  refine (begun15.out _).mono ?_
  rintro e w1 ⟨rfl, hb1⟩
  have K1 := hide (next (Below.refl w.heap.size w) hb1)
  have h1 := hide (h.out.keep hb1)
  clear hb1 h
  have HR1 := hide (HR.out (by have := hm.out; omega))
  go_wp2_with fail
  go_loopw [3, 4, 5, 6, 7] (fun l od no ye i wr => ∃ (j : Nat) (ov N Y : Int), j ≤ (300 : Nat) ∧ i = .int .i64 (j : Int) ∧ od = .int .i64 ov ∧ no = .int .i64 N ∧ ye = .int .i64 Y ∧ Hid (ov = b2i (par (bs.take j))) ∧ Hid (N = (upI false bs j : Nat)) ∧ Hid (Y = (upI true bs j : Nat)) ∧ Hid (RowV wr w1.heap.size l ((bs.take j).map bV)) ∧ Hid (Below w1.heap.size w1 wr)) (fun _ _ _ _ i _ => (300 : Nat) - (intOf i).toNat)
  case atStart => exact ⟨0, 0, 300, 300, Nat.zero_le _, rfl, rfl, rfl, rfl, hide rfl, hide (by rw [upI_zero, hm.out]; rfl), hide (by rw [upI_zero, hm.out]; rfl), hide (RowV.nil _ _), hide (Below.refl _ _)⟩
  case round =>
    obtain ⟨j, ov, N, Y, hj, rfl, rfl, rfl, rfl, ho, hN, hY, HV, HB⟩ := hrel
    have hz : Hid (w1.heap.size ≤ wr.heap.size) := hide HB.out.size
    obtain ⟨al, nl, cl, rfl, hnl⟩ := HV.out.shapeN
    replace hnl := hide hnl
    by_cases hlt : j < 300
    · have q0 : (j : Int) < 300 := by omega
      have hj' : j < bs.length := by have := hm.out; omega
      obtain ⟨b, o, hab, hb⟩ : ∃ b o, some (⟨b0, o0, none⟩ : Addr) = some ⟨b, o, none⟩ ∧ ∀ (j : Nat) (x : Bool), bs[j]? = some x → w1.cell? ⟨b, o + j, none⟩ = some (.bool x) := by
        rcases h1.out with h | h
        · rw [h] at hj'; cases hj'
        · exact h
      cases hab
      have a0 : ∀ o', (wr.alloc o').cell? ⟨b0, o0 + j, none⟩ = some (.bool bs[j]) := fun o' => keep1 (step (Below.refl wr.heap.size wr) o') (keep1 HB.out (hb j _ (List.getElem?_eq_getElem hj')))
      have htk : Hid ((bs.take j).map bV ++ [bV bs[j]] = (bs.take (j + 1)).map bV) := hide (by rw [List.take_succ_eq_append_getElem hj', List.map_append]; rfl)
      have hps := hide (par_succ bs j hj')
      have uy := fun d => hide (upI_yes d bs j hj')
      have un := fun d => hide (upI_no d bs j hj')
      have hac : Hid (((bs.take j).map bV).length < 1000000) := hide (by rw [List.length_map, List.length_take]; omega)
      generalize bs[j] = x at *
      have hmn := ite_min
      have hBB : ∀ i, Hid (w1.heap.size ≤ ((wr.alloc (vO 2 i no)).alloc (vO 2 i no)).heap.size) := fun i => hide (Nat.le_trans hz.out (by simp; omega))
      have R3 := fun i => hide ((HV.out.keep (step (Below.refl wr.heap.size wr) (vO 2 i no))).keep (step (Below.refl _ _) (vO 2 i no)))
      have K3 := fun i => hide ((HB.out.alloc hz.out (vO 2 i no)).alloc (Nat.le_trans hz.out (by simp)) (vO 2 i no))
      have hrg : ∀ i, Hid (((wr.alloc (vO 2 i no)).alloc (vO 2 i no)).rangeAt (wr.heap.size + 1) 0 (vaC ⟨2, i, no⟩)) := fun i => hide (fun jj u hu => by
        have hb := T9.Blk.new1 wr (vO 2 i no) #[.int .i64 2, .int .i64 i, .string no] 28
        rw [hb.at', Nat.zero_add]
        simpa using hu)
      clear hb hj'
      have hm1 : (intOf (.int .i64 ((j : Int) + 1))).toNat = j + 1 := rfl
      have hm2 : (intOf (.int .i64 (j : Int))).toNat = j := rfl
      replace hm1 := hide hm1
      replace hm2 := hide hm2
      cases x with
      | true =>
        have hY' : Hid (min Y (j : Int) = (upI true bs (j + 1) : Nat)) := hide (by rw [hY.out, (uy true).out rfl]; omega)
        have hN' : Hid (N = (upI false bs (j + 1) : Nat)) := hide (by rw [hN.out, (un false).out (by decide)])
        cases hp : par (bs.take j) with
        | true =>
          obtain rfl : ov = 1 := by rw [ho.out, hp]; rfl
          have ho' : Hid ((0 : Int) = b2i (par (bs.take (j + 1)))) := hide (by rw [hps.out, hp]; rfl)
          replace hp := hide hp
          go_wp2_with (refine wpList_appV rfl _ _ rfl rfl rfl (R3 1).out (bV true) (hrg 1).out hac.out (hBB 1).out ?_; intro v5 w5 g1 g2)
          rw [htk.out] at g1
          refine ⟨⟨j + 1, _, _, _, hlt, rfl, rfl, rfl, rfl, ho', hN', hY', hide g1, hide ?_⟩, ?_⟩
          · exact ⟨g2.os.trans (K3 1).out.os, g2.tape.trans (K3 1).out.tape, g2.output.trans (K3 1).out.output, Nat.le_trans (K3 1).out.size g2.size, fun k hk => (g2.block k (Nat.lt_of_lt_of_le hk (hBB 1).out) (fun e => by have := (owns_lt (R3 1).out k e.symm).1; omega)).trans ((K3 1).out.block k hk)⟩
          · rw [hm1.out, hm2.out]; omega
        | false =>
          obtain rfl : ov = 0 := by rw [ho.out, hp]; rfl
          have ho' : Hid ((1 : Int) = b2i (par (bs.take (j + 1)))) := hide (by rw [hps.out, hp]; rfl)
          replace hp := hide hp
          go_wp2_with (refine wpList_appV rfl _ _ rfl rfl rfl (R3 1).out (bV true) (hrg 1).out hac.out (hBB 1).out ?_; intro v5 w5 g1 g2)
          rw [htk.out] at g1
          refine ⟨⟨j + 1, _, _, _, hlt, rfl, rfl, rfl, rfl, ho', hN', hY', hide g1, hide ?_⟩, ?_⟩
          · exact ⟨g2.os.trans (K3 1).out.os, g2.tape.trans (K3 1).out.tape, g2.output.trans (K3 1).out.output, Nat.le_trans (K3 1).out.size g2.size, fun k hk => (g2.block k (Nat.lt_of_lt_of_le hk (hBB 1).out) (fun e => by have := (owns_lt (R3 1).out k e.symm).1; omega)).trans ((K3 1).out.block k hk)⟩
          · rw [hm1.out, hm2.out]; omega
      | false =>
        have hN' : Hid (min N (j : Int) = (upI false bs (j + 1) : Nat)) := hide (by rw [hN.out, (uy false).out rfl]; omega)
        have hY' : Hid (Y = (upI true bs (j + 1) : Nat)) := hide (by rw [hY.out, (un true).out (by decide)])
        have ho' : Hid (ov = b2i (par (bs.take (j + 1)))) := hide (by rw [hps.out, ho.out]; cases par (bs.take j) <;> rfl)
        go_wp2_with (refine wpList_appV rfl _ _ rfl rfl rfl (R3 0).out (bV false) (hrg 0).out hac.out (hBB 0).out ?_; intro v5 w5 g1 g2)
        rw [htk.out] at g1
        refine ⟨⟨j + 1, _, _, _, hlt, rfl, rfl, rfl, rfl, ho', hN', hY', hide g1, hide ?_⟩, ?_⟩
        · exact ⟨g2.os.trans (K3 0).out.os, g2.tape.trans (K3 0).out.tape, g2.output.trans (K3 0).out.output, Nat.le_trans (K3 0).out.size g2.size, fun k hk => (g2.block k (Nat.lt_of_lt_of_le hk (hBB 0).out) (fun e => by have := (owns_lt (R3 0).out k e.symm).1; omega)).trans ((K3 0).out.block k hk)⟩
        · rw [hm1.out, hm2.out]; omega
    · obtain rfl : j = 300 := by omega
      have htk : Hid (bs.take 300 = bs) := hide (by rw [← hm.out]; exact List.take_length)
      have q0 : ¬ 300 < 300 := by omega
      have ho2 : Hid (b2i (par bs) = ov) := hide (by rw [ho.out, htk.out])
      have hN2 : Hid (N = (firstI false bs : Nat) ∧ N ≤ 300) := hide (by rw [hN.out, ← hm.out, upI_end]; have := firstI_le false bs; have := hm.out; omega)
      have hY2 : Hid (Y = (firstI true bs : Nat) ∧ Y ≤ 300) := hide (by rw [hY.out, ← hm.out, upI_end]; have := firstI_le true bs; have := hm.out; omega)
      obtain ⟨H65, H66, H67⟩ := HR1.out
      rw [ho2.out] at H67
      replace H67 := hide H67
      replace H65 := hide H65
      replace H66 := hide H66
      have hvs : Hid (ValsAt wr al (bs.map bV)) := hide (by have := HV.out.vals; rw [htk.out] at this; exact this)
      have hnl' : 300 = nl := by have := hnl.out; rw [htk.out, List.length_map, hm.out] at this; exact this.symm
      subst hnl'
      have KR := hide (next K1.out HB.out)
      clear ho hN hY HV HB hnl htk hz hj hlt
      obtain ⟨F0, hF0⟩ : ∃ F0, firstI false bs = F0 := ⟨_, rfl⟩
      obtain ⟨F1, hF1⟩ : ∃ F1, firstI true bs = F1 := ⟨_, rfl⟩
      rw [hF0, hm.out] at H65
      rw [hF1, hm.out] at H66
      rw [hF0] at hN2
      rw [hF1] at hY2
      rw [hm.out] at H67
      go_wp2_with fail
      refine (HCe.out _).mono ?_
      rintro e w2 ⟨rfl, hb2⟩
      have K2 := hide (next KR.out hb2)
      have A2 : Hid (ArgsAt (w2.alloc (agO (agC 300))) (· < (w2.alloc (agO (agC 300))).heap.size) (some ⟨w2.heap.size, 0, none⟩) [agC (bs.length : Nat)]) := hide (by rw [hm.out]; exact args1 w2 _)
      have V2 := hide ((hvs.out.keep hb2).keep (step (Below.refl w2.heap.size w2) (agO (agC 300))))
      have C65 := H65.out _ _ 1 A2.out al cl V2.out
      rw [hm.out] at C65
      replace C65 := hide C65
      have K2a := hide (step K2.out (agO (agC 300)))
      clear hb2 hvs
      go_wp2_with fail
      refine C65.out.mono ?_
      rintro e w3 ⟨a3, c3, rfl, hb3⟩
      obtain ⟨x3, hx3⟩ : ∃ x3, b2i (if F0 < (300 : Nat) then false else true) = x3 := ⟨_, rfl⟩
      obtain ⟨n3, hn3⟩ : ∃ n3, min (F0 + 1) (300 : Nat) = n3 := ⟨_, rfl⟩
      rw [hx3, hn3]
      replace hx3 := hide hx3
      replace hn3 := hide hn3
      have K3 := hide (step (next K2a.out hb3) (vO 2 x3 no))
      have A3 := hide (args_below (args_below A2.out hb3) (step (Below.refl w3.heap.size w3) (vO 2 x3 no)))
      have V3 := hide ((V2.out.keep hb3).keep (step (Below.refl w3.heap.size w3) (vO 2 x3 no)))
      have X3 := hide (Blk.new w3 #[.int .i64 2, .int .i64 x3, .string no] 28)
      have C66 := H66.out _ _ 1 A3.out al cl V3.out
      rw [hm.out] at C66
      replace C66 := hide C66
      clear hb3 A2 V2 K2a C65
      go_wp2_with fail
      refine C66.out.mono ?_
      rintro e w4 ⟨a4, c4, rfl, hb4⟩
      obtain ⟨x4, hx4⟩ : ∃ x4, b2i (if F1 < (300 : Nat) then true else false) = x4 := ⟨_, rfl⟩
      obtain ⟨n4, hn4⟩ : ∃ n4, min (F1 + 1) (300 : Nat) = n4 := ⟨_, rfl⟩
      rw [hx4, hn4]
      replace hx4 := hide hx4
      replace hn4 := hide hn4
      have K4 := hide (step (next K3.out hb4) (vO 2 x4 no))
      have A4 := hide (args_below (args_below A3.out hb4) (step (Below.refl w4.heap.size w4) (vO 2 x4 no)))
      have V4 := hide ((V3.out.keep hb4).keep (step (Below.refl w4.heap.size w4) (vO 2 x4 no)))
      have X4 := hide ((X3.out.keep hb4).alloc (vO 2 x4 no))
      have Y4 := hide (Blk.new w4 #[.int .i64 2, .int .i64 x4, .string no] 28)
      have C67 := H67.out _ _ 1 A4.out al cl V4.out
      rw [hm.out] at C67
      replace C67 := hide C67
      clear hb4 A3 V3 X3 C66
      go_wp2_with fail
      refine C67.out.mono ?_
      rintro e w5 ⟨a5, c5, rfl, hb5⟩
      have K5 := hide (step (next K4.out hb5) (vO 2 ov no))
      have X5 := X4.out.keep hb5
      have Y5 := Y4.out.keep hb5
      have x0 : ∀ o1 o2 o3, (((w5.alloc o1).alloc o2).alloc o3).cell? ⟨w3.heap.size, 0, none⟩ = some (.int .i64 2) := fun o1 o2 o3 => (((X5.alloc o1).alloc o2).alloc o3).at' 0
      have x1 : ∀ o1 o2 o3, (((w5.alloc o1).alloc o2).alloc o3).cell? ⟨w3.heap.size, 1, none⟩ = some (.int .i64 x3) := fun o1 o2 o3 => (((X5.alloc o1).alloc o2).alloc o3).at' 1
      have x2 : ∀ o1 o2 o3, (((w5.alloc o1).alloc o2).alloc o3).cell? ⟨w3.heap.size, 2, none⟩ = some (.string no) := fun o1 o2 o3 => (((X5.alloc o1).alloc o2).alloc o3).at' 2
      have y0 : ∀ o1 o2 o3, (((w5.alloc o1).alloc o2).alloc o3).cell? ⟨w4.heap.size, 0, none⟩ = some (.int .i64 2) := fun o1 o2 o3 => (((Y5.alloc o1).alloc o2).alloc o3).at' 0
      have y1 : ∀ o1 o2 o3, (((w5.alloc o1).alloc o2).alloc o3).cell? ⟨w4.heap.size, 1, none⟩ = some (.int .i64 x4) := fun o1 o2 o3 => (((Y5.alloc o1).alloc o2).alloc o3).at' 1
      have y2 : ∀ o1 o2 o3, (((w5.alloc o1).alloc o2).alloc o3).cell? ⟨w4.heap.size, 2, none⟩ = some (.string no) := fun o1 o2 o3 => (((Y5.alloc o1).alloc o2).alloc o3).at' 2
      clear hb5 A4 V4 X4 Y4 C67 X5 Y5
      obtain ⟨hN3, hN4⟩ := hN2.out
      obtain ⟨hY3, hY4⟩ := hY2.out
      have hmn := ite_min
      have bN0 : 0 ≤ N := by omega
      have bN1 : N ≤ 300 := by omega
      have bY0 : 0 ≤ Y := by omega
      have bY1 : Y ≤ 300 := by omega
      have t3 : ((n3 : Int) == min (N + 1) 300) = true := by rw [beq_iff_eq]; have := hn3.out; omega
      have t4 : ((n4 : Int) == min (Y + 1) 300) = true := by rw [beq_iff_eq]; have := hn4.out; omega
      have KF : ∀ o1 o2, Hid (Below w.heap.size w (((w5.alloc (vO 2 ov no)).alloc o1).alloc o2)) := fun o1 o2 => hide (step (step K5.out o1) o2)
      by_cases c0 : F0 < (300 : Nat) <;> by_cases c1 : F1 < (300 : Nat)
      all_goals
        have e3 := hx3.out
        have e4 := hx4.out
        simp only [c0, c1, if_true, if_false, b2i, reduceIte, Bool.false_eq_true] at e3 e4
        subst e3 e4
      · have u1 : (N == 300) = false := by simp; omega
        have u2 : Y < 300 := by omega
        have v3 := va_eqT 0
        have v4 := va_eqT 1
        have v5 := va_eqT ov
        clear hN3 hN4 hY3 hY4 c0 c1 hF0 hF1
        go_wp2_with fail
        go_ret
        exact ⟨rfl, (KF _ _).out⟩
      · have u1 : (N == 300) = false := by simp; omega
        have u2 : ¬ Y < 300 := by omega
        have v3 := va_eqT 0
        have v4 := va_eqT 0
        have v5 := va_eqT ov
        clear hN3 hN4 hY3 hY4 c0 c1 hF0 hF1
        go_wp2_with fail
        go_ret
        exact ⟨rfl, (KF _ _).out⟩
      · have u1 : (N == 300) = true := by simp; omega
        have u2 : Y < 300 := by omega
        have v3 := va_eqT 1
        have v4 := va_eqT 1
        have v5 := va_eqT ov
        clear hN3 hN4 hY3 hY4 c0 c1 hF0 hF1
        go_wp2_with fail
        go_ret
        exact ⟨rfl, (KF _ _).out⟩
      · have u1 : (N == 300) = true := by simp; omega
        have u2 : ¬ Y < 300 := by omega
        have v3 := va_eqT 1
        have v4 := va_eqT 0
        have v5 := va_eqT ov
        clear hN3 hN4 hY3 hY4 c0 c1 hF0 hF1
        go_wp2_with fail
        go_ret
        exact ⟨rfl, (KF _ _).out⟩
end Go.Proofs.YtchphbclaapfhaaGreatDoor
