/- quadrillelaw10.Nodes and Small; quadrillelaw12.refs and lost; sound. -/
import Derived.Test.YtbljdmegdejboaaBegun12
namespace Go.Proofs.Ytbljdmegdejboaa
open Go.RowKit Go.Sort
set_option linter.unusedVariables false

mutual
/-- What is left of n behind a tree's nodes. -/
def ndsE : Ex → Int → Int | .mk nd ks, n => ndsL ks (n - 1 - (nd.text.size : Int) / 1024)
def ndsL : List Ex → Int → Int | [], n => n | k :: r, n => if 0 ≤ n then ndsL r (ndsE k n) else n
end
theorem ndsL_at (ks : List Ex) (i : Nat) (hi : i < ks.length) (n : Int) : ndsL (ks.drop i) n = if 0 ≤ n then ndsL (ks.drop (i + 1)) (ndsE ks[i] n) else n := by
  rw [List.drop_eq_getElem_cons hi, ndsL]
theorem tdiv_pos (x : Nat) : 0 ≤ (x : Int) / 1024 ∧ (x : Int) / 1024 ≤ x := by
  omega
mutual
theorem nds_le : ∀ (t : Ex) (n : Int), ndsE t n ≤ n ∧ (0 ≤ ndsE t n → (nodesE t : Int) ≤ n - ndsE t n)
  | .mk nd ks, n => by
    have h := nds_leL ks (n - 1 - (nd.text.size : Int) / 1024)
    have := (tdiv_pos nd.text.size).1
    rw [ndsE, nodesE]
    refine ⟨by omega, fun h0 => ?_⟩
    have := h.2 h0
    omega
theorem nds_leL : ∀ (ks : List Ex) (n : Int), ndsL ks n ≤ n ∧ (0 ≤ ndsL ks n → (nodesL ks : Int) ≤ n - ndsL ks n)
  | [], n => by rw [ndsL, nodesL]; exact ⟨Int.le_refl _, fun _ => by omega⟩
  | k :: r, n => by
    rw [ndsL, nodesL]
    by_cases h : 0 ≤ n
    · rw [if_pos h]
      have h1 := nds_le k n
      have h2 := nds_leL r (ndsE k n)
      refine ⟨by omega, fun h0 => ?_⟩
      have := h2.2 h0
      have := h1.2 (by omega)
      omega
    · rw [if_neg h]; exact ⟨Int.le_refl _, fun h0 => absurd h0 h⟩
end
mutual
theorem nds_ge : ∀ (t : Ex) (n : Int), SmE t → 0 ≤ n → -4611686018427387905 ≤ ndsE t n
  | .mk nd ks, n, hs, h => by
    unfold SmE at hs
    rw [ndsE]
    have := (tdiv_pos nd.text.size).2
    have h1 := hs.1
    exact nds_geL ks _ hs.2.2 (by omega)
theorem nds_geL : ∀ (ks : List Ex) (n : Int), SmL ks → -4611686018427387905 ≤ n → -4611686018427387905 ≤ ndsL ks n
  | [], n, hs, h => by rw [ndsL]; exact h
  | k :: r, n, hs, h => by
    unfold SmL at hs
    rw [ndsL]
    by_cases q : 0 ≤ n
    · rw [if_pos q]; exact nds_geL r _ hs.2 (nds_ge k n hs.1 q)
    · rw [if_neg q]; exact h
end
abbrev NodesIs (t : Ex) : Prop := ∀ (v : Value) (w : World) (n : Int), Tree w v t → 0 ≤ n → n ≤ 2000 → Calls Try.prog 26 #[v, .int .i64 n] w fun e w' => e = .returned (.int .i64 (ndsE t n)) ∧ Below w.heap.size w w'
set_option maxHeartbeats 2000000 in
set_option maxRecDepth 100000 in
theorem nodes_any : ∀ t, NodesIs t := by
  refine Ex.ind fun nd ks ih => ?_
  intro v w n ht h0 h1
  have hsm := In.sm _ ht
  obtain ⟨a, len, cap, rfl, _, _, htx, _⟩ := ht.un
  have hK := ht.kidsAt
  have hlen := hide hK.lq
  have hsml := hide hK.small
  have c13 := (at14 nd (.slice a len cap)).c13
  have c3 := (at14 nd (.slice a len cap)).c3
  have P0 := hide (Blk.new w (exC nd (.slice a len cap)) 29)
  have B0 := hide (step (Below.refl w.heap.size w) (exO nd (.slice a len cap)))
  have q3 := (P0.out.at' 3).trans c3
  have q13 := (P0.out.at' 13).trans c13
  have td := tdiv_pos nd.text.size
  have htx' := htx.out
  have hN : Hid (ndsE (.mk nd ks) n = ndsL (ks.drop 0) (n - 1 - (nd.text.size : Int) / 1024)) := hide (by rw [ndsE, List.drop_zero])
  have hsL : Hid (SmL ks) := hide (by unfold SmE at hsm; exact hsm.2.2)
  have w1 := IntWalk.wrap64_in (n - 1) ⟨by omega, by omega⟩
  have w0 := IntWalk.wrap64_in ((nd.text.size : Int) / 1024) ⟨by omega, by omega⟩
  have w2 := IntWalk.wrap64_in (n - 1 - (nd.text.size : Int) / 1024) ⟨by omega, by omega⟩
  have bdn : Hid (-4611686018427387905 ≤ n - 1 - (nd.text.size : Int) / 1024 ∧ n - 1 - (nd.text.size : Int) / 1024 ≤ 2000) := hide (by omega)
  replace ih := hide ih
  replace hK := hide hK
  clear ht hsm htx htx'
  go_enter Try.func26, Try.ntmps26
  go_wp2_with fail
  generalize hM : n - 1 - (nd.text.size : Int) / 1024 = M at *
  clear w0 w1 td hM q3 q13
  go_loopw [1, 5] (fun m i wr => ∃ (k : Nat) (x : Int), k ≤ len ∧ m = .int .i64 x ∧ i = .int .i64 k ∧ Hid (ndsE (.mk nd ks) n = ndsL (ks.drop k) x) ∧ Hid (-4611686018427387905 ≤ x ∧ x ≤ 2000) ∧ Hid (Below (w.alloc (exO nd (.slice a len cap))).heap.size (w.alloc (exO nd (.slice a len cap))) wr)) (fun _ i _ => len - (intOf i).toNat)
  case atStart => exact ⟨0, M, Nat.zero_le _, by rw [w2], rfl, hN, bdn, Below.refl _ _⟩
  case round =>
    obtain ⟨k, x, hkl, rfl, rfl, HL, HX, HB⟩ := hrel
    clear w2
    have z13 := ((P0.out.keep HB.out).at' 13).trans c13
    by_cases hlt : k < len
    · have p0 : (k : Int) < (len : Int) := by omega
      have hk2 : k < ks.length := by have := hlen.out; omega
      have hat := ndsL_at ks k hk2 x
      by_cases hx : 0 ≤ x
      · obtain ⟨b0, o0, rfl, hk1, aa, ll, cc, tk, rk⟩ := hK.out.get hlt
        have bw := hide (next B0.out HB.out)
        have R1 := hide (range_of_block rk (bw.out.block b0 (World.block_lt_of_cell? w ⟨b0, _, none⟩ (rk 0 _ rfl))))
        have hx2 := HX.out.2
        have IH := hide (ih.out _ (List.getElem_mem hk1) _ wr x (tk.step bw.out) hx hx2)
        have hbl := hide (nds_le ks[k] x).1
        have hbg := hide (nds_ge ks[k] x (hsL.out.get _ (List.getElem_mem hk1)) hx)
        rw [if_pos hx] at hat
        have hat' := hide (HL.out.trans hat)
        have wk := IntWalk.wrap64_in ((k : Int) + 1) ⟨by omega, by have := hsml.out; omega⟩
        generalize ks[k] = tk' at *
        clear tk rk hat
        go_wp2_with (first
          | (refine wpList_load_at rfl 29 _ rfl _ _ rfl _ _ (by with_reducible exact R1.out) Try.underlying29 rfl (exC_info _ _) ?_)
          | (go_at_call 26; refine IH.out.mono ?_; rintro e w4 ⟨rfl, hb4⟩; have b4 := hide (next HB.out hb4); clear hb4))
        refine ⟨⟨k + 1, _, hlt, rfl, by rw [wk]; rfl, hat', hide ⟨hbg.out, by have := hbl.out; omega⟩, b4⟩, ?_⟩
        rw [wk]
        exact meas_lt hlt
      · rw [if_neg hx] at hat
        have hat' := hide (HL.out.trans hat)
        clear hat
        go_wp2_with fail
        go_ret
        exact ⟨by rw [hat'.out]; rfl, next B0.out HB.out⟩
    · obtain rfl : k = len := by omega
      have hh := HL.out
      rw [List.drop_eq_nil_of_le (by have := hlen.out; omega), ndsL] at hh
      replace hh := hide hh
      go_wp2_with fail
      go_ret
      exact ⟨by rw [hh.out]; rfl, next B0.out HB.out⟩
theorem small_any (t : Ex) (v : Value) (w : World) (ht : Tree w v t) : Calls Try.prog 7 #[v] w fun e w' => e = .returned (.bool (decide (0 ≤ ndsE t 2000))) ∧ Below w.heap.size w w' := by
  obtain ⟨a, len, cap, rfl, -, -, -, -⟩ := ht.open
  have P0 := hide (Blk.new w (exC t.nd (.slice a len cap)) 29)
  have B0 := hide (step (Below.refl w.heap.size w) (exO t.nd (.slice a len cap)))
  have HN := hide (nodes_any t _ _ 2000 (ht.step B0.out) (by omega) (by omega))
  clear ht
  go_enter Try.func7, Try.ntmps7
  go_wp2_with (first
    | (refine wpList_load_blk rfl 29 _ rfl _ rfl _ (by with_reducible exact P0.out) _ Try.underlying29 rfl (exC_info _ _) ?_)
    | (go_at_call 26; refine HN.out.mono ?_; rintro e w1 ⟨rfl, hb⟩; have b1 := hide (next B0.out hb); clear hb))
  go_ret
  exact ⟨rfl, b1.out⟩
mutual
theorem refs_nodes : ∀ t : Ex, refsE t ≤ nodesE t
  | .mk nd ks => by
    rw [refsE, nodesE]
    have := refs_nodesL ks
    split <;> omega
theorem refs_nodesL : ∀ ks : List Ex, refsL ks ≤ nodesL ks
  | [] => by rw [refsL, nodesL]; exact Nat.le_refl _
  | k :: r => by rw [refsL, nodesL]; have := refs_nodes k; have := refs_nodesL r; omega
end
theorem refsL_take (ks : List Ex) (k : Nat) (hk : k < ks.length) : refsL (ks.take (k + 1)) = refsL (ks.take k) + refsE ks[k] := by
  rw [List.take_succ_eq_append_getElem hk]
  generalize ks.take k = l
  induction l with
  | nil => rw [List.nil_append, refsL, refsL, refsL]; omega
  | cons x r ih => rw [List.cons_append, refsL, refsL, ih]; omega
theorem nodesL_take (ks : List Ex) (k : Nat) : nodesL (ks.take k) ≤ nodesL ks := by
  induction ks generalizing k with
  | nil => simp
  | cons x r ih => cases k with
    | zero => rw [List.take_zero, nodesL]; omega
    | succ k => rw [List.take_succ_cons, nodesL, nodesL]; have := ih k; omega
abbrev RefsIs (t : Ex) : Prop := ∀ (v : Value) (w : World), Tree w v t → nodesE t ≤ 512 → Calls Try.prog 17 #[v] w fun e w' => e = .returned (.int .i64 (refsE t : Int)) ∧ Below w.heap.size w w'
set_option maxHeartbeats 2000000 in
set_option maxRecDepth 100000 in
theorem refs_5 (nd : Nd) (ks : List Ex) (ih : ∀ k ∈ ks, RefsIs k) (a : Option Addr) (len cap : Nat) (w : World) (ht : Tree w (exV nd (.slice a len cap)) (.mk nd ks)) (hn : nodesE (.mk nd ks) ≤ 512) (k5 : (nd.kind == 5) = true) :
    Calls Try.prog 17 #[exV nd (.slice a len cap)] w fun e w' => e = .returned (.int .i64 ((1 + refsL ks : Nat) : Int)) ∧ Below w.heap.size w w' := by
  have hK := ht.kidsAt
  have hlen := hide hK.lq
  have c13 := (at14 nd (.slice a len cap)).c13
  have c0 := (at14 nd (.slice a len cap)).c0
  have P0 := hide (Blk.new w (exC nd (.slice a len cap)) 29)
  have B0 := hide (step (Below.refl w.heap.size w) (exO nd (.slice a len cap)))
  have q0 := (P0.out.at' 0).trans c0
  have hnk : Hid (∀ k ∈ ks, nodesE k ≤ 512) := hide (fun k hk => by have := nodes_mem hk; rw [nodesE] at hn; omega)
  have hnl : Hid (nodesL ks ≤ 511) := hide (by rw [nodesE] at hn; omega)
  have hle : Hid (len ≤ 511) := hide (by have := len_nodes ks; have := hnl.out; have := hlen.out; omega)
  replace ih := hide ih
  replace hK := hide hK
  clear ht hn
  go_enter Try.func17, Try.ntmps17
  go_wp2_with fail
  clear k5 q0
  go_loopw [3, 4] (fun m i wr => ∃ (k x : Nat), k ≤ len ∧ m = .int .i64 (x : Int) ∧ i = .int .i64 k ∧ Hid (x = 1 + refsL (ks.take k)) ∧ Hid (Below (w.alloc (exO nd (.slice a len cap))).heap.size (w.alloc (exO nd (.slice a len cap))) wr)) (fun _ i _ => len - (intOf i).toNat)
  case atStart => exact ⟨0, 1, Nat.zero_le _, rfl, rfl, hide (by rw [List.take_zero, refsL]), Below.refl _ _⟩
  case round =>
    obtain ⟨k, x, hkl, rfl, rfl, HL, HB⟩ := hrel
    have z13 := ((P0.out.keep HB.out).at' 13).trans c13
    by_cases hlt : k < len
    · have p0 : (k : Int) < (len : Int) := by omega
      obtain ⟨b0, o0, rfl, hk1, aa, ll, cc, tk, rk⟩ := hK.out.get hlt
      have bw := hide (next B0.out HB.out)
      have R1 := hide (range_of_block rk (bw.out.block b0 (World.block_lt_of_cell? w ⟨b0, _, none⟩ (rk 0 _ rfl))))
      have IH := hide (ih.out _ (List.getElem_mem hk1) _ wr (tk.step bw.out) (hnk.out _ (List.getElem_mem hk1)))
      have hx : Hid (x ≤ 512) := hide (by have := HL.out; have := refs_nodesL (ks.take k); have := nodesL_take ks k; have := hnl.out; omega)
      have hy : Hid (refsE ks[k] ≤ 512) := hide (Nat.le_trans (refs_nodes _) (hnk.out _ (List.getElem_mem hk1)))
      have hat := hide (refsL_take ks k hk1)
      have wk := IntWalk.wrap64_in ((k : Int) + 1) ⟨by omega, by have := hle.out; omega⟩
      generalize ks[k] = tk' at *
      have wx := IntWalk.wrap64_in ((x : Int) + (refsE tk' : Int)) ⟨by omega, by have := hx.out; have := hy.out; omega⟩
      clear tk rk
      go_wp2_with (first
        | (refine wpList_load_at rfl 29 _ rfl _ _ rfl _ _ (by with_reducible exact R1.out) Try.underlying29 rfl (exC_info _ _) ?_)
        | (go_at_call 17; refine IH.out.mono ?_; rintro e w4 ⟨rfl, hb4⟩; have b4 := hide (next HB.out hb4); clear hb4))
      refine ⟨⟨k + 1, x + refsE tk', hlt, by rw [wx]; rfl, by rw [wk]; rfl, hide (by rw [hat.out, HL.out]; omega), b4⟩, ?_⟩
      rw [wk]
      exact meas_lt hlt
    · obtain rfl : k = len := by omega
      have hh := HL.out
      rw [List.take_of_length_le (by have := hlen.out; omega)] at hh
      replace hh := hide hh
      go_wp2_with fail
      go_ret
      exact ⟨by rw [hh.out]; rfl, next B0.out HB.out⟩
set_option maxHeartbeats 2000000 in
set_option maxRecDepth 100000 in
theorem refs_6 (nd : Nd) (ks : List Ex) (ih : ∀ k ∈ ks, RefsIs k) (a : Option Addr) (len cap : Nat) (w : World) (ht : Tree w (exV nd (.slice a len cap)) (.mk nd ks)) (hn : nodesE (.mk nd ks) ≤ 512) (k5 : (nd.kind == 5) = false) (k6 : (nd.kind == 6) = true) :
    Calls Try.prog 17 #[exV nd (.slice a len cap)] w fun e w' => e = .returned (.int .i64 ((1 + refsL ks : Nat) : Int)) ∧ Below w.heap.size w w' := by
  have hK := ht.kidsAt
  have hlen := hide hK.lq
  have c13 := (at14 nd (.slice a len cap)).c13
  have c0 := (at14 nd (.slice a len cap)).c0
  have P0 := hide (Blk.new w (exC nd (.slice a len cap)) 29)
  have B0 := hide (step (Below.refl w.heap.size w) (exO nd (.slice a len cap)))
  have q0 := (P0.out.at' 0).trans c0
  have hnk : Hid (∀ k ∈ ks, nodesE k ≤ 512) := hide (fun k hk => by have := nodes_mem hk; rw [nodesE] at hn; omega)
  have hnl : Hid (nodesL ks ≤ 511) := hide (by rw [nodesE] at hn; omega)
  have hle : Hid (len ≤ 511) := hide (by have := len_nodes ks; have := hnl.out; have := hlen.out; omega)
  replace ih := hide ih
  replace hK := hide hK
  clear ht hn
  go_enter Try.func17, Try.ntmps17
  go_wp2_with fail
  clear k5 k6 q0
  go_loopw [3, 4] (fun m i wr => ∃ (k x : Nat), k ≤ len ∧ m = .int .i64 (x : Int) ∧ i = .int .i64 k ∧ Hid (x = 1 + refsL (ks.take k)) ∧ Hid (Below (w.alloc (exO nd (.slice a len cap))).heap.size (w.alloc (exO nd (.slice a len cap))) wr)) (fun _ i _ => len - (intOf i).toNat)
  case atStart => exact ⟨0, 1, Nat.zero_le _, rfl, rfl, hide (by rw [List.take_zero, refsL]), Below.refl _ _⟩
  case round =>
    obtain ⟨k, x, hkl, rfl, rfl, HL, HB⟩ := hrel
    have z13 := ((P0.out.keep HB.out).at' 13).trans c13
    by_cases hlt : k < len
    · have p0 : (k : Int) < (len : Int) := by omega
      obtain ⟨b0, o0, rfl, hk1, aa, ll, cc, tk, rk⟩ := hK.out.get hlt
      have bw := hide (next B0.out HB.out)
      have R1 := hide (range_of_block rk (bw.out.block b0 (World.block_lt_of_cell? w ⟨b0, _, none⟩ (rk 0 _ rfl))))
      have IH := hide (ih.out _ (List.getElem_mem hk1) _ wr (tk.step bw.out) (hnk.out _ (List.getElem_mem hk1)))
      have hx : Hid (x ≤ 512) := hide (by have := HL.out; have := refs_nodesL (ks.take k); have := nodesL_take ks k; have := hnl.out; omega)
      have hy : Hid (refsE ks[k] ≤ 512) := hide (Nat.le_trans (refs_nodes _) (hnk.out _ (List.getElem_mem hk1)))
      have hat := hide (refsL_take ks k hk1)
      have wk := IntWalk.wrap64_in ((k : Int) + 1) ⟨by omega, by have := hle.out; omega⟩
      generalize ks[k] = tk' at *
      have wx := IntWalk.wrap64_in ((x : Int) + (refsE tk' : Int)) ⟨by omega, by have := hx.out; have := hy.out; omega⟩
      clear tk rk
      go_wp2_with (first
        | (refine wpList_load_at rfl 29 _ rfl _ _ rfl _ _ (by with_reducible exact R1.out) Try.underlying29 rfl (exC_info _ _) ?_)
        | (go_at_call 17; refine IH.out.mono ?_; rintro e w4 ⟨rfl, hb4⟩; have b4 := hide (next HB.out hb4); clear hb4))
      refine ⟨⟨k + 1, x + refsE tk', hlt, by rw [wx]; rfl, by rw [wk]; rfl, hide (by rw [hat.out, HL.out]; omega), b4⟩, ?_⟩
      rw [wk]
      exact meas_lt hlt
    · obtain rfl : k = len := by omega
      have hh := HL.out
      rw [List.take_of_length_le (by have := hlen.out; omega)] at hh
      replace hh := hide hh
      go_wp2_with fail
      go_ret
      exact ⟨by rw [hh.out]; rfl, next B0.out HB.out⟩
set_option maxHeartbeats 2000000 in
set_option maxRecDepth 100000 in
theorem refs_o (nd : Nd) (ks : List Ex) (ih : ∀ k ∈ ks, RefsIs k) (a : Option Addr) (len cap : Nat) (w : World) (ht : Tree w (exV nd (.slice a len cap)) (.mk nd ks)) (hn : nodesE (.mk nd ks) ≤ 512) (k5 : (nd.kind == 5) = false) (k6 : (nd.kind == 6) = false) :
    Calls Try.prog 17 #[exV nd (.slice a len cap)] w fun e w' => e = .returned (.int .i64 ((0 + refsL ks : Nat) : Int)) ∧ Below w.heap.size w w' := by
  have hK := ht.kidsAt
  have hlen := hide hK.lq
  have c13 := (at14 nd (.slice a len cap)).c13
  have c0 := (at14 nd (.slice a len cap)).c0
  have P0 := hide (Blk.new w (exC nd (.slice a len cap)) 29)
  have B0 := hide (step (Below.refl w.heap.size w) (exO nd (.slice a len cap)))
  have q0 := (P0.out.at' 0).trans c0
  have hnk : Hid (∀ k ∈ ks, nodesE k ≤ 512) := hide (fun k hk => by have := nodes_mem hk; rw [nodesE] at hn; omega)
  have hnl : Hid (nodesL ks ≤ 511) := hide (by rw [nodesE] at hn; omega)
  have hle : Hid (len ≤ 511) := hide (by have := len_nodes ks; have := hnl.out; have := hlen.out; omega)
  replace ih := hide ih
  replace hK := hide hK
  clear ht hn
  go_enter Try.func17, Try.ntmps17
  go_wp2_with fail
  clear k5 k6 q0
  go_loopw [3, 4] (fun m i wr => ∃ (k x : Nat), k ≤ len ∧ m = .int .i64 (x : Int) ∧ i = .int .i64 k ∧ Hid (x = 0 + refsL (ks.take k)) ∧ Hid (Below (w.alloc (exO nd (.slice a len cap))).heap.size (w.alloc (exO nd (.slice a len cap))) wr)) (fun _ i _ => len - (intOf i).toNat)
  case atStart => exact ⟨0, 0, Nat.zero_le _, rfl, rfl, hide (by rw [List.take_zero, refsL]), Below.refl _ _⟩
  case round =>
    obtain ⟨k, x, hkl, rfl, rfl, HL, HB⟩ := hrel
    have z13 := ((P0.out.keep HB.out).at' 13).trans c13
    by_cases hlt : k < len
    · have p0 : (k : Int) < (len : Int) := by omega
      obtain ⟨b0, o0, rfl, hk1, aa, ll, cc, tk, rk⟩ := hK.out.get hlt
      have bw := hide (next B0.out HB.out)
      have R1 := hide (range_of_block rk (bw.out.block b0 (World.block_lt_of_cell? w ⟨b0, _, none⟩ (rk 0 _ rfl))))
      have IH := hide (ih.out _ (List.getElem_mem hk1) _ wr (tk.step bw.out) (hnk.out _ (List.getElem_mem hk1)))
      have hx : Hid (x ≤ 512) := hide (by have := HL.out; have := refs_nodesL (ks.take k); have := nodesL_take ks k; have := hnl.out; omega)
      have hy : Hid (refsE ks[k] ≤ 512) := hide (Nat.le_trans (refs_nodes _) (hnk.out _ (List.getElem_mem hk1)))
      have hat := hide (refsL_take ks k hk1)
      have wk := IntWalk.wrap64_in ((k : Int) + 1) ⟨by omega, by have := hle.out; omega⟩
      generalize ks[k] = tk' at *
      have wx := IntWalk.wrap64_in ((x : Int) + (refsE tk' : Int)) ⟨by omega, by have := hx.out; have := hy.out; omega⟩
      clear tk rk
      go_wp2_with (first
        | (refine wpList_load_at rfl 29 _ rfl _ _ rfl _ _ (by with_reducible exact R1.out) Try.underlying29 rfl (exC_info _ _) ?_)
        | (go_at_call 17; refine IH.out.mono ?_; rintro e w4 ⟨rfl, hb4⟩; have b4 := hide (next HB.out hb4); clear hb4))
      refine ⟨⟨k + 1, x + refsE tk', hlt, by rw [wx]; rfl, by rw [wk]; rfl, hide (by rw [hat.out, HL.out]; omega), b4⟩, ?_⟩
      rw [wk]
      exact meas_lt hlt
    · obtain rfl : k = len := by omega
      have hh := HL.out
      rw [List.take_of_length_le (by have := hlen.out; omega)] at hh
      replace hh := hide hh
      go_wp2_with fail
      go_ret
      exact ⟨by rw [hh.out]; rfl, next B0.out HB.out⟩
theorem refs_any : ∀ t, RefsIs t := by
  refine Ex.ind fun nd ks ih => ?_
  intro v w ht hn
  obtain ⟨a, len, cap, rfl, _, _, _, _⟩ := ht.un
  by_cases h5 : nd.kind = 5
  · have hp : refsE (.mk nd ks) = 1 + refsL ks := by rw [refsE, show placeB nd = true from decide_eq_true (.inl h5)]; rfl
    rw [hp]; exact refs_5 nd ks ih a len cap w ht hn (by simp [h5])
  · by_cases h6 : nd.kind = 6
    · have hp : refsE (.mk nd ks) = 1 + refsL ks := by rw [refsE, show placeB nd = true from decide_eq_true (.inr h6)]; rfl
      rw [hp]; exact refs_6 nd ks ih a len cap w ht hn (by simp [h5]) (by simp [h6])
    · have hp : refsE (.mk nd ks) = 0 + refsL ks := by rw [refsE, show placeB nd = false from decide_eq_false (by intro h; rcases h with h | h; exact h5 h; exact h6 h)]; rfl
      rw [hp]; exact refs_o nd ks ih a len cap w ht hn (by simp [h5]) (by simp [h6])
set_option maxHeartbeats 1000000 in
set_option maxRecDepth 100000 in
theorem lost_any (t u : Ex) (v1 v2 : Value) (w : World) (h1 : Tree w v1 t) (h2 : Tree w v2 u) (n1 : nodesE t ≤ 512) (n2 : nodesE u ≤ 512) : Calls Try.prog 16 #[v1, v2] w fun e w' => e = .returned (.bool (decide (¬ refsE t = refsE u))) ∧ Below w.heap.size w w' := by
  obtain ⟨a1, len1, cap1, rfl, -, -, -, -⟩ := h1.open
  obtain ⟨a2, len2, cap2, rfl, -, -, -, -⟩ := h2.open
  have bel := hide (step (step (Below.refl w.heap.size w) (exO t.nd (.slice a1 len1 cap1))) (exO u.nd (.slice a2 len2 cap2)))
  have L1 := hide ((Blk.new w (exC t.nd (.slice a1 len1 cap1)) 29).alloc (exO u.nd (.slice a2 len2 cap2)))
  have L2 := hide (Blk.new1 w (exO t.nd (.slice a1 len1 cap1)) (exC u.nd (.slice a2 len2 cap2)) 29)
  have H1 := bel
  have H0 := hide (fun w' (h : Below w.heap.size w w') => refs_any t _ w' (h1.step h) n1)
  have H2 := hide (fun w' (h : Below w.heap.size w w') => refs_any u _ w' (h2.step h) n2)
  have hq : Hid (((refsE t : Int) != (refsE u : Int)) = decide (¬ refsE t = refsE u)) := hide (by
    by_cases q : refsE t = refsE u
    · rw [q]; simp
    · rw [decide_eq_true q]; simp; omega)
  clear h1 h2
  obtain ⟨wq, hwq⟩ : ∃ wq, (w.alloc (exO t.nd (.slice a1 len1 cap1))).alloc (exO u.nd (.slice a2 len2 cap2)) = wq := ⟨_, rfl⟩
  rw [hwq] at bel L1 L2 H1
  obtain ⟨x0, x1, x2, x3, x4, x5, x6, x7, x8, x9, x10, x11, x12, x13⟩ := L1.out.c14
  obtain ⟨y0, y1, y2, y3, y4, y5, y6, y7, y8, y9, y10, y11, y12, y13⟩ := L2.out.c14
  replace x0 := cell_rg x0
  replace x1 := cell_rg x1
  replace x2 := cell_rg x2
  replace x3 := cell_rg x3
  replace x4 := cell_rg x4
  replace x5 := cell_rg x5
  replace x6 := cell_rg x6
  replace x7 := cell_rg x7
  replace x8 := cell_rg x8
  replace x9 := cell_rg x9
  replace x10 := cell_rg x10
  replace x11 := cell_rg x11
  replace x12 := cell_rg x12
  replace x13 := cell_rg x13
  replace y0 := cell_rg y0
  replace y1 := cell_rg y1
  replace y2 := cell_rg y2
  replace y3 := cell_rg y3
  replace y4 := cell_rg y4
  replace y5 := cell_rg y5
  replace y6 := cell_rg y6
  replace y7 := cell_rg y7
  replace y8 := cell_rg y8
  replace y9 := cell_rg y9
  replace y10 := cell_rg y10
  replace y11 := cell_rg y11
  replace y12 := cell_rg y12
  replace y13 := cell_rg y13
  have K1 : Hid (∀ w', Below w.heap.size w w' → Calls Try.prog 17 #[lit14 t.nd (.slice a1 len1 cap1)] w' fun e w'' => e = .returned (.int .i64 (refsE t : Int)) ∧ Below w'.heap.size w' w'') := H0
  have k1 := fun d' os => Calls.regrown_of (K1.out (grow (redrawn wq d') os) (next bel.out (below_regrown wq d' os)))
  have k2 := fun d' os => Calls.regrown_of (show Calls Try.prog 17 #[lit14 u.nd (.slice a2 len2 cap2)] _ _ from H2.out (grow (redrawn wq d') os) (next bel.out (below_regrown wq d' os)))
  clear H1 H0 H2 K1 L1 L2
  go_enter Try.func16, Try.ntmps16
  go_wp2_with fail
  clear hwq
  refine wp_region_quiet_below (by kernel_rfl) (by kernel_rfl) ?_
  repeat (go_big_quiet_step (first | (with_reducible exact k1 _ _) | (with_reducible exact k2 _ _)))
  refine wpQuiet_nil ?_
  intro _ hw'
  obtain ⟨⟨dq1, osq1⟩, hw''⟩ := hw'
  subst hw''
  go_wp2_with fail
  go_ret
  exact ⟨by rw [← hq.out]; rfl, next bel.out (below_regrown _ dq1 osq1)⟩
set_option maxHeartbeats 1000000 in
set_option maxRecDepth 100000 in
theorem sound_any (t : Ex) (v : Value) (w : World) (ht : Tree w v t) : Calls Try.prog 12 #[v] w fun e w' => e = .returned (.bool (decide (0 ≤ ndsE t 2000) && decide (mayR t = 0))) ∧ Below w.heap.size w w' := by
  obtain ⟨a, len, cap, rfl, -, -, -, -⟩ := ht.open
  have P0 := hide (Blk.new w (exC t.nd (.slice a len cap)) 29)
  have B0 := hide (step (Below.refl w.heap.size w) (exO t.nd (.slice a len cap)))
  have HN := hide (small_any t _ _ (ht.step B0.out))
  have HM := hide (fun w' (h : Below w.heap.size w w') => may_any t _ w' (ht.step h))
  clear ht
  by_cases h : 0 ≤ ndsE t 2000
  · rw [decide_eq_true h] at HN ⊢
    have hq : Hid ((mayR t == 0) = decide (mayR t = 0)) := hide (by by_cases q : mayR t = 0; (rw [q]; rfl); (rw [decide_eq_false q]; simp [q]))
    go_enter Try.func12, Try.ntmps12
    go_wp2_with (first
      | (refine wpList_load_blk rfl 29 _ rfl _ rfl _ (by with_reducible exact P0.out) _ Try.underlying29 rfl (exC_info _ _) ?_)
      | (go_at_call 7; refine HN.out.mono ?_; rintro e w1 ⟨rfl, hb⟩; have b1 := hide (next B0.out hb); have P1 := hide (P0.out.keep hb); clear hb)
      | (refine wpList_load_blk_g rfl 29 _ rfl _ rfl _ (by with_reducible exact P1.out) _ Try.underlying29 rfl (exC_info _ _) ?_)
      | (go_at_call 13; refine (HM.out _ b1.out).mono ?_; rintro e w2 ⟨rfl, hb⟩; have b2 := hide (next b1.out hb); clear hb))
    go_ret
    exact ⟨by rw [← hq.out]; rfl, b2.out⟩
  · rw [decide_eq_false h] at HN ⊢
    go_enter Try.func12, Try.ntmps12
    go_wp2_with (first
      | (refine wpList_load_blk rfl 29 _ rfl _ rfl _ (by with_reducible exact P0.out) _ Try.underlying29 rfl (exC_info _ _) ?_)
      | (go_at_call 7; refine HN.out.mono ?_; rintro e w1 ⟨rfl, hb⟩; have b1 := hide (next B0.out hb); have P1 := hide (P0.out.keep hb); clear hb))
    go_ret
    exact ⟨rfl, b1.out⟩
end Go.Proofs.Ytbljdmegdejboaa
