/- TreeParts: a tree that is too great. -/
import Derived.Test.YtdegfmebgllklaaPartsM9
namespace Go.Proofs.Ytdegfmebgllklaa
open Go.RowKit Go.Sort
set_option linter.unusedVariables false

set_option maxHeartbeats 1000000 in
set_option maxRecDepth 100000 in
theorem parts_great (nd : Nd) (ks : List Ex) (v : Value) (w : World) (ht : Tree w v (.mk nd ks)) (hf : fitB (.mk nd ks) = false) :
    Calls Try.prog 6 #[v] w fun e w' => e = .returned (.bool true) ∧ Below w.heap.size w w' := by
  obtain ⟨a, len, cap, rfl, hln, _, _, _⟩ := ht.un
  have hK := hide ht.kidsAt
  have A := at14 nd (.slice a len cap)
  have P0 := hide (Blk.new w (exC nd (.slice a len cap)) 29)
  have B0 := hide (step (Below.refl w.heap.size w) (exO nd (.slice a len cap)))
  have HG := hide (begun9 (w.alloc (exO nd (.slice a len cap))))
  have H1 := hide (fun w' (h : Below w.heap.size w w') => size_any (.mk nd ks) (exV nd (.slice a len cap)) w' (ht.step h))
  have H2 := hide (fun w' (h : Below w.heap.size w w') => may_any (.mk nd ks) (exV nd (.slice a len cap)) w' (ht.step h))
  have H3 := hide (fun w' (h : Below w.heap.size w w') => reads_any (.mk nd ks) (exV nd (.slice a len cap)) w' (ht.step h))
  simp only [sizeR_no hf, mayR_no hf] at H1 H2
  have c0 := A.c0
  have c3 := A.c3
  clear ht hf H3 hln A
  go_enter Try.func6, Try.ntmps6
  try simp only [List.append]
  go_wp2_with (first
    | (go_at_call 9; refine HG.out.mono ?_; rintro e w0 ⟨rfl, hb⟩; have Q0 := hide (P0.out.keep hb); have b0 := hide (next B0.out hb); clear hb)
    | (refine wpList_load_blk rfl 29 _ rfl _ rfl _ (by with_reducible exact Q0.out) _ Try.underlying29 rfl (exC_info _ _) ?_)
    | (go_at_call 18; refine (H1.out _ b0.out).mono ?_; rintro e w1 ⟨rfl, hb⟩; have Q1 := hide (Q0.out.keep hb); have b1 := hide (next b0.out hb); clear hb)
    | (refine wpList_load_blk rfl 29 _ rfl _ rfl _ (by with_reducible exact Q1.out) _ Try.underlying29 rfl (exC_info _ _) ?_)
    | (go_at_call 17; refine (H2.out _ b1.out).mono ?_; rintro e w2 ⟨rfl, hb⟩; have Q2 := hide (Q1.out.keep hb); have b2 := hide (next b1.out hb); have x0 := (Q2.out.at' 0).trans c0; have x3 := (Q2.out.at' 3).trans c3; clear hb))
  go_ret
  exact ⟨rfl, b2.out⟩
theorem nodesL_le : ∀ (ks : List Ex) (k : Nat), nodesL (ks.take k) ≤ nodesL ks
  | [], k => by simp
  | x :: r, 0 => by simp [nodesL]
  | x :: r, k + 1 => by rw [List.take_succ_cons, nodesL, nodesL]; have := nodesL_le r k; omega
theorem bytesL_le : ∀ (ks : List Ex) (k : Nat), bytesL (ks.take k) ≤ bytesL ks
  | [], k => by simp
  | x :: r, 0 => by simp [bytesL]
  | x :: r, k + 1 => by rw [List.take_succ_cons, bytesL, bytesL]; have := bytesL_le r k; omega
set_option maxHeartbeats 1000000 in
set_option maxRecDepth 100000 in
theorem parts_no2 (nd : Nd) (ks : List Ex) (v : Value) (w : World) (ht : Tree w v (.mk nd ks)) (hf : fitB (.mk nd ks) = true) (ha : allE (.mk nd ks) = false) (hk2 : nd.kind = 2) :
    Calls Try.prog 6 #[v] w fun e w' => e = .returned (.bool true) ∧ Below w.heap.size w w' := by
  obtain ⟨a, len, cap, rfl, hln, _, _, _⟩ := ht.un
  have hK := hide ht.kidsAt
  have A := at14 nd (.slice a len cap)
  have P0 := hide (Blk.new w (exC nd (.slice a len cap)) 29)
  have B0 := hide (step (Below.refl w.heap.size w) (exO nd (.slice a len cap)))
  have HG := hide (begun9 (w.alloc (exO nd (.slice a len cap))))
  have H1 := hide (fun w' (h : Below w.heap.size w w') => size_any (.mk nd ks) (exV nd (.slice a len cap)) w' (ht.step h))
  have H2 := hide (fun w' (h : Below w.heap.size w w') => may_any (.mk nd ks) (exV nd (.slice a len cap)) w' (ht.step h))
  have H3 := hide (fun w' (h : Below w.heap.size w w') => reads_any (.mk nd ks) (exV nd (.slice a len cap)) w' (ht.step h))
  have hnf := of_decide_eq_true hf
  rw [nodesE, depthE, bytesE] at hnf
  have HK1 := hide (fun (k : Ex) (hk : k ∈ ks) v w' (h : Tree w' v k) => size_any k v w' h)
  have hfk := hide (fun (k : Ex) (hk : k ∈ ks) => sizeR_fit (fit_kid hf hk))
  simp only [sizeR_fit hf, mayR_two hf ha, nodesE, depthE, bytesE, hk2, if_true] at H1 H2 hnf
  obtain ⟨X, hX⟩ : ∃ X : Int, ((1 + nodesL ks : Nat) : Int) = X := ⟨_, rfl⟩
  obtain ⟨Y, hY⟩ : ∃ Y : Int, ((1 + depthL ks : Nat) : Int) = Y := ⟨_, rfl⟩
  obtain ⟨Z, hZ⟩ : ∃ Z : Int, ((nd.text.size + bytesL ks : Nat) : Int) = Z := ⟨_, rfl⟩
  rw [hX, hY, hZ] at H1
  have hX5 : ¬ (512 < X) := by omega
  replace hX := hide hX
  replace hY := hide hY
  replace hZ := hide hZ
  have hmr := hide (mayR_two hf ha)
  have e2 : (nd.kind == 2) = true := by simp [hk2]
  have c0 := A.c0
  have c3 := A.c3
  have c13 := A.c13
  replace hnf := hide hnf
  replace hln := hide hln.out
  clear A
  replace ht := hide ht
  clear hf ha hk2
  go_enter Try.func6, Try.ntmps6
  try simp only [List.append]
  go_wp2_with (first
    | (go_at_call 9; refine HG.out.mono ?_; rintro e w0 ⟨rfl, hb⟩; have Q0 := hide (P0.out.keep hb); have b0 := hide (next B0.out hb); clear hb)
    | (refine wpList_load_blk rfl 29 _ rfl _ rfl _ (by with_reducible exact Q0.out) _ Try.underlying29 rfl (exC_info _ _) ?_)
    | (go_at_call 18; refine (H1.out _ b0.out).mono ?_; rintro e w1 ⟨rfl, hb⟩; have Q1 := hide (Q0.out.keep hb); have b1 := hide (next b0.out hb); clear hb)
    | (refine wpList_load_blk rfl 29 _ rfl _ rfl _ (by with_reducible exact Q1.out) _ Try.underlying29 rfl (exC_info _ _) ?_)
    | (go_at_call 17; refine (H2.out _ b1.out).mono ?_; rintro e w2 ⟨rfl, hb⟩; have Q2 := hide (Q1.out.keep hb); have b2 := hide (next b1.out hb); have x0 := (Q2.out.at' 0).trans c0; have x3 := (Q2.out.at' 3).trans c3; clear hb)
    | (refine wpList_load_blk rfl 29 _ rfl _ rfl _ (by with_reducible exact Q2.out) _ Try.underlying29 rfl (exC_info _ _) ?_))
  refine (H3.out _ b2.out).mono ?_
  rintro e w3 hr
  obtain ⟨rfl, hb⟩ := reads_no hr hmr.out
  have Q3 := hide (Q2.out.keep hb)
  have b3 := hide (next b2.out hb)
  have y0 := (Q3.out.at' 0).trans c0
  clear hb hr x0 x3 c3 e2 hX5 H1 H2 H3 HG
  go_wp2_with fail
  go_loopw [7, 8, 9, 12, 13] (fun n d b at0 i wr => ∃ (k : Nat) (N D B : Int), k ≤ len ∧ n = .int .i64 N ∧ d = .int .i64 D ∧ b = .int .i64 B ∧ at0 = .int .i64 0 ∧ i = .int .i64 k ∧ Hid (N = ((1 + nodesL (ks.take k) : Nat) : Int) ∧ D = ((depthL (ks.take k) : Nat) : Int) ∧ B = ((nd.text.size + bytesL (ks.take k) : Nat) : Int)) ∧ Hid (Below w3.heap.size w3 wr)) (fun _ _ _ _ i _ => len - (intOf i).toNat)
  case atStart => exact ⟨0, _, _, _, Nat.zero_le _, rfl, rfl, rfl, rfl, rfl, hide ⟨by simp [nodesL], by simp [depthL], by simp [bytesL]⟩, hide (Below.refl _ _)⟩
  case round =>
    obtain ⟨k, N, D, B, hkl, rfl, rfl, rfl, rfl, rfl, HN, HB⟩ := hrel
    have z13 := ((Q3.out.keep HB.out).at' 13).trans c13
    by_cases hlt : k < len
    · have p0 : (k : Int) < (len : Int) := by omega
      obtain ⟨b, o, rfl, hk1, aa, ll, cc, tk0, rk⟩ := hK.out.get hlt
      have bw := hide (next b3.out HB.out)
      have ht1 : ks.take (k + 1) = ks.take k ++ [ks[k]] := List.take_succ_eq_append_getElem hk1
      have HS := HK1.out _ (List.getElem_mem hk1) _ wr (tk0.step bw.out)
      rw [hfk.out _ (List.getElem_mem hk1)] at HS
      have hn1 := nodesL_snoc (ks.take k) ks[k]
      have hd1 := depthL_snoc (ks.take k) ks[k]
      have hb1 := bytesL_snoc (ks.take k) ks[k]
      have hn2 := nodesL_le ks (k + 1)
      have hb2 := bytesL_le ks (k + 1)
      rw [← ht1] at hn1 hd1 hb1
      have R1 := hide (range_of_block rk (bw.out.block b (World.block_lt_of_cell? w ⟨b, _, none⟩ (rk 0 _ rfl))))
      generalize ks[k] = tk at *
      obtain ⟨x, hx⟩ : ∃ x : Int, (nodesE tk : Int) = x := ⟨_, rfl⟩
      obtain ⟨y, hy⟩ : ∃ y : Int, (depthE tk : Int) = y := ⟨_, rfl⟩
      obtain ⟨z, hz⟩ : ∃ z : Int, (bytesE tk : Int) = z := ⟨_, rfl⟩
      rw [hx, hy, hz] at HS
      have hNo := HN.out
      have hno := hnf.out
      have wn := IntWalk.wrap64_in (N + x) ⟨by omega, by omega⟩
      have wb := IntWalk.wrap64_in (B + z) ⟨by omega, by omega⟩
      have wk := IntWalk.wrap64_in ((k : Int) + 1) ⟨by omega, by have := hK.out.small; omega⟩
      have HN' : Hid (N + x = ((1 + nodesL (ks.take (k + 1)) : Nat) : Int) ∧ max D y = ((depthL (ks.take (k + 1)) : Nat) : Int) ∧ B + z = ((nd.text.size + bytesL (ks.take (k + 1)) : Nat) : Int)) := hide ⟨by omega, by omega, by omega⟩
      have hmx := ite_max D y
      replace HS := hide HS
      clear rk tk0 hn1 hd1 hb1 hn2 hb2 ht1 hNo hno hx hy hz
      go_wp2_with (first
    | (refine wpList_load_at rfl 29 _ rfl _ _ rfl _ _ (by with_reducible exact R1.out) Try.underlying29 rfl (exC_info _ _) ?_)
        | (go_at_call 18; refine HS.out.mono ?_; rintro e w4 ⟨rfl, hb⟩; have b4 := hide (next HB.out hb); clear hb))
      refine ⟨⟨k + 1, _, _, _, hlt, rfl, rfl, rfl, rfl, by rw [wk]; rfl, by rw [wn, wb]; exact HN', b4⟩, ?_⟩
      rw [wk]
      exact meas_lt hlt
    · obtain rfl : k = len := by omega
      have hNo := HN.out
      have hno := hnf.out
      have hX' := hX.out
      have hY' := hY.out
      have hZ' := hZ.out
      rw [hln.out, List.take_length] at hNo
      have wd := IntWalk.wrap64_in (D + 1) ⟨by omega, by omega⟩
      have q1 : (X == N) = true := by simp; omega
      have q2 : (Y == D + 1) = true := by simp; omega
      have q3 : (Z == B) = true := by simp; omega
      clear hNo hno hX' hY' hZ'
      go_wp2_with fail
      go_ret
      exact ⟨rfl, next b3.out HB.out⟩
set_option maxHeartbeats 1000000 in
set_option maxRecDepth 100000 in
theorem parts_no (nd : Nd) (ks : List Ex) (v : Value) (w : World) (ht : Tree w v (.mk nd ks)) (hf : fitB (.mk nd ks) = true) (ha : allE (.mk nd ks) = false) (hk2 : ¬ (nd.kind = 2)) :
    Calls Try.prog 6 #[v] w fun e w' => e = .returned (.bool true) ∧ Below w.heap.size w w' := by
  obtain ⟨a, len, cap, rfl, hln, _, _, _⟩ := ht.un
  have hK := hide ht.kidsAt
  have A := at14 nd (.slice a len cap)
  have P0 := hide (Blk.new w (exC nd (.slice a len cap)) 29)
  have B0 := hide (step (Below.refl w.heap.size w) (exO nd (.slice a len cap)))
  have HG := hide (begun9 (w.alloc (exO nd (.slice a len cap))))
  have H1 := hide (fun w' (h : Below w.heap.size w w') => size_any (.mk nd ks) (exV nd (.slice a len cap)) w' (ht.step h))
  have H2 := hide (fun w' (h : Below w.heap.size w w') => may_any (.mk nd ks) (exV nd (.slice a len cap)) w' (ht.step h))
  have H3 := hide (fun w' (h : Below w.heap.size w w') => reads_any (.mk nd ks) (exV nd (.slice a len cap)) w' (ht.step h))
  have hnf := of_decide_eq_true hf
  rw [nodesE, depthE, bytesE] at hnf
  have HK1 := hide (fun (k : Ex) (hk : k ∈ ks) v w' (h : Tree w' v k) => size_any k v w' h)
  have hfk := hide (fun (k : Ex) (hk : k ∈ ks) => sizeR_fit (fit_kid hf hk))
  simp only [sizeR_fit hf, mayR_two hf ha, nodesE, depthE, bytesE, hk2, if_false, Nat.zero_add] at H1 H2 hnf
  obtain ⟨X, hX⟩ : ∃ X : Int, ((1 + nodesL ks : Nat) : Int) = X := ⟨_, rfl⟩
  obtain ⟨Y, hY⟩ : ∃ Y : Int, ((1 + depthL ks : Nat) : Int) = Y := ⟨_, rfl⟩
  obtain ⟨Z, hZ⟩ : ∃ Z : Int, ((0 + bytesL ks : Nat) : Int) = Z := ⟨_, rfl⟩
  rw [hX, hY, show ((bytesL ks : Nat) : Int) = Z by rw [← hZ]; simp] at H1
  have hX5 : ¬ (512 < X) := by omega
  replace hX := hide hX
  replace hY := hide hY
  replace hZ := hide hZ
  have hmr := hide (mayR_two hf ha)
  have e2 : (nd.kind == 2) = false := by simp [hk2]
  have c0 := A.c0
  have c3 := A.c3
  have c13 := A.c13
  replace hnf := hide hnf
  replace hln := hide hln.out
  clear A
  replace ht := hide ht
  clear hf ha hk2
  go_enter Try.func6, Try.ntmps6
  try simp only [List.append]
  go_wp2_with (first
    | (go_at_call 9; refine HG.out.mono ?_; rintro e w0 ⟨rfl, hb⟩; have Q0 := hide (P0.out.keep hb); have b0 := hide (next B0.out hb); clear hb)
    | (refine wpList_load_blk rfl 29 _ rfl _ rfl _ (by with_reducible exact Q0.out) _ Try.underlying29 rfl (exC_info _ _) ?_)
    | (go_at_call 18; refine (H1.out _ b0.out).mono ?_; rintro e w1 ⟨rfl, hb⟩; have Q1 := hide (Q0.out.keep hb); have b1 := hide (next b0.out hb); clear hb)
    | (refine wpList_load_blk rfl 29 _ rfl _ rfl _ (by with_reducible exact Q1.out) _ Try.underlying29 rfl (exC_info _ _) ?_)
    | (go_at_call 17; refine (H2.out _ b1.out).mono ?_; rintro e w2 ⟨rfl, hb⟩; have Q2 := hide (Q1.out.keep hb); have b2 := hide (next b1.out hb); have x0 := (Q2.out.at' 0).trans c0; have x3 := (Q2.out.at' 3).trans c3; clear hb)
    | (refine wpList_load_blk rfl 29 _ rfl _ rfl _ (by with_reducible exact Q2.out) _ Try.underlying29 rfl (exC_info _ _) ?_))
  refine (H3.out _ b2.out).mono ?_
  rintro e w3 hr
  obtain ⟨rfl, hb⟩ := reads_no hr hmr.out
  have Q3 := hide (Q2.out.keep hb)
  have b3 := hide (next b2.out hb)
  have y0 := (Q3.out.at' 0).trans c0
  clear hb hr x0 x3 c3 e2 hX5 H1 H2 H3 HG
  go_wp2_with fail
  go_loopw [7, 8, 9, 12, 13] (fun n d b at0 i wr => ∃ (k : Nat) (N D B : Int), k ≤ len ∧ n = .int .i64 N ∧ d = .int .i64 D ∧ b = .int .i64 B ∧ at0 = .int .i64 0 ∧ i = .int .i64 k ∧ Hid (N = ((1 + nodesL (ks.take k) : Nat) : Int) ∧ D = ((depthL (ks.take k) : Nat) : Int) ∧ B = ((0 + bytesL (ks.take k) : Nat) : Int)) ∧ Hid (Below w3.heap.size w3 wr)) (fun _ _ _ _ i _ => len - (intOf i).toNat)
  case atStart => exact ⟨0, _, _, _, Nat.zero_le _, rfl, rfl, rfl, rfl, rfl, hide ⟨by simp [nodesL], by simp [depthL], by simp [bytesL]⟩, hide (Below.refl _ _)⟩
  case round =>
    obtain ⟨k, N, D, B, hkl, rfl, rfl, rfl, rfl, rfl, HN, HB⟩ := hrel
    have z13 := ((Q3.out.keep HB.out).at' 13).trans c13
    by_cases hlt : k < len
    · have p0 : (k : Int) < (len : Int) := by omega
      obtain ⟨b, o, rfl, hk1, aa, ll, cc, tk0, rk⟩ := hK.out.get hlt
      have bw := hide (next b3.out HB.out)
      have ht1 : ks.take (k + 1) = ks.take k ++ [ks[k]] := List.take_succ_eq_append_getElem hk1
      have HS := HK1.out _ (List.getElem_mem hk1) _ wr (tk0.step bw.out)
      rw [hfk.out _ (List.getElem_mem hk1)] at HS
      have hn1 := nodesL_snoc (ks.take k) ks[k]
      have hd1 := depthL_snoc (ks.take k) ks[k]
      have hb1 := bytesL_snoc (ks.take k) ks[k]
      have hn2 := nodesL_le ks (k + 1)
      have hb2 := bytesL_le ks (k + 1)
      rw [← ht1] at hn1 hd1 hb1
      have R1 := hide (range_of_block rk (bw.out.block b (World.block_lt_of_cell? w ⟨b, _, none⟩ (rk 0 _ rfl))))
      generalize ks[k] = tk at *
      obtain ⟨x, hx⟩ : ∃ x : Int, (nodesE tk : Int) = x := ⟨_, rfl⟩
      obtain ⟨y, hy⟩ : ∃ y : Int, (depthE tk : Int) = y := ⟨_, rfl⟩
      obtain ⟨z, hz⟩ : ∃ z : Int, (bytesE tk : Int) = z := ⟨_, rfl⟩
      rw [hx, hy, hz] at HS
      have hNo := HN.out
      have hno := hnf.out
      have wn := IntWalk.wrap64_in (N + x) ⟨by omega, by omega⟩
      have wb := IntWalk.wrap64_in (B + z) ⟨by omega, by omega⟩
      have wk := IntWalk.wrap64_in ((k : Int) + 1) ⟨by omega, by have := hK.out.small; omega⟩
      have HN' : Hid (N + x = ((1 + nodesL (ks.take (k + 1)) : Nat) : Int) ∧ max D y = ((depthL (ks.take (k + 1)) : Nat) : Int) ∧ B + z = ((0 + bytesL (ks.take (k + 1)) : Nat) : Int)) := hide ⟨by omega, by omega, by omega⟩
      have hmx := ite_max D y
      replace HS := hide HS
      clear rk tk0 hn1 hd1 hb1 hn2 hb2 ht1 hNo hno hx hy hz
      go_wp2_with (first
    | (refine wpList_load_at rfl 29 _ rfl _ _ rfl _ _ (by with_reducible exact R1.out) Try.underlying29 rfl (exC_info _ _) ?_)
        | (go_at_call 18; refine HS.out.mono ?_; rintro e w4 ⟨rfl, hb⟩; have b4 := hide (next HB.out hb); clear hb))
      refine ⟨⟨k + 1, _, _, _, hlt, rfl, rfl, rfl, rfl, by rw [wk]; rfl, by rw [wn, wb]; exact HN', b4⟩, ?_⟩
      rw [wk]
      exact meas_lt hlt
    · obtain rfl : k = len := by omega
      have hNo := HN.out
      have hno := hnf.out
      have hX' := hX.out
      have hY' := hY.out
      have hZ' := hZ.out
      rw [hln.out, List.take_length] at hNo
      have wd := IntWalk.wrap64_in (D + 1) ⟨by omega, by omega⟩
      have q1 : (X == N) = true := by simp; omega
      have q2 : (Y == D + 1) = true := by simp; omega
      have q3 : (Z == B) = true := by simp; omega
      clear hNo hno hX' hY' hZ'
      go_wp2_with fail
      go_ret
      exact ⟨rfl, next b3.out HB.out⟩
end Go.Proofs.Ytdegfmebgllklaa
