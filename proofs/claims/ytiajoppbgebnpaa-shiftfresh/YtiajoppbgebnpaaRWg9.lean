/- quadrilleref9.weigh and Size: what they answer of every tree. -/
import Derived.Test.YtiajoppbgebnpaaPartsN9
namespace Go.Proofs.Ytiajoppbgebnpaa
open Go.RowKit Go.Sort
set_option linter.unusedVariables false

/-- It fits behind what was counted already. -/
def FitsW (down n b : Nat) (t : Ex) : Prop := n + nodesE t ≤ 512 ∧ down + depthE t ≤ 65 ∧ b + bytesE t ≤ 16384
def WgP (w : World) (down n b : Nat) (t : Ex) (e : Ending) (w' : World) : Prop :=
  ∃ x y z : Int, e = .returned (.tuple #[.int .i64 x, .int .i64 y, .int .i64 z]) ∧ Below w.heap.size w w' ∧ (FitsW down n b t → x = ((n + nodesE t : Nat) : Int) ∧ y + 1 = ((down + depthE t : Nat) : Int) ∧ z = ((b + bytesE t : Nat) : Int)) ∧ (¬ FitsW down n b t → 512 < x)
abbrev WgIs (t : Ex) : Prop := ∀ (v : Value) (w : World) (down n b : Nat), Tree w v t → down ≤ 65 → n ≤ 512 → b ≤ 16384 → Calls Try.prog 54 #[v, .int .i64 down, .int .i64 n, .int .i64 b] w fun e w' => WgP w down n b t e w'
/-- What a node adds by its own text. -/
def ownB (nd : Nd) : Nat := if nd.kind = 2 then nd.text.size else 0
theorem bytes_own (nd : Nd) (ks : List Ex) : bytesE (.mk nd ks) = ownB nd + bytesL ks := by rw [bytesE]; rfl
theorem take_le (ks : List Ex) (k : Nat) (hk : k < ks.length) : nodesL (ks.take k) + nodesE ks[k] ≤ nodesL ks ∧ depthE ks[k] ≤ depthL ks ∧ bytesL (ks.take k) + bytesE ks[k] ≤ bytesL ks := by
  have h1 := nodesL_snoc (ks.take k) ks[k]
  have h3 := bytesL_snoc (ks.take k) ks[k]
  rw [← List.take_succ_eq_append_getElem hk] at h1 h3
  have h4 : ∀ (l : List Ex) (j : Nat), nodesL (l.take j) ≤ nodesL l ∧ bytesL (l.take j) ≤ bytesL l := by
    intro l
    induction l with
    | nil => intro j; simp
    | cons x r ih => intro j; cases j with
      | zero => simp [nodesL, bytesL]
      | succ j => rw [List.take_succ_cons, nodesL, nodesL, bytesL, bytesL]; have := ih j; omega
  have := h4 ks (k + 1)
  exact ⟨by omega, depth_mem (List.getElem_mem hk), by omega⟩
/-- While the kids are gone over. -/
structure WgSt (down n b : Nat) (nd : Nd) (ks : List Ex) (k : Nat) (N D B : Int) : Prop where
  en : N = ((n + 1 + nodesL (ks.take k) : Nat) : Int)
  ed : D = ((down + depthL (ks.take k) : Nat) : Int)
  eb : B = ((b + ownB nd + bytesL (ks.take k) : Nat) : Int)
  f1 : n + 1 + nodesL (ks.take k) ≤ 512
  f2 : down + depthL (ks.take k) ≤ 64
  f3 : b + ownB nd + bytesL (ks.take k) ≤ 16384
theorem WgSt.more {down n b : Nat} {nd : Nd} {ks : List Ex} {k : Nat} {N D B x y z : Int} (h : WgSt down n b nd ks k N D B) (hk : k < ks.length)
    (hf : FitsW (down + 1) (n + 1 + nodesL (ks.take k)) (b + ownB nd + bytesL (ks.take k)) ks[k]) (hx : x = ((n + 1 + nodesL (ks.take k) + nodesE ks[k] : Nat) : Int)) (hy : y + 1 = ((down + 1 + depthE ks[k] : Nat) : Int)) (hz : z = ((b + ownB nd + bytesL (ks.take k) + bytesE ks[k] : Nat) : Int)) :
    WgSt down n b nd ks (k + 1) x (max D y) z ∧ x ≤ 512 := by
  have h1 := nodesL_snoc (ks.take k) ks[k]
  have h2 := depthL_snoc (ks.take k) ks[k]
  have h3 := bytesL_snoc (ks.take k) ks[k]
  rw [← List.take_succ_eq_append_getElem hk] at h1 h2 h3
  obtain ⟨g1, g2, g3⟩ := hf
  have hd := h.ed
  have f2 := h.f2
  exact ⟨⟨by omega, by omega, by omega, by omega, by omega, by omega⟩, by omega⟩
theorem WgSt.no {down n b : Nat} {nd : Nd} {ks : List Ex} {k : Nat} {N D B : Int} (h : WgSt down n b nd ks k N D B) (hk : k < ks.length) (hf : ¬ FitsW (down + 1) (n + 1 + nodesL (ks.take k)) (b + ownB nd + bytesL (ks.take k)) ks[k]) : ¬ FitsW down n b (.mk nd ks) := by
  intro hq
  apply hf
  obtain ⟨g1, g2, g3⟩ := hq
  rw [bytes_own] at g3
  rw [nodesE] at g1
  rw [depthE] at g2
  have := take_le ks k hk
  exact ⟨by omega, by omega, by omega⟩
theorem WgSt.fin {down n b : Nat} {nd : Nd} {ks : List Ex} {k : Nat} {N D B : Int} (h : WgSt down n b nd ks k N D B) (hk : k = ks.length) :
    (FitsW down n b (.mk nd ks) → N = ((n + nodesE (.mk nd ks) : Nat) : Int) ∧ D + 1 = ((down + depthE (.mk nd ks) : Nat) : Int) ∧ B = ((b + bytesE (.mk nd ks) : Nat) : Int)) ∧ (¬ FitsW down n b (.mk nd ks) → 512 < N) := by
  obtain ⟨h1, h2, h3, f1, f2, f3⟩ := h
  subst hk
  rw [List.take_length] at h1 h2 h3 f1 f2 f3
  rw [bytes_own, nodesE, depthE]
  refine ⟨fun _ => ⟨by omega, by omega, by omega⟩, fun hn => absurd ?_ hn⟩
  unfold FitsW
  rw [bytes_own, nodesE, depthE]
  exact ⟨by omega, by omega, by omega⟩
theorem wg_great {down n b : Nat} {nd : Nd} {ks : List Ex} (h : 512 < n + 1 ∨ 64 < down ∨ 16384 < b + ownB nd) : ¬ FitsW down n b (.mk nd ks) := by
  rintro ⟨g1, g2, g3⟩
  rw [bytes_own] at g3
  rw [nodesE] at g1
  rw [depthE] at g2
  omega
set_option maxHeartbeats 1000000 in
set_option maxRecDepth 100000 in
theorem weigh_two (nd : Nd) (ks : List Ex) (hk2 : nd.kind = 2) (ih : ∀ k ∈ ks, WgIs k) : WgIs (.mk nd ks) := by
  intro v w down n b ht hd hn hb
  obtain ⟨a, len, cap, rfl, _, _, htx, _⟩ := ht.un
  have hK := ht.kidsAt
  have hlen := hide hK.lq
  have hsml := hide hK.small
  have c0 := (at14 nd (.slice a len cap)).c0
  have c3 := (at14 nd (.slice a len cap)).c3
  have c13 := (at14 nd (.slice a len cap)).c13
  have P0 := hide (Blk.new w (exC nd (.slice a len cap)) 37)
  have B0 := hide (step (Below.refl w.heap.size w) (exO nd (.slice a len cap)))
  have wn := IntWalk.wrap64_in ((n : Int) + 1) ⟨by omega, by omega⟩
  have wd := IntWalk.wrap64_in ((down : Int) + 1) ⟨by omega, by omega⟩
  have e2 : (nd.kind == 2) = true := by simp [hk2]
  have ho : ownB nd = nd.text.size := by unfold ownB; simp [hk2]
  have wb := IntWalk.wrap64_in ((b : Int) + (nd.text.size : Int)) ⟨by omega, by have := htx.out; omega⟩
  have hc : (512 < n + 1) ∨ (¬ 512 < n + 1 ∧ 64 < down) ∨ (¬ 512 < n + 1 ∧ ¬ 64 < down ∧ 16384 < b + ownB nd) ∨ (¬ 512 < n + 1 ∧ ¬ 64 < down ∧ ¬ 16384 < b + ownB nd) := by omega
  rw [ho] at hc
  replace ho := hide ho
  replace ih := hide ih
  replace hK := hide hK
  replace ht := hide ht
  replace htx := hide htx.out
  replace hd := hide hd
  replace hn := hide hn
  replace hb := hide hb
  clear hk2
  rcases hc with g | ⟨g0, g⟩ | ⟨g0, g1, g⟩ | ⟨g0, g1, g2⟩
  · skip
    have q1 : (512 : Int) < (n : Int) + 1 := by omega
    replace g := hide g
    go_enter Try.func54, Try.ntmps54
    go_wp2_with fail
    refine bodyPost_ret (v := .tuple #[.int .i64 513, .int .i64 down, .int .i64 ((b : Int) + (nd.text.size : Int))]) (by simp [results, Try.results54, go_sem]; try exact wb; try rfl) rfl ?_
    exact ⟨_, _, _, rfl, B0.out, fun hf => absurd hf (wg_great (.inl g.out)), fun _ => by decide⟩
  · skip
    have q1 : ¬ ((512 : Int) < (n : Int) + 1) := by omega
    have q2 : (64 : Int) < (down : Int) := by omega
    replace g := hide g
    clear g0
    go_enter Try.func54, Try.ntmps54
    go_wp2_with fail
    refine bodyPost_ret (v := .tuple #[.int .i64 513, .int .i64 down, .int .i64 ((b : Int) + (nd.text.size : Int))]) (by simp [results, Try.results54, go_sem]; try exact wb; try rfl) rfl ?_
    exact ⟨_, _, _, rfl, B0.out, fun hf => absurd hf (wg_great (.inr (.inl g.out))), fun _ => by decide⟩
  · skip
    have q1 : ¬ ((512 : Int) < (n : Int) + 1) := by omega
    have q2 : ¬ ((64 : Int) < (down : Int)) := by omega
    have q3 : (16384 : Int) < ((b : Int) + (nd.text.size : Int)) := by omega
    replace g := hide g
    clear g0
    clear g1
    go_enter Try.func54, Try.ntmps54
    go_wp2_with fail
    refine bodyPost_ret (v := .tuple #[.int .i64 513, .int .i64 down, .int .i64 ((b : Int) + (nd.text.size : Int))]) (by simp [results, Try.results54, go_sem]; try exact wb; try rfl) rfl ?_
    exact ⟨_, _, _, rfl, B0.out, fun hf => absurd hf (wg_great (.inr (.inr (by rw [ho.out]; exact g.out)))), fun _ => by decide⟩
  · skip
    have q1 : ¬ ((512 : Int) < (n : Int) + 1) := by omega
    have q2 : ¬ ((64 : Int) < (down : Int)) := by omega
    have q3 : ¬ ((16384 : Int) < ((b : Int) + (nd.text.size : Int))) := by omega
    have hst : Hid (WgSt down n b nd ks 0 ((n : Int) + 1) (down : Int) ((b : Int) + (nd.text.size : Int))) := hide ⟨by rw [List.take_zero, nodesL]; omega, by rw [List.take_zero, depthL]; omega, by rw [List.take_zero, bytesL, ho.out]; omega, by rw [List.take_zero, nodesL]; omega, by rw [List.take_zero, depthL]; omega, by rw [List.take_zero, bytesL, ho.out]; omega⟩
    clear g0 g1 g2
    go_enter Try.func54, Try.ntmps54
    go_wp2_with fail
    clear q1 q2 q3 c0 c3 e2
    go_loopw [2, 3, 11, 12] (fun n1 b1 d1 i wr => ∃ (k : Nat) (N D B : Int), k ≤ len ∧ n1 = .int .i64 N ∧ b1 = .int .i64 B ∧ d1 = .int .i64 D ∧ i = .int .i64 k ∧ Hid (WgSt down n b nd ks k N D B) ∧ Hid (Below (w.alloc (exO nd (.slice a len cap))).heap.size (w.alloc (exO nd (.slice a len cap))) wr)) (fun _ _ _ i _ => len - (intOf i).toNat)
    case atStart => exact ⟨0, _, _, _, Nat.zero_le _, rfl, rfl, rfl, rfl, hst, Below.refl _ _⟩
    case round =>
      obtain ⟨k, N, D, B, hkl, rfl, rfl, rfl, rfl, HS, HB⟩ := hrel
      have z13 := ((P0.out.keep HB.out).at' 13).trans c13
      by_cases hlt : k < len
      · have p0 : (k : Int) < (len : Int) := by omega
        obtain ⟨b0, o0, rfl, hk1, aa, ll, cc, tk, rk⟩ := hK.out.get hlt
        have bw := hide (next B0.out HB.out)
        have R1 := hide (range_of_block rk (bw.out.block b0 (World.block_lt_of_cell? w ⟨b0, _, none⟩ (rk 0 _ rfl))))
        have hs := HS.out
        have IH : Calls Try.prog 54 #[exV ks[k].nd (.slice aa ll cc), .int .i64 ((down : Int) + 1), .int .i64 N, .int .i64 B] wr fun e w' => WgP wr (down + 1) (n + 1 + nodesL (ks.take k)) (b + ownB nd + bytesL (ks.take k)) ks[k] e w' := by
          rw [hs.en, hs.eb]
          exact ih.out _ (List.getElem_mem hk1) _ wr (down + 1) _ _ (tk.step bw.out) (by have := hs.f2; omega) hs.f1 hs.f3
        have wk := IntWalk.wrap64_in ((k : Int) + 1) ⟨by omega, by have := hsml.out; omega⟩
        have hmore := hide (fun (x y z : Int) => hs.more (x := x) (y := y) (z := z) hk1)
        have hnot := hide (hs.no hk1)
        generalize ks[k] = tk' at *
        replace IH := hide IH
        clear tk rk hs
        by_cases hf : FitsW (down + 1) (n + 1 + nodesL (ks.take k)) (b + ownB nd + bytesL (ks.take k)) tk'
        · go_wp2_with (first
            | (refine wpList_load_at rfl 37 _ rfl _ _ rfl _ _ (by with_reducible exact R1.out) Try.underlying37 rfl (exC_info _ _) ?_)
            | (go_at_call 54; refine IH.out.mono ?_; rintro e w4 ⟨x, y, z, rfl, hb4, hyes, _⟩; have hxy := hyes hf; obtain ⟨hnx, hx5⟩ := hmore.out x y z hf hxy.1 hxy.2.1 hxy.2.2; have r5 : ¬ (512 < x) := (by omega); have hmx := ite_max D y; replace hnx := hide hnx; have b4 := hide (next HB.out hb4); clear hxy hyes hb4 hx5))
          refine ⟨⟨k + 1, _, _, _, hlt, rfl, rfl, rfl, by rw [wk]; rfl, hnx, b4⟩, ?_⟩
          rw [wk]
          exact meas_lt hlt
        · go_wp2_with (first
            | (refine wpList_load_at rfl 37 _ rfl _ _ rfl _ _ (by with_reducible exact R1.out) Try.underlying37 rfl (exC_info _ _) ?_)
            | (go_at_call 54; refine IH.out.mono ?_; rintro e w4 ⟨x, y, z, rfl, hb4, _, hno⟩; have r5 : 512 < x := hno hf; have hmx := ite_max D y; have r6 := hide r5; have b4 := hide (next bw.out hb4); clear hb4 hno))
          refine bodyPost_ret (v := .tuple #[.int .i64 x, .int .i64 (max D y), .int .i64 z]) (by simp [results, Try.results54, go_sem]; try rfl) rfl ?_
          exact ⟨_, _, _, rfl, b4.out, fun h => absurd h (hnot.out hf), fun _ => r6.out⟩
      · obtain rfl : k = len := by omega
        have hfin := hide (HS.out.fin hlen.out)
        go_wp2_with fail
        refine bodyPost_ret (v := .tuple #[.int .i64 N, .int .i64 D, .int .i64 B]) (by simp [results, Try.results54, go_sem]; try rfl) rfl ?_
        exact ⟨_, _, _, rfl, next B0.out HB.out, hfin.out⟩
set_option maxHeartbeats 1000000 in
set_option maxRecDepth 100000 in
theorem weigh_one (nd : Nd) (ks : List Ex) (hk2 : ¬ (nd.kind = 2)) (ih : ∀ k ∈ ks, WgIs k) : WgIs (.mk nd ks) := by
  intro v w down n b ht hd hn hb
  obtain ⟨a, len, cap, rfl, _, _, htx, _⟩ := ht.un
  have hK := ht.kidsAt
  have hlen := hide hK.lq
  have hsml := hide hK.small
  have c0 := (at14 nd (.slice a len cap)).c0
  have c3 := (at14 nd (.slice a len cap)).c3
  have c13 := (at14 nd (.slice a len cap)).c13
  have P0 := hide (Blk.new w (exC nd (.slice a len cap)) 37)
  have B0 := hide (step (Below.refl w.heap.size w) (exO nd (.slice a len cap)))
  have wn := IntWalk.wrap64_in ((n : Int) + 1) ⟨by omega, by omega⟩
  have wd := IntWalk.wrap64_in ((down : Int) + 1) ⟨by omega, by omega⟩
  have e2 : (nd.kind == 2) = false := by simp [hk2]
  have ho : ownB nd = 0 := by unfold ownB; simp [hk2]
  have hc : (512 < n + 1) ∨ (¬ 512 < n + 1 ∧ 64 < down) ∨ (¬ 512 < n + 1 ∧ ¬ 64 < down ∧ 16384 < b + ownB nd) ∨ (¬ 512 < n + 1 ∧ ¬ 64 < down ∧ ¬ 16384 < b + ownB nd) := by omega
  rw [ho] at hc
  replace ho := hide ho
  replace ih := hide ih
  replace hK := hide hK
  replace ht := hide ht
  replace htx := hide htx.out
  replace hd := hide hd
  replace hn := hide hn
  replace hb := hide hb
  clear hk2
  rcases hc with g | ⟨g0, g⟩ | ⟨g0, g1, g⟩ | ⟨g0, g1, g2⟩
  · skip
    have q1 : (512 : Int) < (n : Int) + 1 := by omega
    replace g := hide g
    go_enter Try.func54, Try.ntmps54
    go_wp2_with fail
    refine bodyPost_ret (v := .tuple #[.int .i64 513, .int .i64 down, .int .i64 (b : Int)]) (by simp [results, Try.results54, go_sem]; try rfl) rfl ?_
    exact ⟨_, _, _, rfl, B0.out, fun hf => absurd hf (wg_great (.inl g.out)), fun _ => by decide⟩
  · skip
    have q1 : ¬ ((512 : Int) < (n : Int) + 1) := by omega
    have q2 : (64 : Int) < (down : Int) := by omega
    replace g := hide g
    clear g0
    go_enter Try.func54, Try.ntmps54
    go_wp2_with fail
    refine bodyPost_ret (v := .tuple #[.int .i64 513, .int .i64 down, .int .i64 (b : Int)]) (by simp [results, Try.results54, go_sem]; try rfl) rfl ?_
    exact ⟨_, _, _, rfl, B0.out, fun hf => absurd hf (wg_great (.inr (.inl g.out))), fun _ => by decide⟩
  · skip
    have q1 : ¬ ((512 : Int) < (n : Int) + 1) := by omega
    have q2 : ¬ ((64 : Int) < (down : Int)) := by omega
    have q3 : (16384 : Int) < (b : Int) := by omega
    replace g := hide g
    clear g0
    clear g1
    go_enter Try.func54, Try.ntmps54
    go_wp2_with fail
    refine bodyPost_ret (v := .tuple #[.int .i64 513, .int .i64 down, .int .i64 (b : Int)]) (by simp [results, Try.results54, go_sem]; try rfl) rfl ?_
    exact ⟨_, _, _, rfl, B0.out, fun hf => absurd hf (wg_great (.inr (.inr (by rw [ho.out]; exact g.out)))), fun _ => by decide⟩
  · skip
    have q1 : ¬ ((512 : Int) < (n : Int) + 1) := by omega
    have q2 : ¬ ((64 : Int) < (down : Int)) := by omega
    have q3 : ¬ ((16384 : Int) < (b : Int)) := by omega
    have hst : Hid (WgSt down n b nd ks 0 ((n : Int) + 1) (down : Int) (b : Int)) := hide ⟨by rw [List.take_zero, nodesL]; omega, by rw [List.take_zero, depthL]; omega, by rw [List.take_zero, bytesL, ho.out]; omega, by rw [List.take_zero, nodesL]; omega, by rw [List.take_zero, depthL]; omega, by rw [List.take_zero, bytesL, ho.out]; omega⟩
    clear g0 g1 g2
    go_enter Try.func54, Try.ntmps54
    go_wp2_with fail
    clear q1 q2 q3 c0 c3 e2
    go_loopw [2, 3, 11, 12] (fun n1 b1 d1 i wr => ∃ (k : Nat) (N D B : Int), k ≤ len ∧ n1 = .int .i64 N ∧ b1 = .int .i64 B ∧ d1 = .int .i64 D ∧ i = .int .i64 k ∧ Hid (WgSt down n b nd ks k N D B) ∧ Hid (Below (w.alloc (exO nd (.slice a len cap))).heap.size (w.alloc (exO nd (.slice a len cap))) wr)) (fun _ _ _ i _ => len - (intOf i).toNat)
    case atStart => exact ⟨0, _, _, _, Nat.zero_le _, rfl, rfl, rfl, rfl, hst, Below.refl _ _⟩
    case round =>
      obtain ⟨k, N, D, B, hkl, rfl, rfl, rfl, rfl, HS, HB⟩ := hrel
      have z13 := ((P0.out.keep HB.out).at' 13).trans c13
      by_cases hlt : k < len
      · have p0 : (k : Int) < (len : Int) := by omega
        obtain ⟨b0, o0, rfl, hk1, aa, ll, cc, tk, rk⟩ := hK.out.get hlt
        have bw := hide (next B0.out HB.out)
        have R1 := hide (range_of_block rk (bw.out.block b0 (World.block_lt_of_cell? w ⟨b0, _, none⟩ (rk 0 _ rfl))))
        have hs := HS.out
        have IH : Calls Try.prog 54 #[exV ks[k].nd (.slice aa ll cc), .int .i64 ((down : Int) + 1), .int .i64 N, .int .i64 B] wr fun e w' => WgP wr (down + 1) (n + 1 + nodesL (ks.take k)) (b + ownB nd + bytesL (ks.take k)) ks[k] e w' := by
          rw [hs.en, hs.eb]
          exact ih.out _ (List.getElem_mem hk1) _ wr (down + 1) _ _ (tk.step bw.out) (by have := hs.f2; omega) hs.f1 hs.f3
        have wk := IntWalk.wrap64_in ((k : Int) + 1) ⟨by omega, by have := hsml.out; omega⟩
        have hmore := hide (fun (x y z : Int) => hs.more (x := x) (y := y) (z := z) hk1)
        have hnot := hide (hs.no hk1)
        generalize ks[k] = tk' at *
        replace IH := hide IH
        clear tk rk hs
        by_cases hf : FitsW (down + 1) (n + 1 + nodesL (ks.take k)) (b + ownB nd + bytesL (ks.take k)) tk'
        · go_wp2_with (first
            | (refine wpList_load_at rfl 37 _ rfl _ _ rfl _ _ (by with_reducible exact R1.out) Try.underlying37 rfl (exC_info _ _) ?_)
            | (go_at_call 54; refine IH.out.mono ?_; rintro e w4 ⟨x, y, z, rfl, hb4, hyes, _⟩; have hxy := hyes hf; obtain ⟨hnx, hx5⟩ := hmore.out x y z hf hxy.1 hxy.2.1 hxy.2.2; have r5 : ¬ (512 < x) := (by omega); have hmx := ite_max D y; replace hnx := hide hnx; have b4 := hide (next HB.out hb4); clear hxy hyes hb4 hx5))
          refine ⟨⟨k + 1, _, _, _, hlt, rfl, rfl, rfl, by rw [wk]; rfl, hnx, b4⟩, ?_⟩
          rw [wk]
          exact meas_lt hlt
        · go_wp2_with (first
            | (refine wpList_load_at rfl 37 _ rfl _ _ rfl _ _ (by with_reducible exact R1.out) Try.underlying37 rfl (exC_info _ _) ?_)
            | (go_at_call 54; refine IH.out.mono ?_; rintro e w4 ⟨x, y, z, rfl, hb4, _, hno⟩; have r5 : 512 < x := hno hf; have hmx := ite_max D y; have r6 := hide r5; have b4 := hide (next bw.out hb4); clear hb4 hno))
          refine bodyPost_ret (v := .tuple #[.int .i64 x, .int .i64 (max D y), .int .i64 z]) (by simp [results, Try.results54, go_sem]; try rfl) rfl ?_
          exact ⟨_, _, _, rfl, b4.out, fun h => absurd h (hnot.out hf), fun _ => r6.out⟩
      · obtain rfl : k = len := by omega
        have hfin := hide (HS.out.fin hlen.out)
        go_wp2_with fail
        refine bodyPost_ret (v := .tuple #[.int .i64 N, .int .i64 D, .int .i64 B]) (by simp [results, Try.results54, go_sem]; try rfl) rfl ?_
        exact ⟨_, _, _, rfl, next B0.out HB.out, hfin.out⟩
theorem weigh_any : ∀ t, WgIs t := Ex.ind fun nd ks ih => by
  by_cases h : nd.kind = 2
  · exact weigh_two nd ks h ih
  · exact weigh_one nd ks h ih
theorem fits_one (t : Ex) : FitsW 1 0 0 t ↔ fitB t = true := by
  unfold FitsW fitB
  rw [decide_eq_true_iff]
  constructor
  · rintro ⟨h1, h2, h3⟩; exact ⟨by omega, by omega, by omega⟩
  · rintro ⟨h1, h2, h3⟩; exact ⟨by omega, by omega, by omega⟩
set_option maxHeartbeats 1000000 in
set_option maxRecDepth 100000 in
theorem rsize_any (t : Ex) (v : Value) (w : World) (ht : Tree w v t) : Calls Try.prog 43 #[v] w fun e w' => e = .returned (.tuple #[.int .i64 (sizeR t).1, .int .i64 (sizeR t).2.1, .int .i64 (sizeR t).2.2]) ∧ Below w.heap.size w w' := by
  obtain ⟨nd, ks⟩ := t
  obtain ⟨a, len, cap, rfl, _, _, _, _⟩ := ht.un
  have P0 := hide (Blk.new w (exC nd (.slice a len cap)) 37)
  have B0 := hide (step (Below.refl w.heap.size w) (exO nd (.slice a len cap)))
  have HW : Calls Try.prog 54 #[exV nd (.slice a len cap), .int .i64 1, .int .i64 0, .int .i64 0] (w.alloc (exO nd (.slice a len cap))) fun e w' => WgP (w.alloc (exO nd (.slice a len cap))) 1 0 0 (.mk nd ks) e w' := weigh_any (.mk nd ks) _ _ 1 0 0 (ht.step B0.out) (by omega) (by omega) (by omega)
  replace HW := hide HW
  cases hf : fitB (.mk nd ks)
  · rw [sizeR_no hf]
    have hno : ¬ FitsW 1 0 0 (.mk nd ks) := fun h => by rw [(fits_one _).1 h] at hf; cases hf
    clear ht
    go_enter Try.func43, Try.ntmps43
    go_wp2_with (first
      | (refine wpList_load_blk rfl 37 _ rfl _ rfl _ (by with_reducible exact P0.out) _ Try.underlying37 rfl (exC_info _ _) ?_)
      | (go_at_call 54; refine HW.out.mono ?_; rintro e w1 ⟨x, y, z, rfl, hb, _, hx⟩; have r5 := hx hno; have b1 := hide (next B0.out hb); clear hb hx))
    refine bodyPost_ret (v := .tuple #[.int .i64 513, .int .i64 65, .int .i64 16385]) (by simp [results, Try.results43, go_sem]; try rfl) rfl ?_
    exact ⟨rfl, b1.out⟩
  · rw [sizeR_fit hf]
    have hyes := (fits_one _).2 hf
    have h512 : ((nodesE (.mk nd ks) : Nat) : Int) ≤ 512 := by have := hyes.1; omega
    generalize hN : nodesE (.mk nd ks) = NN at *
    clear ht hf
    go_enter Try.func43, Try.ntmps43
    go_wp2_with (first
      | (refine wpList_load_blk rfl 37 _ rfl _ rfl _ (by with_reducible exact P0.out) _ Try.underlying37 rfl (exC_info _ _) ?_)
      | (go_at_call 54; refine HW.out.mono ?_; rintro e w1 ⟨x, y, z, rfl, hb, hx, _⟩; have hxy := hx hyes; have r5 : ¬ (512 < x) := (by rw [hxy.1, hN]; omega); have b1 := hide (next B0.out hb); replace hxy := hide hxy; clear hb hx))
    refine bodyPost_ret (v := .tuple #[.int .i64 x, .int .i64 y, .int .i64 z]) (by simp [results, Try.results43, go_sem]; try rfl) rfl ?_
    obtain ⟨h1, h2, h3⟩ := hxy.out
    refine ⟨?_, b1.out⟩
    rw [h1, h3, show y = ((depthE (.mk nd ks) : Nat) : Int) by omega, hN, Nat.zero_add, Nat.zero_add]
end Go.Proofs.Ytiajoppbgebnpaa
