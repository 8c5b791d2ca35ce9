/- tree.Size and tree.isTooGreat: what they answer of every tree. -/
import Derived.Test.YtiajoppbgebnpaaSzM9
namespace Go.Proofs.Ytiajoppbgebnpaa
open Go.RowKit Go.Sort
set_option linter.unusedVariables false

/-- A tree in memory that was there. -/
abbrev Tree (w : World) (v : Value) (t : Ex) : Prop := In (· < w.heap.size) w v t
theorem Tree.step {w w' : World} {v : Value} {t : Ex} (h : Tree w v t) (hb : Below w.heap.size w w') : Tree w' v t := h.move (fun k hk => ⟨Nat.lt_of_lt_of_le hk hb.size, hb.block k hk⟩)
theorem Tree.alloc {w : World} {v : Value} {t : Ex} (h : Tree w v t) (o : Obj) : Tree (w.alloc o) v t := h.step ((Below.refl _ _).alloc (Nat.le_refl _) _)
set_option maxHeartbeats 1000000 in
set_option maxRecDepth 100000 in
theorem size_any (t : Ex) (v : Value) (w : World) (hin : Tree w v t) :
    Calls Try.prog 47 #[v] w fun e w' => e = .returned (.tuple #[.int .i64 (sizeR t).1, .int .i64 (sizeR t).2.1, .int .i64 (sizeR t).2.2]) ∧ Below w.heap.size w w' := by
  have htx := hide (hin.tx)
  have hin' := hide hin
  obtain ⟨nd, ks⟩ := t
  obtain ⟨a, len, cap, rfl, _, _, _, _⟩ := hin.un
  clear hin
  have HO := hide (over_any (cnt_see (w.heap.size + 1) (w.heap.size + 1 + 1) (w.heap.size + 1 + 1 + 1) (by omega) (by omega) (by omega)) w.heap.size (by rintro k (rfl | rfl | rfl) <;> omega)
    (fun d _ => 1 ≤ d ∧ d ≤ 65) (by
      intro d t s hd h
      have : max s.2.1 d ≤ 64 := by
        unfold cnt at h
        simp only [Bool.and_eq_true, decide_eq_true_eq] at h
        exact h.1.2
      exact ⟨by omega, by omega, fun k _ => ⟨by omega, by omega⟩⟩)
    (.mk nd ks) (exV nd (.slice a len cap)) (0, 0, 0))
  have hld := ((((Blk.new w (exC nd (.slice a len cap)) 37).alloc (.cells #[.int .i64 0] 3)).alloc (.cells #[.int .i64 0] 3)).alloc (.cells #[.int .i64 0] 3))
  have hld := hide hld
  go_enter Try.func47, Try.ntmps47
  go_wp2_with (first
    | (refine wpList_load_blk rfl 37 _ rfl _ rfl _ hld.out _ Try.underlying37 rfl (exC_info _ _) ?_))
  have bel : Below w.heap.size w ((((w.alloc (exO nd (.slice a len cap))).alloc (.cells #[.int .i64 0] 3)).alloc (.cells #[.int .i64 0] 3)).alloc (.cells #[.int .i64 0] 3)) := step (step (step (step (Below.refl _ w) _) _) _) _
  refine (HO.out _ ⟨by omega, by omega⟩ (hin'.out.low bel) bel.size ⟨?_, ?_, ?_⟩).mono ?_
  · have := ((Blk.new (w.alloc (exO nd (.slice a len cap))) #[.int .i64 0] 3).alloc (.cells #[.int .i64 0] 3)).alloc (.cells #[.int .i64 0] 3)
    simpa using this
  · have := (Blk.new ((w.alloc (exO nd (.slice a len cap))).alloc (.cells #[.int .i64 0] 3)) #[.int .i64 0] 3).alloc (.cells #[.int .i64 0] 3)
    simpa using this
  · have := Blk.new (((w.alloc (exO nd (.slice a len cap))).alloc (.cells #[.int .i64 0] 3)).alloc (.cells #[.int .i64 0] 3)) #[.int .i64 0] 3
    simpa using this
  rintro e w1 ⟨rfl, hC, hc1⟩
  have hb1 := hide (bel.trans (hc1.below bel.size (by rintro k (rfl | rfl | rfl) <;> omega)))
  cases hf : fitB (.mk nd ks)
  · have hgo := cnt_no htx.out hf
    rw [hgo]
    obtain ⟨⟨n, e, b⟩, hst⟩ : ∃ s, (goE cnt 1 (.mk nd ks) (0, 0, 0)).2 = s := ⟨_, rfl⟩
    rw [hst] at hC
    have cn := hC.n.one
    have cd := hC.d.one
    have cb := hC.b.one
    have fn := hC.n.fr 0
    have fd := hC.d.fr 0
    have fb := hC.b.fr 0
    have hs : sizeR (.mk nd ks) = (513, 65, 16385) := by unfold sizeR; rw [hf]; rfl
    clear hgo hst hc1 hf HO hld
    go_wp2_with fail
    refine bodyPost_ret (v := .tuple #[.int .i64 513, .int .i64 65, .int .i64 16385]) (by simp [results, Try.results47, go_sem, cn, cd, cb]; try rfl) rfl ?_
    rw [hs]
    exact ⟨rfl, ((hb1.out.setCell (p := ⟨w.heap.size + 1, 0, none⟩) (by simp) _).setCell (p := ⟨w.heap.size + 1 + 1, 0, none⟩) (by simp; omega) _).setCell (p := ⟨w.heap.size + 1 + 1 + 1, 0, none⟩) (by simp; omega) _⟩
  · have hgo := cnt_yes htx.out hf
    rw [hgo] at hC ⊢
    have hs : sizeR (.mk nd ks) = ((nodesE (.mk nd ks) : Int), (depthE (.mk nd ks) : Int), (bytesE (.mk nd ks) : Int)) := by unfold sizeR; rw [hf]; rfl
    clear hgo hc1 hf HO hld htx
    generalize (nodesE (.mk nd ks) : Int) = n at *
    generalize (depthE (.mk nd ks) : Int) = e at *
    generalize (bytesE (.mk nd ks) : Int) = b at *
    have cn := hC.n.one
    have cd := hC.d.one
    have cb := hC.b.one
    have fn := hC.n.fr 0
    have fd := hC.d.fr 0
    have fb := hC.b.fr 0
    go_wp2_with fail
    go_region
    all_goals try go_wp2
    refine bodyPost_ret (v := .tuple #[.int .i64 n, .int .i64 e, .int .i64 b]) (by simp [results, Try.results47, go_sem, cn, cd, cb]; try rfl) rfl ?_
    rw [hs]
    exact ⟨rfl, (((hb1.out.setCell (p := ⟨w.heap.size + 1, 0, none⟩) (by simp) _).setCell (p := ⟨w.heap.size + 1 + 1, 0, none⟩) (by simp; omega) _).setCell (p := ⟨w.heap.size + 1 + 1 + 1, 0, none⟩) (by simp; omega) _).drew⟩
theorem sizeR_fst (t : Ex) : decide (512 < (sizeR t).1) = !fitB t := by
  cases hf : fitB t
  · have : (sizeR t).1 = 513 := by unfold sizeR; rw [hf]; rfl
    rw [this]; rfl
  · have : (sizeR t).1 = nodesE t := by unfold sizeR; rw [hf]; rfl
    have := of_decide_eq_true hf
    simp; omega
set_option maxHeartbeats 1000000 in
set_option maxRecDepth 100000 in
theorem great_any (t : Ex) (v : Value) (w : World) (hin : Tree w v t) :
    Calls Try.prog 36 #[v] w fun e w' => e = .returned (.bool (!fitB t)) ∧ Below w.heap.size w w' := by
  have hin' := hide hin
  obtain ⟨nd, ks⟩ := t
  obtain ⟨a, len, cap, rfl, _, _, _, _⟩ := hin.un
  have hs := sizeR_fst (.mk nd ks)
  have HS := hide (size_any (.mk nd ks) (exV nd (.slice a len cap)) (w.alloc (exO nd (.slice a len cap))) (hin.alloc _))
  obtain ⟨⟨x, y, z⟩, hr⟩ : ∃ r, sizeR (.mk nd ks) = r := ⟨_, rfl⟩
  rw [hr] at hs HS
  have hld := hide (Blk.new w (exC nd (.slice a len cap)) 37)
  clear hin hr
  have hs := hide hs
  go_enter Try.func36, Try.ntmps36
  go_wp2_with (first
    | (refine wpList_load_blk rfl 37 _ rfl _ rfl _ hld.out _ Try.underlying37 rfl (exC_info _ _) ?_)
    | (go_at_call 47; refine HS.out.mono ?_; rintro e w1 ⟨rfl, hb1⟩; have hb1 := hide (next (step (Below.refl _ w) _) hb1)))
  go_ret
  refine ⟨ret_bool ?_, hb1.out⟩
  rw [← hs.out]
end Go.Proofs.Ytiajoppbgebnpaa
