/- Over of a table of things of type int: an iterator over the places of an area at which something lies, in row order, with what lies there. Proved of the Go text. -/
import Derived.Test.YtmfkeobjbcinpaaSift7I
import Derived.Test.YtmfkeobjbcinpaaSize3
import Derived.Test.YtmfkeobjbcinpaaOk7
import Derived.Test.YtmfkeobjbcinpaaLook7I
namespace Go.Proofs.Ytmfkeobjbcinpaa
open Go.RowKit Go.Shelf Go.Sort Go.Maps
set_option linter.unusedVariables false

set_option maxRecDepth 100000 in
set_option maxHeartbeats 1000000 in
theorem overI_big {w : World} {Bt b : Nat} {L : Tb (Int)} (h : TabI w Bt b L) (hl : L.length ≤ 65536) (t l bo r : Int) (ho : 0 ≤ t ∧ t ≤ bo ∧ bo < 65536 ∧ 0 ≤ l ∧ l ≤ r ∧ r < 702) (hp : ¬ 4096 < (bo - t + 1) * (r - l + 1)) (hg : ¬ (bo - t + 1) * (r - l + 1) < (L.length : Int)) :
    Calls Try.prog 17 #[.pointer (some ⟨Bt, 0, none⟩), areaV t l bo r] w fun e w' => ∃ v bs, e = .returned v ∧ ItAt w' 66 29 v ((L.filter fun p => hasA t l bo r p.1).map valI) bs ∧ Below w.heap.size w w' ∧ (∀ k ∈ bs, w.heap.size ≤ k) := by
  have HS := hide (fun w => asize_yes t l bo r w ho hp (may_ok ho))
  have h0 := hide (h.alloc (areaO t l bo r))
  have a0 := hide (Blk.new w #[.int .i64 t, .int .i64 l, .int .i64 bo, .int .i64 r] 37)
  have B0 := hide (step (Below.refl w.heap.size w) (areaO t l bo r))
  clear h
  go_enter Try.func17, Try.ntmps17
  go_wp2_with fail
  refine (HS.out _).mono ?_
  rintro e w1 ⟨rfl, hb1⟩
  have h1 := hide (h0.out.keep hb1)
  have a1 := hide (a0.out.keep hb1)
  have B1 := hide (next B0.out hb1)
  clear h0 a0 B0 hb1
  generalize (bo - t + 1) * (r - l + 1) = q at hg ⊢
  go_wp2_with fail
  refine (lenI_any h1.out).mono ?_
  rintro e w' ⟨rfl, rfl⟩
  rw [List.length_map]
  have HC := hide (siftI_any h1.out hl t l bo r)
  obtain ⟨c0, c1, c2, c3⟩ := a1.out.c4
  go_wp2_with fail
  refine HC.out.mono ?_
  rintro e w2 ⟨v, rfl, hrow, hb2⟩
  obtain ⟨a, c, bs0, rfl, hs0, hbs⟩ := row_spots hrow
  have h2 := h1.out.keep hb2
  rw [keys_filter] at hs0
  have HA := hide (asItI_any h2 (L.filter fun p => hasA t l bo r p.1) (TabI.got h2 (fun p hp => (List.mem_filter.1 hp).1)) (Nat.le_trans (List.length_filter_le _ _) hl) (cap := c) hs0 (fun k hk => (hbs k hk).2.1))
  have hkl : ((keysT L).filter (hasA t l bo r)).length = (L.filter fun p => hasA t l bo r p.1).length := by rw [keys_filter]; simp [keysT]
  have B2 := hide (next B1.out hb2)
  have hb4 := hide (fun k hk => Nat.le_trans B1.out.size (hbs k hk).1)
  rw [hkl]
  clear hrow hs0 hbs h2 hkl hb2 h1 HC HS c0 c1 c2 c3 a1 B1
  go_wp2_with fail
  refine HA.out.mono ?_
  rintro e w3 ⟨v, bs, rfl, hit, hb5, hb6⟩
  replace hit := hide hit
  replace hb5 := hide hb5
  replace hb6 := hide hb6
  go_wp2_with fail
  go_ret
  refine ⟨_, bs, rfl, hit.out, next B2.out hb5.out, fun k hk => ?_⟩
  rcases hb6.out k hk with h | h
  · exact Nat.le_trans B2.out.size h
  · exact hb4.out k h
set_option maxRecDepth 100000 in
set_option maxHeartbeats 1000000 in
theorem overI_long {w : World} {Bt b : Nat} {L : Tb (Int)} (h : TabI w Bt b L) (hl : L.length ≤ 65536) (t l bo r : Int) (ho : 0 ≤ t ∧ t ≤ bo ∧ bo < 65536 ∧ 0 ≤ l ∧ l ≤ r ∧ r < 702) (hp : 4096 < (bo - t + 1) * (r - l + 1)) :
    Calls Try.prog 17 #[.pointer (some ⟨Bt, 0, none⟩), areaV t l bo r] w fun e w' => ∃ v bs, e = .returned v ∧ ItAt w' 66 29 v ((L.filter fun p => hasA t l bo r p.1).map valI) bs ∧ Below w.heap.size w w' ∧ (∀ k ∈ bs, w.heap.size ≤ k) := by
  have HS := hide (fun w => asize_long t l bo r w ho hp (may_ok ho))
  have h0 := hide (h.alloc (areaO t l bo r))
  have a0 := hide (Blk.new w #[.int .i64 t, .int .i64 l, .int .i64 bo, .int .i64 r] 37)
  have B0 := hide (step (Below.refl w.heap.size w) (areaO t l bo r))
  clear h
  go_enter Try.func17, Try.ntmps17
  go_wp2_with fail
  refine (HS.out _).mono ?_
  rintro e w1 ⟨rfl, hb1⟩
  have h1 := hide (h0.out.keep hb1)
  have a1 := hide (a0.out.keep hb1)
  have B1 := hide (next B0.out hb1)
  clear h0 a0 B0 hb1
  have HC := hide (siftI_any h1.out hl t l bo r)
  obtain ⟨c0, c1, c2, c3⟩ := a1.out.c4
  go_wp2_with fail
  refine HC.out.mono ?_
  rintro e w2 ⟨v, rfl, hrow, hb2⟩
  obtain ⟨a, c, bs0, rfl, hs0, hbs⟩ := row_spots hrow
  have h2 := h1.out.keep hb2
  rw [keys_filter] at hs0
  have HA := hide (asItI_any h2 (L.filter fun p => hasA t l bo r p.1) (TabI.got h2 (fun p hp => (List.mem_filter.1 hp).1)) (Nat.le_trans (List.length_filter_le _ _) hl) (cap := c) hs0 (fun k hk => (hbs k hk).2.1))
  have hkl : ((keysT L).filter (hasA t l bo r)).length = (L.filter fun p => hasA t l bo r p.1).length := by rw [keys_filter]; simp [keysT]
  have B2 := hide (next B1.out hb2)
  have hb4 := hide (fun k hk => Nat.le_trans B1.out.size (hbs k hk).1)
  rw [hkl]
  clear hrow hs0 hbs h2 hkl hb2 h1 HC HS c0 c1 c2 c3 a1 B1
  go_wp2_with fail
  refine HA.out.mono ?_
  rintro e w3 ⟨v, bs, rfl, hit, hb5, hb6⟩
  replace hit := hide hit
  replace hb5 := hide hb5
  replace hb6 := hide hb6
  go_wp2_with fail
  go_ret
  refine ⟨_, bs, rfl, hit.out, next B2.out hb5.out, fun k hk => ?_⟩
  rcases hb6.out k hk with h | h
  · exact Nat.le_trans B2.out.size h
  · exact hb4.out k h
set_option maxRecDepth 100000 in
set_option maxHeartbeats 1000000 in
theorem overI_small {w : World} {Bt b : Nat} {L : Tb (Int)} (h : TabI w Bt b L) (hl : L.length ≤ 65536) (t l bo r : Int) (ho : 0 ≤ t ∧ t ≤ bo ∧ bo < 65536 ∧ 0 ≤ l ∧ l ≤ r ∧ r < 702) (hp : ¬ 4096 < (bo - t + 1) * (r - l + 1)) (hg : (bo - t + 1) * (r - l + 1) < (L.length : Int)) (nr nc : Nat) (hr : bo + 1 = t + nr) (hc : r + 1 = l + nc) (hN : nr * nc ≤ 65536) :
    Calls Try.prog 17 #[.pointer (some ⟨Bt, 0, none⟩), areaV t l bo r] w fun e w' => ∃ v bs, e = .returned v ∧ ItAt w' 66 29 v ((L.filter fun p => hasA t l bo r p.1).map valI) bs ∧ Below w.heap.size w w' ∧ (∀ k ∈ bs, w.heap.size ≤ k) := by
  have HS := hide (fun w => asize_yes t l bo r w ho hp (may_ok ho))
  have h0 := hide (h.alloc (areaO t l bo r))
  have a0 := hide (Blk.new w #[.int .i64 t, .int .i64 l, .int .i64 bo, .int .i64 r] 37)
  have B0 := hide (step (Below.refl w.heap.size w) (areaO t l bo r))
  clear h
  go_enter Try.func17, Try.ntmps17
  go_wp2_with fail
  refine (HS.out _).mono ?_
  rintro e w1 ⟨rfl, hb1⟩
  have h1 := hide (h0.out.keep hb1)
  have a1 := hide (a0.out.keep hb1)
  have B1 := hide (next B0.out hb1)
  clear h0 a0 B0 hb1
  generalize (bo - t + 1) * (r - l + 1) = q at hg ⊢
  go_wp2_with fail
  refine (lenI_any h1.out).mono ?_
  rintro e w' ⟨rfl, rfl⟩
  rw [List.length_map]
  have HC := hide (lookI_any h1.out t l bo r nr nc ho hr hc hN)
  obtain ⟨c0, c1, c2, c3⟩ := a1.out.c4
  go_wp2_with fail
  refine HC.out.mono ?_
  rintro e w2 ⟨v, rfl, hrow, hb2⟩
  obtain ⟨a, c, bs0, rfl, hs0, hbs⟩ := row_spots hrow
  have h2 := h1.out.keep hb2
  rw [keys_filter] at hs0
  have HA := hide (asItI_any h2 (L.filter fun p => hasA t l bo r p.1) (TabI.got h2 (fun p hp => (List.mem_filter.1 hp).1)) (Nat.le_trans (List.length_filter_le _ _) hl) (cap := c) hs0 (fun k hk => (hbs k hk).2.1))
  have hkl : ((keysT L).filter (hasA t l bo r)).length = (L.filter fun p => hasA t l bo r p.1).length := by rw [keys_filter]; simp [keysT]
  have B2 := hide (next B1.out hb2)
  have hb4 := hide (fun k hk => Nat.le_trans B1.out.size (hbs k hk).1)
  rw [hkl]
  clear hrow hs0 hbs h2 hkl hb2 h1 HC HS c0 c1 c2 c3 a1 B1
  go_wp2_with fail
  refine HA.out.mono ?_
  rintro e w3 ⟨v, bs, rfl, hit, hb5, hb6⟩
  replace hit := hide hit
  replace hb5 := hide hb5
  replace hb6 := hide hb6
  go_wp2_with fail
  go_ret
  refine ⟨_, bs, rfl, hit.out, next B2.out hb5.out, fun k hk => ?_⟩
  rcases hb6.out k hk with h | h
  · exact Nat.le_trans B2.out.size h
  · exact hb4.out k h
set_option maxRecDepth 100000 in
set_option maxHeartbeats 1000000 in
theorem overI_bad {w : World} {Bt b : Nat} {L : Tb (Int)} (h : TabI w Bt b L) (hl : L.length ≤ 65536) (t l bo r : Int) (ho : ¬ (0 ≤ t ∧ t ≤ bo ∧ bo < 65536 ∧ 0 ≤ l ∧ l ≤ r ∧ r < 702)) :
    Calls Try.prog 17 #[.pointer (some ⟨Bt, 0, none⟩), areaV t l bo r] w fun e w' => ∃ v bs, e = .returned v ∧ ItAt w' 66 29 v ((L.filter fun p => hasA t l bo r p.1).map valI) bs ∧ Below w.heap.size w w' ∧ (∀ k ∈ bs, w.heap.size ≤ k) := by
  have hf : (L.filter fun p => hasA t l bo r p.1) = [] := by
    rw [List.filter_eq_nil_iff]
    intro p hp
    unfold hasA
    rw [hasB_bad _ _ (okA_not.2 ho)]
    simp
  rw [hf]
  clear hf
  have HS := hide (fun w => asize_bad t l bo r w (may_no ho))
  have h0 := hide (h.alloc (areaO t l bo r))
  have a0 := hide (Blk.new w #[.int .i64 t, .int .i64 l, .int .i64 bo, .int .i64 r] 37)
  have B0 := hide (step (Below.refl w.heap.size w) (areaO t l bo r))
  clear h
  go_enter Try.func17, Try.ntmps17
  go_wp2_with fail
  refine (HS.out _).mono ?_
  rintro e w1 ⟨rfl, hb1⟩
  have h1 := hide (h0.out.keep hb1)
  have a1 := hide (a0.out.keep hb1)
  have B1 := hide (next B0.out hb1)
  clear h0 a0 B0 hb1
  have HA := hide (asItI_any h1.out [] (fun p hp => by simp at hp) (Nat.zero_le _) (cap := 0) (a := none) (bs0 := []) (.inl rfl) (by simp))
  clear h1 HS a1
  go_wp2_with fail
  refine HA.out.mono ?_
  rintro e w3 ⟨v, bs, rfl, hit, hb5, hb6⟩
  replace hit := hide hit
  replace hb5 := hide hb5
  replace hb6 := hide hb6
  go_wp2_with fail
  go_ret
  refine ⟨_, bs, rfl, hit.out, next B1.out hb5.out, fun k hk => ?_⟩
  rcases hb6.out k hk with h | h
  · exact Nat.le_trans B1.out.size h
  · simp at h
/-- Over, of every area. -/
theorem overI_any {w : World} {Bt b : Nat} {L : Tb (Int)} (h : TabI w Bt b L) (hl : L.length ≤ 65536) (t l bo r : Int) (hwf : wfI t ∧ wfI l ∧ wfI bo ∧ wfI r) : Calls Try.prog 17 #[.pointer (some ⟨Bt, 0, none⟩), areaV t l bo r] w fun e w' => ∃ v bs, e = .returned v ∧ ItAt w' 66 29 v ((L.filter fun p => hasA t l bo r p.1).map valI) bs ∧ Below w.heap.size w w' ∧ (∀ k ∈ bs, w.heap.size ≤ k) := by
  by_cases ho : 0 ≤ t ∧ t ≤ bo ∧ bo < 65536 ∧ 0 ≤ l ∧ l ≤ r ∧ r < 702
  · by_cases hp : 4096 < (bo - t + 1) * (r - l + 1)
    · exact overI_long h hl t l bo r ho hp
    · by_cases hg : (bo - t + 1) * (r - l + 1) < (L.length : Int)
      · obtain ⟨nr, hr⟩ : ∃ nr : Nat, bo + 1 = t + nr := ⟨(bo + 1 - t).toNat, by omega⟩
        obtain ⟨nc, hc⟩ : ∃ nc : Nat, r + 1 = l + nc := ⟨(r + 1 - l).toNat, by omega⟩
        refine overI_small h hl t l bo r ho hp hg nr nc hr hc ?_
        have e1 : bo - t + 1 = (nr : Int) := by omega
        have e2 : r - l + 1 = (nc : Int) := by omega
        rw [e1, e2] at hp
        have : ((nr * nc : Nat) : Int) = (nr : Int) * nc := by simp
        omega
      · exact overI_big h hl t l bo r ho hp hg
  · exact overI_bad h hl t l bo r ho
end Go.Proofs.Ytmfkeobjbcinpaa
