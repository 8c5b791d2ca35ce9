/- Over of a table of things of type string: an iterator over the places of an area at which something lies, in row order, with what lies there. Proved of the Go text. -/
import Derived.Test.YtmfkeobjbcinpaaSift7S
import Derived.Test.YtmfkeobjbcinpaaSize3
import Derived.Test.YtmfkeobjbcinpaaOk7
namespace Go.Proofs.Ytmfkeobjbcinpaa
open Go.RowKit Go.Shelf Go.Sort Go.Maps
set_option linter.unusedVariables false

set_option maxRecDepth 100000 in
set_option maxHeartbeats 1000000 in
theorem overS_big {w : World} {Bt b : Nat} {L : Tb (ByteArray)} (h : TabS w Bt b L) (hl : L.length ≤ 65536) (t l bo r : Int) (ho : 0 ≤ t ∧ t ≤ bo ∧ bo < 65536 ∧ 0 ≤ l ∧ l ≤ r ∧ r < 702) (hp : ¬ 4096 < (bo - t + 1) * (r - l + 1)) (hg : ¬ (bo - t + 1) * (r - l + 1) < (L.length : Int)) :
    Calls Try.prog 37 #[.pointer (some ⟨Bt, 0, none⟩), areaV t l bo r] w fun e w' => ∃ v bs, e = .returned v ∧ ItAt w' 77 127 v ((L.filter fun p => hasA t l bo r p.1).map valS) bs ∧ Below w.heap.size w w' ∧ (∀ k ∈ bs, w.heap.size ≤ k) := by
  have HS := hide (fun w => asize_yes t l bo r w ho hp (may_ok ho))
  have h0 := hide (h.alloc (areaO t l bo r))
  have a0 := hide (Blk.new w #[.int .i64 t, .int .i64 l, .int .i64 bo, .int .i64 r] 37)
  have B0 := hide (step (Below.refl w.heap.size w) (areaO t l bo r))
  clear h
  go_enter Try.func37, Try.ntmps37
  go_wp2_with fail
  refine (HS.out _).mono ?_
  rintro e w1 ⟨rfl, hb1⟩
  have h1 := hide (h0.out.keep hb1)
  have a1 := hide (a0.out.keep hb1)
  have B1 := hide (next B0.out hb1)
  clear h0 a0 B0 hb1
  generalize (bo - t + 1) * (r - l + 1) = q at hg ⊢
  go_wp2_with fail
  refine (lenS_any h1.out).mono ?_
  rintro e w' ⟨rfl, rfl⟩
  rw [List.length_map]
  have HC := hide (siftS_any h1.out hl t l bo r)
  obtain ⟨c0, c1, c2, c3⟩ := a1.out.c4
  go_wp2_with fail
  refine HC.out.mono ?_
  rintro e w2 ⟨v, rfl, hrow, hb2⟩
  obtain ⟨a, c, bs0, rfl, hs0, hbs⟩ := row_spots hrow
  have h2 := h1.out.keep hb2
  rw [keys_filter] at hs0
  have HA := hide (asItS_any h2 (L.filter fun p => hasA t l bo r p.1) (TabS.got h2 (fun p hp => (List.mem_filter.1 hp).1)) (Nat.le_trans (List.length_filter_le _ _) hl) (cap := c) hs0 (fun k hk => (hbs k hk).2.1))
  have hkl : ((keysT L).filter (hasA t l bo r)).length = (L.filter fun p => hasA t l bo r p.1).length := by rw [keys_filter]; simp [keysT]
  have B2 := hide (next B1.out hb2)
  have hb4 := hide (fun k hk => Nat.le_trans B1.out.size (hbs k hk).1)
  rw [hkl]
  clear hrow hs0 hbs h2 hkl hb2 h1 HC HS c0 c1 c2 c3 a1 B1
  go_wp2_with fail
  refine HA.out.mono ?_
  rintro e w3 ⟨v, bs, rfl, hit, hb5, hb6⟩
  replace hit := hide hit
  replace hb5 := hide hb5
  replace hb6 := hide hb6
  go_wp2_with fail
  go_ret
  refine ⟨_, bs, rfl, hit.out, next B2.out hb5.out, fun k hk => ?_⟩
  rcases hb6.out k hk with h | h
  · exact Nat.le_trans B2.out.size h
  · exact hb4.out k h
end Go.Proofs.Ytmfkeobjbcinpaa
