/- All of a table of things of type string: an iterator over all places at which something lies, in row order, with what lies there. Proved of the Go text. -/
import Derived.Test.YtmfkeobjbcinpaaAs7S
import Derived.Test.YtmfkeobjbcinpaaKeys7S
namespace Go.Proofs.Ytmfkeobjbcinpaa
open Go.RowKit Go.Shelf Go.Sort Go.Maps
set_option linter.unusedVariables false

/-- A table of typed things. -/
abbrev TabS (w : World) (Bt b : Nat) (L : Tb (ByteArray)) : Prop := TabAt w 116 Bt b (L.map valS)
theorem sort_valS {L : Tb (ByteArray)} (h : SortT (L.map valS)) : SortT L := by unfold SortT at *; rw [List.pairwise_map] at h; exact h
theorem val_sortS {L : Tb (ByteArray)} (h : SortT L) : SortT (L.map valS) := by unfold SortT at *; rw [List.pairwise_map]; exact h
theorem get_valS (L : Tb (ByteArray)) (s : Sp) : getT (L.map valS) s = (getT L s).map (.string) := by
  unfold getT
  rw [List.find?_map]
  cases h : List.find? ((fun p => decide (p.1 = s)) ∘ valS) L with
  | none => rw [show (fun p : Sp × ByteArray => decide (p.1 = s)) = ((fun p => decide (p.1 = s)) ∘ valS) from rfl, h]; rfl
  | some p => rw [show (fun p : Sp × ByteArray => decide (p.1 = s)) = ((fun p => decide (p.1 = s)) ∘ valS) from rfl, h]; rfl
theorem has_valS (L : Tb (ByteArray)) (s : Sp) : hasT (L.map valS) s = hasT L s := by unfold hasT; rw [get_valS]; cases getT L s <;> rfl
theorem ins_valS (L : Tb (ByteArray)) (s : Sp) (x : ByteArray) : insT (L.map valS) s (.string x) = (insT L s x).map valS := by
  induction L with
  | nil => rfl
  | cons p r ih =>
    simp only [List.map_cons, insT]
    split
    · rw [List.map_cons, ih]
    · split <;> rfl
theorem del_valS (L : Tb (ByteArray)) (s : Sp) : delT (L.map valS) s = (delT L s).map valS := by
  unfold delT
  rw [List.filter_map]
  rfl
theorem TabS.sorted {w : World} {Bt b : Nat} {L : Tb (ByteArray)} (h : TabS w Bt b L) : SortT L := sort_valS h.2.sorted
theorem TabS.may {w : World} {Bt b : Nat} {L : Tb (ByteArray)} (h : TabS w Bt b L) : ∀ p ∈ L, mayB p.1.1 p.1.2 = true := fun p hp => h.2.may (valS p) (List.mem_map.2 ⟨p, hp, rfl⟩)
theorem TabS.got {w : World} {Bt b : Nat} {L M : Tb (ByteArray)} (h : TabS w Bt b L) (hM : ∀ p ∈ M, p ∈ L) : ∀ p ∈ M, mayB p.1.1 p.1.2 = true ∧ getT (L.map valS) p.1 = some (.string p.2) := fun p hp =>
  ⟨TabS.may h p (hM p hp), getT_mem h.2.sorted (List.mem_map.2 ⟨p, hM p hp, rfl⟩)⟩
theorem enter_keysS : ∀ args w, (callFunc 78 args).run Try.prog w = .ok (.enter 78 args) w := enters_of Try.func78 (by kernel_rfl) rfl
set_option maxHeartbeats 1000000 in
theorem allS_any {w : World} {Bt b : Nat} {L : Tb (ByteArray)} (h : TabS w Bt b L) (hl : L.length ≤ 65536) :
    Calls Try.prog 36 #[.pointer (some ⟨Bt, 0, none⟩)] w fun e w' => ∃ v bs, e = .returned v ∧ ItAt w' 77 127 v (L.map valS) bs ∧ Below w.heap.size w w' ∧ (∀ k ∈ bs, w.heap.size ≤ k) := by
  have c0 := h.1.c1
  have HK := hide (keysFS_any b)
  have h1 := hide (h.alloc (.cells #[.map (some b)] 114))
  have hb1 := hide (step (Below.refl w.heap.size w) (.cells #[.map (some b)] 114))
  have HS := hide (sortedFunc_any (N := (L.map valS).length) enter_keysS (keysS_stops 11 (by decide) w.heap.size b (L.map valS) (w.alloc (.cells #[.map (some b)] 114)) (Blk.new w _ _).c1 h1.out.2) (by simpa using hl) (fun K hK => by have := hK.length_eq; simp [keysT] at this; omega))
  have hsrt := hide (keysT_sorted (TabS.sorted h))
  clear h
  go_enter Try.func36, Try.ntmps36
  go_wp2_with fail
  refine (HK.out _).mono ?_
  rintro e w' ⟨rfl, rfl⟩
  go_wp2_with fail
  refine HS.out.mono ?_
  rintro e w2 ⟨v, K, rfl, hp, hrow, hb2⟩
  rw [keys_valS] at hp
  rw [sortL_eq hp hsrt.out] at hrow
  obtain ⟨a, c, bs0, rfl, hs0, hbs⟩ := row_spots hrow
  have h2 := h1.out.keep hb2
  have HA := hide (asItS_any h2 L (TabS.got h2 (fun p hp => hp)) hl (cap := c) hs0 (fun k hk => (hbs k hk).2.1))
  have hkl : (keysT L).length = L.length := by simp [keysT]
  have hb3 := hide (next hb1.out hb2)
  have hb4 := hide (fun k hk => Nat.le_trans (Nat.le_succ w.heap.size) (by have := (hbs k hk).1; simpa using this))
  rw [hkl]
  clear hp hrow hs0 hbs h2 hkl hb2 h1 HK HS
  go_wp2_with fail
  refine HA.out.mono ?_
  rintro e w3 ⟨v, bs, rfl, hit, hb5, hb6⟩
  replace hit := hide hit
  replace hb5 := hide hb5
  replace hb6 := hide hb6
  go_wp2_with fail
  go_ret
  refine ⟨_, bs, rfl, hit.out, next hb3.out hb5.out, fun k hk => ?_⟩
  rcases hb6.out k hk with h | h
  · exact Nat.le_trans hb3.out.size h
  · exact hb4.out k h
end Go.Proofs.Ytmfkeobjbcinpaa
