/- What the reference's Starts and Len answer, for every text: a new row with the place of each rune's first byte, and the length. Proved of the Go text. -/
import Derived.Test.YtllbgjeibcaajaaDoorRefRune5b
namespace Go.Proofs.YtllbgjeibcaajaaDoor
open Go.RowKit Go.Sort
set_option linter.unusedVariables false

def stl (s : ByteArray) (k : Nat) : List Value := (List.range k).map fun j => Value.int .i64 (sk s j 0 : Nat)
theorem stl_snoc (s : ByteArray) (k : Nat) : stl s k ++ [.int .i64 (sk s k 0 : Nat)] = stl s (k + 1) := by simp [stl, List.range_succ]
theorem stl_len (s : ByteArray) (k : Nat) : (stl s k).length = k := by simp [stl]
theorem info_int : (Tryd.prog.info? 3).map (fun i => (i.zero, i.size, i.bytes)) = some (some (.int .i64 0), 1, 8) := by kernel_rfl
/-- The row that Starts answers: block g holds the places. -/
def Places (s : ByteArray) (g : Nat) (w : World) : Prop := ∀ j, j ≤ rc s 0 → w.cell? ⟨g, j, none⟩ = some (.int .i64 (sk s j 0 : Nat))
theorem Places.keep {s : ByteArray} {g : Nat} {W W' : World} (h : Places s g W) (hb : Below W.heap.size W W') : Places s g W' := fun j hj => keep1 hb (h j hj)
theorem grow_below {B : Nat} {w wr w1 : World} {v : Value} {o : Obj} {n : Nat} {xs : List Value} (hB : B ≤ wr.heap.size) (hnx : Below B w wr) (hown : wr.ownsRow B 3 1 v n xs) (hgrow : (wr.alloc o).grownBy w1 v.ownBlock) : Below B w w1 :=
  (hnx.alloc hB o).grown hgrow (by simp; omega) fun j hj => (hown.lt j hj).1
abbrev StartsIs (s : ByteArray) : Prop := Hid (∀ w, Calls Tryd.prog 24 #[.string s] w fun e w' => ∃ g c, e = .returned (.slice (some ⟨g, 0, none⟩) (rc s 0 + 1) c) ∧ w.heap.size ≤ g ∧ rc s 0 + 1 ≤ c ∧ Places s g w' ∧ Below w.heap.size w w')
theorem places_own {s : ByteArray} {w : World} {B n : Nat} {v : Value} (h : w.ownsRow B 3 1 v (n + 1) (stl s (n + 1))) (hn : n = rc s 0) : ∃ g c, v = .slice (some ⟨g, 0, none⟩) (n + 1) c ∧ B ≤ g ∧ n + 1 ≤ c ∧ Places s g w := by
  subst hn
  obtain ⟨hl, ⟨rfl, h0⟩ | ⟨g, cap, cur, rfl, hb, hg, h1, h2, h3, ht⟩⟩ := h
  · exact absurd h0 (by omega)
  · refine ⟨g, cap, rfl, hb, h1, fun j hj => ?_⟩
    have hw : w.ownsRow B 3 1 (.slice (some ⟨g, 0, none⟩) (rc s 0 + 1) cap) (rc s 0 + 1) (stl s (rc s 0 + 1)) := ⟨hl, .inr ⟨g, cap, cur, rfl, hb, hg, h1, h2, h3, ht⟩⟩
    have := hw.cellAt j (by omega)
    rw [this]
    simp [stl, List.getElem?_map, List.getElem?_range (show j < rc s 0 + 1 by omega)]
theorem own_keep {w w' : World} {B n : Nat} {e : TypeId} {v : Value} {xs : List Value} (h : w.ownsRow B e 1 v n xs) (hb : Below w.heap.size w w') : w'.ownsRow B e 1 v n xs :=
  h.kept (row := none) ⟨hb.os, hb.tape, hb.output, hb.size, fun k hk _ => hb.block k hk⟩ (by
    by_cases h' : v.ownBlock = none
    · exact .inl h'
    · exact .inr h')
set_option maxHeartbeats 1000000 in
theorem starts_any (s : ByteArray) (hs : s.size ≤ 200000) : StartsIs s := by
  intro w
  obtain ⟨i0, hi, hz0, hz1, hz2⟩ := info_parts info_int
  have hrs := rc_size s
  go_enter Tryd.func24, Tryd.ntmps24
  go_wp2
  go_loopw [3, 4, 5, 6] (fun v i _ _ wr => ∃ k : Nat, k ≤ rc s 0 ∧ i = .int .i64 (sk s k 0 : Nat) ∧ Hid (wr.ownsRow w.heap.size 3 1 v k (stl s k)) ∧ Hid (Below w.heap.size w wr)) (fun _ i _ _ _ => s.size - (intOf i).toNat)
  case atStart => exact ⟨0, Nat.zero_le _, rfl, hide (World.ownsRow_nil _ _ _ _), hide (Below.refl _ _)⟩
  case round =>
    obtain ⟨k, hk, rfl, hown, hB⟩ := hrel
    have hwz := hB.out.size
    have hle := sk_le s k 0 (Nat.zero_le _)
    by_cases hlt : sk s k 0 < s.size
    · have HR := rune_any s (sk s k 0) hlt hs
      have hkr := (sk_lt_iff s k 0 (Nat.zero_le _)).1 hlt
      have hwd := wd_pos s _ hlt
      have hwl := wd_le s _ hlt
      have hst : Hid (sk s k 0 + wd s (sk s k 0) = sk s (k + 1) 0) := hide (by rw [sk_succ, nx, if_pos hlt])
      have hsn := hide (stl_snoc s k)
      generalize hX : stl s (k + 1) = xs' at *
      generalize stl s k = xs at *
      generalize hX3 : sk s (k + 1) 0 = x3 at *
      replace hX := hide hX
      replace hX3 := hide hX3
      generalize wd s (sk s k 0) = x2 at *
      generalize nr s (sk s k 0) = x4 at *
      generalize hx1 : sk s k 0 = x1 at *
      replace hx1 := hide hx1
      have hown0 := hown.out
      have hw2 : (x1 : Int) + x2 ≤ 9223372036854775807 := by omega
      replace hwl := hide hwl
      replace hkr := hide hkr
      have hlt' := hide hlt
      go_wp2_with (at_builtin; refine wpList_append_own _ rfl _ _ 48 rfl w.heap.size 3 i0 (.int .i64 0) 1 8 Tryd.underlying48 hi hz0 hz1 hz2 rfl (by decide) _ _ _ rfl (hown0.alloc _) ⟨wr.heap.size, 0, none⟩ 1 1 [.int .i64 x1] rfl rfl (fun j u hj => by match j, hj with | 0, hj => simp at hj; subst hj; simp [Addr.add]) (fun u hu => by simp at hu; subst hu; rfl) (by unfold maxLen; omega) (by omega) (by simp; omega) ?_)
      intro v' w1 hown' hgrow _
      have hB1 := hide (grow_below hwz hB.out hown0 hgrow)
      have hO1 : Hid (w1.ownsRow w.heap.size 3 1 v' (k + 1) xs') := by rw [← hsn.out]; exact hide hown'
      clear hown' hgrow hown0
      go_wp2_with fail
      refine (HR.out _).mono ?_
      rintro e w2 ⟨rfl, hb2⟩
      have hB2 := hide (next hB1.out hb2)
      have hO2 := hide (own_keep hO1.out hb2)
      clear hb2
      go_wp2_with fail
      go_roundw
      case rel => exact ⟨k + 1, hkr.out, by rw [hX3.out, ← hst.out, Int.natCast_add], by rw [hX.out]; exact hO2, hB2⟩
      case measure => have := hst.out; have := hlt'.out; simp [intOf]; omega
    · have hk2 : k = rc s 0 := by
        rcases Nat.lt_or_ge k (rc s 0) with h | h
        · exact absurd ((sk_lt_iff s k 0 (Nat.zero_le _)).2 h) hlt
        · omega
      have hx : Hid (sk s k 0 = s.size) := hide (by omega)
      have hsn := hide (stl_snoc s k)
      rw [hx.out] at hsn
      generalize hX : stl s (k + 1) = xs' at *
      generalize stl s k = xs at *
      generalize sk s k 0 = x1 at *
      have hown0 := hown.out
      replace hX := hide hX
      replace hk2 := hide hk2
      have hlt2 : ¬ (x1 : Int) < s.size := by omega
      go_wp2_with (at_builtin; refine wpList_append_own _ rfl _ _ 48 rfl w.heap.size 3 i0 (.int .i64 0) 1 8 Tryd.underlying48 hi hz0 hz1 hz2 rfl (by decide) _ _ _ rfl (hown0.alloc _) ⟨wr.heap.size, 0, none⟩ 1 1 [.int .i64 s.size] rfl rfl (fun j u hj => by match j, hj with | 0, hj => simp at hj; subst hj; simp [Addr.add]) (fun u hu => by simp at hu; subst hu; rfl) (by unfold maxLen; omega) (by omega) (by simp; omega) ?_)
      intro v' w1 hown' hgrow _
      have hB1 := hide (grow_below hwz hB.out hown0 hgrow)
      have hO1 : Hid (w1.ownsRow w.heap.size 3 1 v' (k + 1) (stl s (k + 1))) := by rw [hX.out, ← hsn.out]; exact hide hown'
      clear hown' hgrow hown0
      obtain ⟨g, c, rfl, hg, hc, hP⟩ := places_own hO1.out hk2.out
      have hq : Hid (k + 1 = rc s 0 + 1) := hide (by rw [hk2.out])
      replace hP := hide hP
      clear hO1
      go_wp2_with fail
      go_ret
      refine ⟨g, c, ?_, hg, ?_, hP.out, hB1.out⟩
      · rw [← hq.out]; rfl
      · rw [← hq.out]; exact hc
/-- The reference's Len. -/
theorem rlen_any (s : ByteArray) (hs : s.size ≤ 200000) : CallIs 14 #[.string s] (.int .i64 (rc s 0)) := by
  intro w
  have HS := starts_any s hs
  have hr := rc_size s
  go_enter Tryd.func14, Tryd.ntmps14
  go_wp2_with fail
  refine (HS.out _).mono ?_
  rintro e w1 ⟨g, c, rfl, _, _, _, hb⟩
  go_wp2_with fail
  go_ret
  exact ⟨rfl, hb⟩
end Go.Proofs.YtllbgjeibcaajaaDoor
