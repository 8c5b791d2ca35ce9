/- list.numbers, list.Find and quadrilleref13.Find: what they answer of every name. -/
import Derived.Test.YtmoekapoajkaiaaRInf13
import Derived.Maps.OwnSet
namespace Go.Proofs.Ytmoekapoajkaiaa
open Go.RowKit Go.Sort Go.Maps Go.WideMaps
set_option linter.unusedVariables false

theorem lawS : Keyed Try.prog 9 := string_keyed Try.underlying9
theorem zeroI (w : World) : (zeroValue 3).run Try.prog w = .ok (.int .i64 0) w := by kernel_rfl
/-- The name of the function k + 1. -/
def nm (k : Nat) : ByteArray := (tab.getD k (no, 0, 0)).1
theorem nm_eq (k : Nat) (hk : k < 76) : (tab[k]'(by rw [tab_len]; exact hk)).1 = nm k := by
  unfold nm
  rw [List.getD_eq_getElem?_getD, List.getElem?_eq_getElem (by rw [tab_len]; exact hk)]
  rfl
theorem nm_small : ∀ k, k < 76 → (nm k).size ≤ 10 := by decide +kernel
theorem nm_apart : ∀ i, i < 76 → ∀ j, j < 76 → (nm i).data.toList = (nm j).data.toList → i = j := by decide +kernel
def keyN (s : ByteArray) : Lit := .string s.data.toList
theorem keyN_key (s : ByteArray) : WideAt.IsKeyLit (keyN s) := trivial
theorem keyN_inj {s t : ByteArray} (h : keyN s = keyN t) : s = t := by
  unfold keyN at h
  injection h with h
  cases s; cases t
  simp at h
  rw [h]
/-- The map behind k rounds. -/
def mapN : Nat → DataW Unit
  | 0 => .map []
  | k + 1 => (mapN k).put (keyN (nm k)) (.lit (.int .i64 ((k : Int) + 1)))
theorem mapN_map : ∀ k, IsMap (mapN k)
  | 0 => isMap_empty
  | k + 1 => (mapN_map k).put _ _
theorem mapN_has (s : ByteArray) : ∀ k, k ≤ 76 → ((∃ i, i < k ∧ nm i = s ∧ has (mapN k) (keyN s) = true ∧ (mapN k).atKey (keyN s) (.lit (.int .i64 0)) = .lit (.int .i64 ((i : Int) + 1))) ∨ ((∀ i, i < k → nm i ≠ s) ∧ has (mapN k) (keyN s) = false ∧ (mapN k).atKey (keyN s) (.lit (.int .i64 0)) = .lit (.int .i64 0)))
  | 0, _ => .inr ⟨fun i hi => absurd hi (Nat.not_lt_zero i), rfl, rfl⟩
  | k + 1, hk => by
    by_cases e : nm k = s
    · left
      refine ⟨k, Nat.lt_succ_self k, e, ?_, ?_⟩
      · show has ((mapN k).put (keyN (nm k)) _) _ = true
        rw [e]; exact has_put_same (mapN_map k) (keyN_key s) _
      · show ((mapN k).put (keyN (nm k)) _).atKey _ _ = _
        rw [e]; exact atKey_put_same (mapN_map k) (keyN_key s) _ _
    · have hne : keyN s ≠ keyN (nm k) := fun h => e (keyN_inj h).symm
      have h1 : has (mapN (k + 1)) (keyN s) = has (mapN k) (keyN s) := has_put_other hne _
      have h2 : ∀ z, (mapN (k + 1)).atKey (keyN s) z = (mapN k).atKey (keyN s) z := fun z => atKey_put_other hne _ z
      rw [h1, h2]
      rcases mapN_has s k (by omega) with ⟨i, hi, h⟩ | ⟨hn, h⟩
      · exact .inl ⟨i, by omega, h⟩
      · exact .inr ⟨fun i hi => by by_cases e' : i = k; (subst e'; exact e); exact hn i (by omega), h⟩
theorem meas13 {l k : Nat} (h : k < l) : l - (intOf (.int .i64 ((k : Int) + 1))).toNat < l - (intOf (.int .i64 (k : Int))).toNat := by
  show l - ((k : Int) + 1).toNat < l - (k : Int).toNat
  omega
theorem key_ok (s : ByteArray) (hs : s.size ≤ maxLen) : keyOf Try.prog 9 (.string s) = some (keyN s) := keyOf_string_mk Try.underlying9 hs
theorem make_hint (w : World) : (Instr.makeMap 34 (some (.int .i64 76))).run Try.prog w = .ok (.map (some w.heap.size)) (w.alloc (.map #[] 0)) := rfl
set_option maxHeartbeats 2000000 in
set_option maxRecDepth 100000 in
theorem numbers_any (w : World) : Calls Try.prog 11 #[] w fun e w' => e = .returned (.map (some w.heap.size)) ∧ w'.ownsMap Try.prog 9 (plainElem Try.prog 3) w.heap.size 76 (mapN 76) ∧ Below w.heap.size w w' := by
  have hmm := make_hint
  have HC := hide catalogue_any
  go_enter Try.func11, Try.ntmps11
  go_wp2_with (go_at_call 13; refine (HC.out _).mono ?_; rintro e w1 ⟨rfl, hb⟩; have b1 := hide (next (step (Below.refl w.heap.size w) (.map #[] 0)) hb); have M1 : Hid (w1.ownsMap Try.prog 9 (plainElem (H := Unit) Try.prog 3) w.heap.size 0 (mapN 0)) := hide ((World.ownsMap_made w _ _ _).kept (row := none) ⟨hb.os, hb.tape, hb.output, hb.size, fun k hk _ => hb.block k hk⟩ (by simp)); clear hb)
  clear hmm
  go_loopw [6] (fun i wr => ∃ k : Nat, k ≤ 76 ∧ i = .int .i64 k ∧ Hid (wr.ownsMap Try.prog 9 (plainElem (H := Unit) Try.prog 3) w.heap.size k (mapN k)) ∧ Hid (Below w.heap.size w wr)) (fun i _ => 76 - (intOf i).toNat)
  case atStart => exact ⟨0, Nat.zero_le _, rfl, M1, b1⟩
  case round =>
    clear M1 b1
    obtain ⟨k, hk, rfl, M, B⟩ := hrel
    by_cases hkt : k < 76
    · have p0 : (k : Int) < 76 := by omega
      have HI := index76 k hkt
      rw [nm_eq k hkt] at HI
      have hkey := hide (key_ok (nm k) (Nat.le_trans (nm_small k hkt) (by decide)))
      have wk := IntWalk.wrap64_in ((k : Int) + 1) ⟨by omega, by omega⟩
      generalize hs : nm k = s at HI hkey
      generalize (tab[k]'(by rw [tab_len]; exact hkt)).2.1 = mn at HI
      generalize (tab[k]'(by rw [tab_len]; exact hkt)).2.2 = mx at HI
      replace hs := hide hs
      go_wp2_with (first
        | (at_mapUpdate; refine wpList_mapUpdate_own _ rfl _ _ _ 34 rfl 9 3 lawS Try.underlying34 _ w.heap.size k _ rfl (World.ownsMap.alloc M.out _) (by unfold maxLen; omega) _ _ _ rfl rfl hkey.out _ [] (plainElem_int Try.underlying3 (WalkArith.wf_i64 (by omega))) ?_; intro w2 M2 g2; have M3 : Hid (w2.ownsMap Try.prog 9 (plainElem (H := Unit) Try.prog 3) w.heap.size (k + 1) (mapN (k + 1))) := hide (by show w2.ownsMap _ _ _ _ _ ((mapN k).put (keyN (nm k)) _); rw [hs.out]; exact M2); have B3 : Hid (Below w.heap.size w w2) := hide ((step B.out _).grown g2 (step B.out _).size (fun j hj => by cases hj; exact Nat.le_refl _)); clear M2 g2))
      exact ⟨⟨k + 1, hkt, by first | rfl | (rw [wk]; rfl), M3, B3⟩, by first | exact meas13 hkt | (rw [wk]; exact meas13 hkt)⟩
    · obtain rfl : k = 76 := by omega
      go_wp2_with fail
      go_ret
      exact ⟨rfl, M.out, B.out⟩
theorem find_at (s : ByteArray) (hs : s.size ≤ maxLen) (w : World) : Calls Try.prog 7 #[.string s] w fun e w' => (∃ c : Int, (mapN 76).atKey (keyN s) (.lit (.int .i64 0)) = .lit (.int .i64 c) ∧ e = .returned (.tuple #[.int .i64 c, .bool (has (mapN 76) (keyN s))])) ∧ Below w.heap.size w w' := by
  have HN := hide (numbers_any w)
  have hkey := hide (key_ok s hs)
  go_enter Try.func7, Try.ntmps7
  go_wp2_with (first
    | (go_at_call 11; refine HN.out.mono ?_; rintro e w1 ⟨rfl, M1, hb⟩; replace M1 := hide M1; replace hb := hide hb)
    | (at_lookup; refine wpList_lookup_own_ok_int _ rfl _ _ 34 rfl 9 3 .i64 lawS Try.underlying34 Try.underlying3 (zeroI _) w.heap.size 76 _ rfl M1.out _ _ rfl hkey.out ?_; intro c hat hwc))
  refine bodyPost_ret (v := .tuple #[.int .i64 c, .bool (has (mapN 76) (keyN s))]) (by simp [results, Try.results7, go_sem]; try rfl) rfl ?_
  exact ⟨⟨c, hat, rfl⟩, hb.out⟩
theorem find_yes (i : Nat) (hi : i < 76) (w : World) : Calls Try.prog 7 #[.string (nm i)] w fun e w' => e = .returned (.tuple #[.int .i64 ((i : Int) + 1), .bool true]) ∧ Below w.heap.size w w' := by
  refine (find_at (nm i) (Nat.le_trans (nm_small i hi) (by decide)) w).mono ?_
  rintro e w' ⟨⟨c, hat, rfl⟩, hb⟩
  refine ⟨?_, hb⟩
  rcases mapN_has (nm i) 76 (Nat.le_refl _) with ⟨j, hj, he, hh, ha⟩ | ⟨hn, _⟩
  · obtain rfl : j = i := nm_apart j hj i hi (by rw [he])
    rw [ha] at hat
    injection hat with hat
    injection hat with _ hat
    rw [hh, ← hat]
  · exact absurd rfl (hn i hi)
theorem find_no (s : ByteArray) (hs : s.size ≤ maxLen) (hn : ∀ i, i < 76 → nm i ≠ s) (w : World) : Calls Try.prog 7 #[.string s] w fun e w' => e = .returned (.tuple #[.int .i64 0, .bool false]) ∧ Below w.heap.size w w' := by
  refine (find_at s hs w).mono ?_
  rintro e w' ⟨⟨c, hat, rfl⟩, hb⟩
  refine ⟨?_, hb⟩
  rcases mapN_has s 76 (Nat.le_refl _) with ⟨j, hj, he, _⟩ | ⟨_, hh, ha⟩
  · exact absurd he (hn j hj)
  · rw [ha] at hat
    injection hat with hat
    injection hat with _ hat
    rw [hh, ← hat]
end Go.Proofs.Ytmoekapoajkaiaa
