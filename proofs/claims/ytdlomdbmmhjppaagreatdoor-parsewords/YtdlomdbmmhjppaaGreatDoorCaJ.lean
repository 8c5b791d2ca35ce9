/- list.numbers, list.Find and quadrilleref13.Find: what they answer of every name. parse.call (written by gen10c.py). Proved of the Go text. parse.call, its arguments read (written by gen10c.py). Proved of the Go text. parse.call, whole; parse.primary. Proved of the Go text. -/
import Derived.Test.YtdlomdbmmhjppaaGreatDoorLsJ
import Derived.Maps.OwnSet
import Derived.Test.YtdlomdbmmhjppaaGreatDoorBrJ
namespace Go.Proofs.YtdlomdbmmhjppaaGreatDoor.T9
open Go.RowKit Go.Sort Go.Maps Go.WideMaps
set_option linter.unusedVariables false

theorem lawS : Keyed Tryz.prog 9 := string_keyed Tryz.underlying9
theorem zeroI (w : World) : (zeroValue 3).run Tryz.prog w = .ok (.int .i64 0) w := by kernel_rfl
/-- The name of the function k + 1. -/
def nm (k : Nat) : ByteArray := (tab.getD k (no, 0, 0)).1
theorem nm_eq (k : Nat) (hk : k < 76) : (tab[k]'(by rw [tab_len]; exact hk)).1 = nm k := by
  unfold nm
  rw [List.getD_eq_getElem?_getD, List.getElem?_eq_getElem (by rw [tab_len]; exact hk)]
  rfl
theorem nm_small : ∀ k, k < 76 → (nm k).size ≤ 10 := by decide +kernel
theorem nm_apart : ∀ i, i < 76 → ∀ j, j < 76 → (nm i).data.toList = (nm j).data.toList → i = j := by decide +kernel
def keyN (s : ByteArray) : Lit := .string s.data.toList
theorem keyN_key (s : ByteArray) : WideAt.IsKeyLit (keyN s) := trivial
theorem keyN_inj {s t : ByteArray} (h : keyN s = keyN t) : s = t := by
  unfold keyN at h
  injection h with h
  cases s; cases t
  simp at h
  rw [h]
/-- The map behind k rounds. -/
def mapN : Nat → DataW Unit
  | 0 => .map []
  | k + 1 => (mapN k).put (keyN (nm k)) (.lit (.int .i64 ((k : Int) + 1)))
theorem mapN_map : ∀ k, IsMap (mapN k)
  | 0 => isMap_empty
  | k + 1 => (mapN_map k).put _ _
theorem mapN_has (s : ByteArray) : ∀ k, k ≤ 76 → ((∃ i, i < k ∧ nm i = s ∧ has (mapN k) (keyN s) = true ∧ (mapN k).atKey (keyN s) (.lit (.int .i64 0)) = .lit (.int .i64 ((i : Int) + 1))) ∨ ((∀ i, i < k → nm i ≠ s) ∧ has (mapN k) (keyN s) = false ∧ (mapN k).atKey (keyN s) (.lit (.int .i64 0)) = .lit (.int .i64 0)))
  | 0, _ => .inr ⟨fun i hi => absurd hi (Nat.not_lt_zero i), rfl, rfl⟩
  | k + 1, hk => by
    by_cases e : nm k = s
    · left
      refine ⟨k, Nat.lt_succ_self k, e, ?_, ?_⟩
      · show has ((mapN k).put (keyN (nm k)) _) _ = true
        rw [e]; exact has_put_same (mapN_map k) (keyN_key s) _
      · show ((mapN k).put (keyN (nm k)) _).atKey _ _ = _
        rw [e]; exact atKey_put_same (mapN_map k) (keyN_key s) _ _
    · have hne : keyN s ≠ keyN (nm k) := fun h => e (keyN_inj h).symm
      have h1 : has (mapN (k + 1)) (keyN s) = has (mapN k) (keyN s) := has_put_other hne _
      have h2 : ∀ z, (mapN (k + 1)).atKey (keyN s) z = (mapN k).atKey (keyN s) z := fun z => atKey_put_other hne _ z
      rw [h1, h2]
      rcases mapN_has s k (by omega) with ⟨i, hi, h⟩ | ⟨hn, h⟩
      · exact .inl ⟨i, by omega, h⟩
      · exact .inr ⟨fun i hi => by by_cases e' : i = k; (subst e'; exact e); exact hn i (by omega), h⟩
theorem meas13 {l k : Nat} (h : k < l) : l - (intOf (.int .i64 ((k : Int) + 1))).toNat < l - (intOf (.int .i64 (k : Int))).toNat := by
  show l - ((k : Int) + 1).toNat < l - (k : Int).toNat
  omega
theorem key_ok (s : ByteArray) (hs : s.size ≤ maxLen) : keyOf Tryz.prog 9 (.string s) = some (keyN s) := keyOf_string_mk Tryz.underlying9 hs
set_option maxRecDepth 100000 in
theorem make_hint (w : World) : (Instr.makeMap 234 (some (.int .i64 76))).run Tryz.prog w = .ok (.map (some w.heap.size)) (w.alloc (.map #[] 0)) := rfl
set_option maxHeartbeats 2000000 in
set_option maxRecDepth 100000 in
theorem numbers_any (w : World) : Calls Tryz.prog 223 #[] w fun e w' => e = .returned (.map (some w.heap.size)) ∧ w'.ownsMap Tryz.prog 9 (plainElem Tryz.prog 3) w.heap.size 76 (mapN 76) ∧ Below w.heap.size w w' := by
  have hmm := make_hint
  have HC := hide catalogue_any
  go_enter Tryz.func223, Tryz.ntmps223
  go_wp2_with (go_at_call 107; refine (HC.out _).mono ?_; rintro e w1 ⟨rfl, hb⟩; have b1 := hide (next (step (Below.refl w.heap.size w) (.map #[] 0)) hb); have M1 : Hid (w1.ownsMap Tryz.prog 9 (plainElem (H := Unit) Tryz.prog 3) w.heap.size 0 (mapN 0)) := hide ((World.ownsMap_made w _ _ _).kept (row := none) ⟨hb.os, hb.tape, hb.output, hb.size, fun k hk _ => hb.block k hk⟩ (by simp)); clear hb)
  clear hmm
  go_loopw [6] (fun i wr => ∃ k : Nat, k ≤ 76 ∧ i = .int .i64 k ∧ Hid (wr.ownsMap Tryz.prog 9 (plainElem (H := Unit) Tryz.prog 3) w.heap.size k (mapN k)) ∧ Hid (Below w.heap.size w wr)) (fun i _ => 76 - (intOf i).toNat)
  case atStart => exact ⟨0, Nat.zero_le _, rfl, M1, b1⟩
  case round =>
    clear M1 b1
    obtain ⟨k, hk, rfl, M, B⟩ := hrel
    by_cases hkt : k < 76
    · have p0 : (k : Int) < 76 := by omega
      have HI := index76 k hkt
      rw [nm_eq k hkt] at HI
      have hkey := hide (key_ok (nm k) (Nat.le_trans (nm_small k hkt) (by decide)))
      have wk := IntWalk.wrap64_in ((k : Int) + 1) ⟨by omega, by omega⟩
      generalize hs : nm k = s at HI hkey
      generalize (tab[k]'(by rw [tab_len]; exact hkt)).2.1 = mn at HI
      generalize (tab[k]'(by rw [tab_len]; exact hkt)).2.2 = mx at HI
      replace hs := hide hs
      go_wp2_with (first
        | (at_mapUpdate; refine wpList_mapUpdate_own _ rfl _ _ _ 234 rfl 9 3 lawS Tryz.underlying234 _ w.heap.size k _ rfl (World.ownsMap.alloc M.out _) (by unfold maxLen; omega) _ _ _ rfl rfl hkey.out _ [] (plainElem_int Tryz.underlying3 (WalkArith.wf_i64 (by omega))) ?_; intro w2 M2 g2; have M3 : Hid (w2.ownsMap Tryz.prog 9 (plainElem (H := Unit) Tryz.prog 3) w.heap.size (k + 1) (mapN (k + 1))) := hide (by show w2.ownsMap _ _ _ _ _ ((mapN k).put (keyN (nm k)) _); rw [hs.out]; exact M2); have B3 : Hid (Below w.heap.size w w2) := hide ((step B.out _).grown g2 (step B.out _).size (fun j hj => by cases hj; exact Nat.le_refl _)); clear M2 g2))
      exact ⟨⟨k + 1, hkt, by first | rfl | (rw [wk]; rfl), M3, B3⟩, by first | exact meas13 hkt | (rw [wk]; exact meas13 hkt)⟩
    · obtain rfl : k = 76 := by omega
      go_wp2_with fail
      go_ret
      exact ⟨rfl, M.out, B.out⟩
theorem find_at (s : ByteArray) (hs : s.size ≤ maxLen) (w : World) : Calls Tryz.prog 209 #[.string s] w fun e w' => (∃ c : Int, (mapN 76).atKey (keyN s) (.lit (.int .i64 0)) = .lit (.int .i64 c) ∧ e = .returned (.tuple #[.int .i64 c, .bool (has (mapN 76) (keyN s))])) ∧ Below w.heap.size w w' := by
  have HN := hide (numbers_any w)
  have hkey := hide (key_ok s hs)
  go_enter Tryz.func209, Tryz.ntmps209
  go_wp2_with (first
    | (go_at_call 223; refine HN.out.mono ?_; rintro e w1 ⟨rfl, M1, hb⟩; replace M1 := hide M1; replace hb := hide hb)
    | (at_lookup; refine wpList_lookup_own_ok_int _ rfl _ _ 234 rfl 9 3 .i64 lawS Tryz.underlying234 Tryz.underlying3 (zeroI _) w.heap.size 76 _ rfl M1.out _ _ rfl hkey.out ?_; intro c hat hwc))
  refine bodyPost_ret (v := .tuple #[.int .i64 c, .bool (has (mapN 76) (keyN s))]) (by simp [results, Tryz.results209, go_sem]; try rfl) rfl ?_
  exact ⟨⟨c, hat, rfl⟩, hb.out⟩
theorem find_yes (i : Nat) (hi : i < 76) (w : World) : Calls Tryz.prog 209 #[.string (nm i)] w fun e w' => e = .returned (.tuple #[.int .i64 ((i : Int) + 1), .bool true]) ∧ Below w.heap.size w w' := by
  refine (find_at (nm i) (Nat.le_trans (nm_small i hi) (by decide)) w).mono ?_
  rintro e w' ⟨⟨c, hat, rfl⟩, hb⟩
  refine ⟨?_, hb⟩
  rcases mapN_has (nm i) 76 (Nat.le_refl _) with ⟨j, hj, he, hh, ha⟩ | ⟨hn, _⟩
  · obtain rfl : j = i := nm_apart j hj i hi (by rw [he])
    rw [ha] at hat
    injection hat with hat
    injection hat with _ hat
    rw [hh, ← hat]
  · exact absurd rfl (hn i hi)
theorem find_no (s : ByteArray) (hs : s.size ≤ maxLen) (hn : ∀ i, i < 76 → nm i ≠ s) (w : World) : Calls Tryz.prog 209 #[.string s] w fun e w' => e = .returned (.tuple #[.int .i64 0, .bool false]) ∧ Below w.heap.size w w' := by
  refine (find_at s hs w).mono ?_
  rintro e w' ⟨⟨c, hat, rfl⟩, hb⟩
  refine ⟨?_, hb⟩
  rcases mapN_has s 76 (Nat.le_refl _) with ⟨j, hj, he, _⟩ | ⟨_, hh, ha⟩
  · exact absurd he (hn j hj)
  · rw [ha] at hat
    injection hat with hat
    injection hat with _ hat
    rw [hh, ← hat]
end Go.Proofs.YtdlomdbmmhjppaaGreatDoor.T9
namespace Go.Proofs.YtdlomdbmmhjppaaGreatDoor.T9
open Go.RowKit Go.Sort
set_option linter.unusedVariables false

/-- What the table of functions tells. -/
def FdOk (Fd : List UInt8 → Option (Int × Int × Int)) : Prop := ∀ s, (ba s).size ≤ maxLen → match Fd s with
  | none => ∀ w, Calls Tryz.prog 209 #[.string (ba s)] w fun e w' => e = .returned (.tuple #[.int .i64 0, .bool false]) ∧ Below w.heap.size w w'
  | some (f, mn, mx) => (∀ w, Calls Tryz.prog 209 #[.string (ba s)] w fun e w' => e = .returned (.tuple #[.int .i64 f, .bool true]) ∧ Below w.heap.size w w') ∧ ∀ (cnt : Nat) w, Calls Tryz.prog 213 #[.int .i64 f, .int .i64 (cnt : Int)] w fun e w' => e = .returned (.bool (decide (mn ≤ (cnt : Int) ∧ ((cnt : Int) ≤ mx ∨ mx < 0)))) ∧ Below w.heap.size w w'
/-- What a call comes to, its name at i. -/
def calR (Fd : List UInt8 → Option (Int × Int × Int)) (l : List Wd) (i o : Nat) (r : PL) : PR := match Fd (wdAt l i).text with
  | none => .bad 3 (plAt l i)
  | some (g, mn, mx) =>
    if sgAt l (i + 1) = [40] then
      if 256 < o + 1 then .bad 2 (plAt l (i + 1)) else
      match r with
      | .bad e a => .bad e a
      | .ok ts j => if sgAt l j = [41] then (if mn ≤ (ts.length : Int) ∧ ((ts.length : Int) ≤ mx ∨ mx < 0) then .ok (callX g ts) (j + 1) else .bad 1 (plAt l i)) else .bad 20 (plAt l j)
    else .bad 20 (plAt l (i + 1))
abbrev ndC (f : Int) : Nd := ⟨9, 0, 0, no10, rf0, rf0, f⟩
variable {B g c mB : Nat} {l : List Wd} {i o : Nat} {Fd : List UInt8 → Option (Int × Int × Int)}
set_option maxHeartbeats 2000000 in
set_option maxRecDepth 100000 in
theorem call_none (hi : i < l.length) (hs : (ba (wdAt l i).text).size ≤ maxLen) (HF0 : ∀ w, Calls Tryz.prog 209 #[.string (ba (wdAt l i).text)] w fun e w' => e = .returned (.tuple #[.int .i64 0, .bool false]) ∧ Below w.heap.size w w') : CallP 187 B g c mB l i o [] (.bad 3 (plAt l i)) := by
  intro w hR hM
  have hB := hide hR.lt
  have hgl := hide (hR.glt hi)
  have st := step (Below.refl w.heap.size w) z14O
  have hRa := hide (hR.keep st)
  have hMa := hide (hM.keep hR (grown_of st _))
  have HT := hide (take_any hRa.out hi)
  replace st := hide st
  have HF := hide HF0
  unfold plAt
  generalize wdAt l i = x at *
  obtain ⟨xk, xt, xa⟩ := x
  simp only at *
  clear hR hM
  go_enter Tryz.func187, Tryz.ntmps187
  go_wp2_with (first
    | (go_at_call 106; (refine HT.out.mono ?_; rintro e w1 ⟨rfl, hon⟩; have O1 := hide (hon.keep (step (Below.refl _ w1) (wdO9 (xk : Int) (ba xt) (xa : Int)))); have W1 := hide (Blk.new w1 #[.int .i64 (xk : Int), .string (ba xt), .int .i64 (xa : Int)] 44); have hX1 := hide (show w.heap.size + 1 ≤ w1.heap.size from by have h9 := hon.gr.size; have e9 : (w.alloc z14O).heap.size = w.heap.size + 1 := (by simp); omega); have hBX : Hid (B ≠ w1.heap.size) := hide (by have := hB.out; have := hX1.out; omega); replace hon := hide hon))
    | (go_at_call 209; (refine (HF.out _).mono ?_; rintro e w2 ⟨rfl, hb2⟩; have O2 := hide (O1.out.keep hb2); have W2 := hide (W1.out.keep hb2); have x2 : w2.cell? ⟨w1.heap.size, 2, none⟩ = some (.int .i64 (xa : Int)) := W2.out.at' 2; have M2 := hide (hMa.out.keep hRa.out O2.out.gr); replace hb2 := hide hb2)))
  exact ⟨rfl, rfl, grown_trans (grown_of st.out _) O2.out.gr⟩
set_option maxHeartbeats 2000000 in
set_option maxRecDepth 100000 in
theorem call_no (hi : i < l.length) (hs : (ba (wdAt l i).text).size ≤ maxLen) {f : Int} (hi1 : i + 1 < l.length) (HF0 : ∀ w, Calls Tryz.prog 209 #[.string (ba (wdAt l i).text)] w fun e w' => e = .returned (.tuple #[.int .i64 f, .bool true]) ∧ Below w.heap.size w w') (hc : ¬ sgAt l (i + 1) = [40]) : CallP 187 B g c mB l i o [] (.bad 20 (plAt l (i + 1))) := by
  intro w hR hM
  have hB := hide hR.lt
  have hgl := hide (hR.glt hi)
  have st := step (Below.refl w.heap.size w) z14O
  have hRa := hide (hR.keep st)
  have hMa := hide (hM.keep hR (grown_of st _))
  have HT := hide (take_any hRa.out hi)
  replace st := hide st
  have HF := hide HF0
  replace hi1 := hide hi1
  have HE := hide (fun w' (h' : Rdr w' B g c mB l (i + 1) o) => enter_no h' hi1.out hc)
  obtain ⟨PP, hPP⟩ : ∃ PP, plAt l (i + 1) = PP := ⟨_, rfl⟩
  rw [hPP] at HE ⊢
  generalize wdAt l i = x at *
  obtain ⟨xk, xt, xa⟩ := x
  simp only at *
  clear hR hM
  go_enter Tryz.func187, Tryz.ntmps187
  go_wp2_with (first
    | (go_at_call 106; (refine HT.out.mono ?_; rintro e w1 ⟨rfl, hon⟩; have O1 := hide (hon.keep (step (Below.refl _ w1) (wdO9 (xk : Int) (ba xt) (xa : Int)))); have W1 := hide (Blk.new w1 #[.int .i64 (xk : Int), .string (ba xt), .int .i64 (xa : Int)] 44); have hX1 := hide (show w.heap.size + 1 ≤ w1.heap.size from by have h9 := hon.gr.size; have e9 : (w.alloc z14O).heap.size = w.heap.size + 1 := (by simp); omega); have hBX : Hid (B ≠ w1.heap.size) := hide (by have := hB.out; have := hX1.out; omega); replace hon := hide hon))
    | (go_at_call 209; (refine (HF.out _).mono ?_; rintro e w2 ⟨rfl, hb2⟩; have O2 := hide (O1.out.keep hb2); have W2 := hide (W1.out.keep hb2); have x2 : w2.cell? ⟨w1.heap.size, 2, none⟩ = some (.int .i64 (xa : Int)) := W2.out.at' 2; have M2 := hide (hMa.out.keep hRa.out O2.out.gr); replace hb2 := hide hb2; have H3 := hide (HE.out w2 O2.out.rd)))
    | (go_at_call 210; (refine H3.out.mono ?_; rintro e w3 ⟨rfl, hg3⟩; replace hg3 := hide hg3)))
  exact ⟨rfl, rfl, grown_trans (grown_of st.out _) (grown_trans O2.out.gr hg3.out)⟩
set_option maxHeartbeats 2000000 in
set_option maxRecDepth 100000 in
theorem call_long (hi : i < l.length) (hs : (ba (wdAt l i).text).size ≤ maxLen) {f : Int} (hi1 : i + 1 < l.length) (HF0 : ∀ w, Calls Tryz.prog 209 #[.string (ba (wdAt l i).text)] w fun e w' => e = .returned (.tuple #[.int .i64 f, .bool true]) ∧ Below w.heap.size w w') (hc : sgAt l (i + 1) = [40]) (ho : 256 < o + 1) (ho2 : o ≤ 256) : CallP 187 B g c mB l i o [] (.bad 2 (plAt l (i + 1))) := by
  intro w hR hM
  have hB := hide hR.lt
  have hgl := hide (hR.glt hi)
  have st := step (Below.refl w.heap.size w) z14O
  have hRa := hide (hR.keep st)
  have hMa := hide (hM.keep hR (grown_of st _))
  have HT := hide (take_any hRa.out hi)
  replace st := hide st
  have HF := hide HF0
  replace hi1 := hide hi1
  have HE := hide (fun w' (h' : Rdr w' B g c mB l (i + 1) o) => enter_long h' hi1.out hc ho ho2)
  obtain ⟨PP, hPP⟩ : ∃ PP, plAt l (i + 1) = PP := ⟨_, rfl⟩
  rw [hPP] at HE ⊢
  generalize wdAt l i = x at *
  obtain ⟨xk, xt, xa⟩ := x
  simp only at *
  clear hR hM
  go_enter Tryz.func187, Tryz.ntmps187
  go_wp2_with (first
    | (go_at_call 106; (refine HT.out.mono ?_; rintro e w1 ⟨rfl, hon⟩; have O1 := hide (hon.keep (step (Below.refl _ w1) (wdO9 (xk : Int) (ba xt) (xa : Int)))); have W1 := hide (Blk.new w1 #[.int .i64 (xk : Int), .string (ba xt), .int .i64 (xa : Int)] 44); have hX1 := hide (show w.heap.size + 1 ≤ w1.heap.size from by have h9 := hon.gr.size; have e9 : (w.alloc z14O).heap.size = w.heap.size + 1 := (by simp); omega); have hBX : Hid (B ≠ w1.heap.size) := hide (by have := hB.out; have := hX1.out; omega); replace hon := hide hon))
    | (go_at_call 209; (refine (HF.out _).mono ?_; rintro e w2 ⟨rfl, hb2⟩; have O2 := hide (O1.out.keep hb2); have W2 := hide (W1.out.keep hb2); have x2 : w2.cell? ⟨w1.heap.size, 2, none⟩ = some (.int .i64 (xa : Int)) := W2.out.at' 2; have M2 := hide (hMa.out.keep hRa.out O2.out.gr); replace hb2 := hide hb2; have H3 := hide (HE.out w2 O2.out.rd)))
    | (go_at_call 210; (refine H3.out.mono ?_; rintro e w3 ⟨rfl, hg3⟩; replace hg3 := hide hg3)))
  exact ⟨rfl, rfl, grown_trans (grown_of st.out _) (grown_trans O2.out.gr hg3.out)⟩
set_option maxHeartbeats 2000000 in
set_option maxRecDepth 100000 in
theorem call_args (hi : i < l.length) (hs : (ba (wdAt l i).text).size ≤ maxLen) {f : Int} {er at' : Nat} (hi1 : i + 1 < l.length) (HF0 : ∀ w, Calls Tryz.prog 209 #[.string (ba (wdAt l i).text)] w fun e w' => e = .returned (.tuple #[.int .i64 f, .bool true]) ∧ Below w.heap.size w w') (hc : sgAt l (i + 1) = [40]) (ho : o + 1 ≤ 256) (hi2 : i + 2 < l.length) (HA0 : CallA 211 B g c mB l (i + 2) (o + 1) (.bad er at')) : CallP 187 B g c mB l i o [] (.bad er at') := by
  intro w hR hM
  have hB := hide hR.lt
  have hgl := hide (hR.glt hi)
  have st := step (Below.refl w.heap.size w) z14O
  have hRa := hide (hR.keep st)
  have hMa := hide (hM.keep hR (grown_of st _))
  have HT := hide (take_any hRa.out hi)
  replace st := hide st
  have HF := hide HF0
  replace hi1 := hide hi1
  have HE := hide (fun w' (h' : Rdr w' B g c mB l (i + 1) o) => enter_yes h' hi1.out hc ho)
  have HA := hide HA0
  generalize wdAt l i = x at *
  obtain ⟨xk, xt, xa⟩ := x
  simp only at *
  clear hR hM
  go_enter Tryz.func187, Tryz.ntmps187
  go_wp2_with (first
    | (go_at_call 106; (refine HT.out.mono ?_; rintro e w1 ⟨rfl, hon⟩; have O1 := hide (hon.keep (step (Below.refl _ w1) (wdO9 (xk : Int) (ba xt) (xa : Int)))); have W1 := hide (Blk.new w1 #[.int .i64 (xk : Int), .string (ba xt), .int .i64 (xa : Int)] 44); have hX1 := hide (show w.heap.size + 1 ≤ w1.heap.size from by have h9 := hon.gr.size; have e9 : (w.alloc z14O).heap.size = w.heap.size + 1 := (by simp); omega); have hBX : Hid (B ≠ w1.heap.size) := hide (by have := hB.out; have := hX1.out; omega); replace hon := hide hon))
    | (go_at_call 209; (refine (HF.out _).mono ?_; rintro e w2 ⟨rfl, hb2⟩; have O2 := hide (O1.out.keep hb2); have W2 := hide (W1.out.keep hb2); have x2 : w2.cell? ⟨w1.heap.size, 2, none⟩ = some (.int .i64 (xa : Int)) := W2.out.at' 2; have M2 := hide (hMa.out.keep hRa.out O2.out.gr); replace hb2 := hide hb2; have H3 := hide (HE.out w2 O2.out.rd)))
    | (go_at_call 210; (refine H3.out.mono ?_; rintro e w3 ⟨rfl, hon3⟩; have O3 := hide (O2.out.trans hon3); have W3 := hide (blk_on W2.out hBX.out hon3.gr); have H4 := hide (HA.out w3 O3.out.rd (M2.out.keep O2.out.rd hon3.gr)); replace hon3 := hide hon3))
    | (go_at_call 211; (refine H4.out.mono ?_; rintro e w4 ⟨rfl, hg4⟩; replace hg4 := hide hg4)))
  exact ⟨rfl, rfl, grown_trans (grown_of st.out _) (grown_trans O3.out.gr hg4.out)⟩
set_option maxHeartbeats 2000000 in
set_option maxRecDepth 100000 in
theorem call_open (hi : i < l.length) (hs : (ba (wdAt l i).text).size ≤ maxLen) {f : Int} (hi1 : i + 1 < l.length) (HF0 : ∀ w, Calls Tryz.prog 209 #[.string (ba (wdAt l i).text)] w fun e w' => e = .returned (.tuple #[.int .i64 f, .bool true]) ∧ Below w.heap.size w w') (hc : sgAt l (i + 1) = [40]) (ho : o + 1 ≤ 256) (hi2 : i + 2 < l.length) {ts : List Ex} {j : Nat} (HA0 : CallA 211 B g c mB l (i + 2) (o + 1) (.ok ts j)) (hv : ¬ sgAt l j = [41]) : CallP 187 B g c mB l i o [] (.bad 20 (plAt l j)) := by
  intro w hR hM
  have hB := hide hR.lt
  have hgl := hide (hR.glt hi)
  have st := step (Below.refl w.heap.size w) z14O
  have hRa := hide (hR.keep st)
  have hMa := hide (hM.keep hR (grown_of st _))
  have HT := hide (take_any hRa.out hi)
  replace st := hide st
  have HF := hide HF0
  replace hi1 := hide hi1
  have HE := hide (fun w' (h' : Rdr w' B g c mB l (i + 1) o) => enter_yes h' hi1.out hc ho)
  have HA := hide HA0
  have HV := hide (fun w' (h' : Rdr w' B g c mB l j (o + 1)) (hj : j < l.length) => leave_no h' hj hv)
  obtain ⟨PP, hPP⟩ : ∃ PP, plAt l j = PP := ⟨_, rfl⟩
  rw [hPP] at HV ⊢
  generalize wdAt l i = x at *
  obtain ⟨xk, xt, xa⟩ := x
  simp only at *
  clear hR hM
  go_enter Tryz.func187, Tryz.ntmps187
  go_wp2_with (first
    | (go_at_call 106; (refine HT.out.mono ?_; rintro e w1 ⟨rfl, hon⟩; have O1 := hide (hon.keep (step (Below.refl _ w1) (wdO9 (xk : Int) (ba xt) (xa : Int)))); have W1 := hide (Blk.new w1 #[.int .i64 (xk : Int), .string (ba xt), .int .i64 (xa : Int)] 44); have hX1 := hide (show w.heap.size + 1 ≤ w1.heap.size from by have h9 := hon.gr.size; have e9 : (w.alloc z14O).heap.size = w.heap.size + 1 := (by simp); omega); have hBX : Hid (B ≠ w1.heap.size) := hide (by have := hB.out; have := hX1.out; omega); replace hon := hide hon))
    | (go_at_call 209; (refine (HF.out _).mono ?_; rintro e w2 ⟨rfl, hb2⟩; have O2 := hide (O1.out.keep hb2); have W2 := hide (W1.out.keep hb2); have x2 : w2.cell? ⟨w1.heap.size, 2, none⟩ = some (.int .i64 (xa : Int)) := W2.out.at' 2; have M2 := hide (hMa.out.keep hRa.out O2.out.gr); replace hb2 := hide hb2; have H3 := hide (HE.out w2 O2.out.rd)))
    | (go_at_call 210; (refine H3.out.mono ?_; rintro e w3 ⟨rfl, hon3⟩; have O3 := hide (O2.out.trans hon3); have W3 := hide (blk_on W2.out hBX.out hon3.gr); have H4 := hide (HA.out w3 O3.out.rd (M2.out.keep O2.out.rd hon3.gr)); replace hon3 := hide hon3))
    | (go_at_call 211; (refine H4.out.mono ?_; rintro e w4 ⟨v, css, bs, rfl, ha4, hj4, hl4, hn4⟩; obtain ⟨va, vl, vc, rfl⟩ := owns_shape9 ha4.row; have O4 := hide (O3.out.trans ⟨ha4.rd, ha4.gr⟩); have A4 := hide ha4; have H5 := hide (HV.out w4 O4.out.rd hl4); have hJ4 := hide (show i + 2 ≤ j ∧ j < l.length from ⟨hj4, hl4⟩); clear ha4 hj4 hl4))
    | (go_at_call 212; (refine H5.out.mono ?_; rintro e w5 ⟨rfl, hg5⟩; replace hg5 := hide hg5)))
  exact ⟨rfl, rfl, grown_trans (grown_of st.out _) (grown_trans O4.out.gr hg5.out)⟩
end Go.Proofs.YtdlomdbmmhjppaaGreatDoor.T9
namespace Go.Proofs.YtdlomdbmmhjppaaGreatDoor.T9
open Go.RowKit Go.Sort
set_option linter.unusedVariables false

variable {B g c mB : Nat} {l : List Wd} {i o : Nat}
theorem ArSt.len {w wr : World} {j : Nat} {va : Option Addr} {vl vc : Nat} {css : List (Array Value)} {ts : List Ex} {bs : List Nat} (h : ArSt w wr B g c mB l j o (.slice va vl vc) css ts bs) : vl = ts.length := by
  have hl := h.kids.len.1
  rcases h.row.2 with ⟨e, h0⟩ | ⟨g', cap, cur, e, -⟩
  · injection e with e1 e2 e3
    omega
  · injection e with e1 e2 e3
    omega
theorem Got.call {w w0 wr : World} {j lo : Nat} {va : Option Addr} {vl vc : Nat} {css : List (Array Value)} {ts : List Ex} {bs : List Nat} {f : Int} (h : ArSt w0 wr B g c mB l j o (.slice va vl vc) css ts bs) (hg : w.grownBy wr (some B)) (hlo : lo ≤ w0.heap.size) (hn : ts.length ≤ j) (hj : j < l.length) : Got w wr B g c mB l j o lo (exV (ndC f) (.slice va vl vc)) (callX f ts) ((Value.slice va vl vc).ownBlock.toList ++ bs) := by
  obtain ⟨a, len, cap, e, ho⟩ := tree_row (nd := ndC f) h.row h.kids
  have hown := owns_lt h.row
  refine ⟨hg, h.rd, ho, ?_, fun x hx => ?_, ?_⟩
  · refine List.nodup_append.2 ⟨?_, h.nd, fun a ha b hb e => ?_⟩
    · cases (Value.slice va vl vc).ownBlock <;> simp
    · have h1 : (Value.slice va vl vc).ownBlock = some a := by simpa using ha
      exact (h.new b hb).2.2 (e ▸ h1)
  · rcases List.mem_append.1 hx with hx | hx
    · have h1 : (Value.slice va vl vc).ownBlock = some x := by simpa using hx
      exact ⟨Nat.le_trans hlo (hown x h1).1, (hown x h1).2⟩
    · exact ⟨Nat.le_trans hlo (h.new x hx).1, (h.new x hx).2.1⟩
  · unfold callX SmE
    exact ⟨Nat.zero_le _, by have := h.rd.len; omega, SmL_of h.sm⟩
set_option maxHeartbeats 2000000 in
set_option maxRecDepth 100000 in
theorem call_few (hi : i < l.length) (hs : (ba (wdAt l i).text).size ≤ maxLen) {f mn mx : Int} (hi1 : i + 1 < l.length) (HF0 : ∀ w, Calls Tryz.prog 209 #[.string (ba (wdAt l i).text)] w fun e w' => e = .returned (.tuple #[.int .i64 f, .bool true]) ∧ Below w.heap.size w w') (hc : sgAt l (i + 1) = [40]) (ho : o + 1 ≤ 256) (hi2 : i + 2 < l.length) (HK0 : ∀ (cnt : Nat) w, Calls Tryz.prog 213 #[.int .i64 f, .int .i64 (cnt : Int)] w fun e w' => e = .returned (.bool (decide (mn ≤ (cnt : Int) ∧ ((cnt : Int) ≤ mx ∨ mx < 0)))) ∧ Below w.heap.size w w') {ts : List Ex} {j : Nat} (HA0 : CallA 211 B g c mB l (i + 2) (o + 1) (.ok ts j)) (hv : sgAt l j = [41]) (ht : ¬ (mn ≤ (ts.length : Int) ∧ ((ts.length : Int) ≤ mx ∨ mx < 0))) : CallP 187 B g c mB l i o [] (.bad 1 (plAt l i)) := by
  intro w hR hM
  have hB := hide hR.lt
  have hgl := hide (hR.glt hi)
  have st := step (Below.refl w.heap.size w) z14O
  have hRa := hide (hR.keep st)
  have hMa := hide (hM.keep hR (grown_of st _))
  have HT := hide (take_any hRa.out hi)
  replace st := hide st
  have HF := hide HF0
  replace hi1 := hide hi1
  have HE := hide (fun w' (h' : Rdr w' B g c mB l (i + 1) o) => enter_yes h' hi1.out hc ho)
  have HA := hide HA0
  have HV := hide (fun w' (h' : Rdr w' B g c mB l j (o + 1)) (hj : j < l.length) => leave_yes h' hj hv (by omega))
  have HK := hide HK0
  have htf := decide_eq_false ht
  unfold plAt
  generalize wdAt l i = x at *
  obtain ⟨xk, xt, xa⟩ := x
  simp only at *
  clear hR hM
  go_enter Tryz.func187, Tryz.ntmps187
  go_wp2_with (first
    | (go_at_call 106; (refine HT.out.mono ?_; rintro e w1 ⟨rfl, hon⟩; have O1 := hide (hon.keep (step (Below.refl _ w1) (wdO9 (xk : Int) (ba xt) (xa : Int)))); have W1 := hide (Blk.new w1 #[.int .i64 (xk : Int), .string (ba xt), .int .i64 (xa : Int)] 44); have hX1 := hide (show w.heap.size + 1 ≤ w1.heap.size from by have h9 := hon.gr.size; have e9 : (w.alloc z14O).heap.size = w.heap.size + 1 := (by simp); omega); have hBX : Hid (B ≠ w1.heap.size) := hide (by have := hB.out; have := hX1.out; omega); replace hon := hide hon))
    | (go_at_call 209; (refine (HF.out _).mono ?_; rintro e w2 ⟨rfl, hb2⟩; have O2 := hide (O1.out.keep hb2); have W2 := hide (W1.out.keep hb2); have x2 : w2.cell? ⟨w1.heap.size, 2, none⟩ = some (.int .i64 (xa : Int)) := W2.out.at' 2; have M2 := hide (hMa.out.keep hRa.out O2.out.gr); replace hb2 := hide hb2; have H3 := hide (HE.out w2 O2.out.rd)))
    | (go_at_call 210; (refine H3.out.mono ?_; rintro e w3 ⟨rfl, hon3⟩; have O3 := hide (O2.out.trans hon3); have W3 := hide (blk_on W2.out hBX.out hon3.gr); have H4 := hide (HA.out w3 O3.out.rd (M2.out.keep O2.out.rd hon3.gr)); replace hon3 := hide hon3))
    | (go_at_call 211; (refine H4.out.mono ?_; rintro e w4 ⟨v, css, bs, rfl, ha4, hj4, hl4, hn4⟩; obtain ⟨va, vl, vc, rfl⟩ := owns_shape9 ha4.row; have O4 := hide (O3.out.trans ⟨ha4.rd, ha4.gr⟩); have A4 := hide ha4; obtain rfl := ha4.len; have G4 := hide (Got.call (w := w.alloc z14O) (lo := w.heap.size + 1) (f := f) ha4 O4.out.gr (by have h9 := O3.out.gr.size; have e9 : (w.alloc z14O).heap.size = w.heap.size + 1 := (by simp); omega) hn4 hl4); have W4 := hide (blk_on W3.out hBX.out ha4.gr); have H5 := hide (HV.out w4 O4.out.rd hl4); have hJ4 := hide (show i + 2 ≤ j ∧ j < l.length from ⟨hj4, hl4⟩); clear ha4 hj4 hl4))
    | (go_at_call 212; (refine H5.out.mono ?_; rintro e w5 ⟨rfl, hon5⟩; have G5 := hide (G4.out.on (by have := hB.out; omega) hon5); have O5 := hide (O4.out.trans hon5); have W5 := hide (blk_on W4.out hBX.out hon5.gr); replace hon5 := hide hon5))
    | (go_at_call 213; (refine (HK.out _ _).mono ?_; rintro e w6 ⟨rfl, hb6⟩; have G6 := hide (G5.out.keep hb6); have O6 := hide (O5.out.keep hb6); have W6 := hide (W5.out.keep hb6); have y2 : w6.cell? ⟨w1.heap.size, 2, none⟩ = some (.int .i64 (xa : Int)) := W6.out.at' 2; have F6 := hide (fun cs => G6.out.fin (cs := cs) hB.out hgl.out); have X6 := hide (F6.out z14).1; replace hb6 := hide hb6)))
  exact ⟨rfl, rfl, grown_trans (grown_of st.out _) O6.out.gr⟩
set_option maxHeartbeats 2000000 in
set_option maxRecDepth 100000 in
theorem call_ok (hi : i < l.length) (hs : (ba (wdAt l i).text).size ≤ maxLen) {f mn mx : Int} (hi1 : i + 1 < l.length) (HF0 : ∀ w, Calls Tryz.prog 209 #[.string (ba (wdAt l i).text)] w fun e w' => e = .returned (.tuple #[.int .i64 f, .bool true]) ∧ Below w.heap.size w w') (hc : sgAt l (i + 1) = [40]) (ho : o + 1 ≤ 256) (hi2 : i + 2 < l.length) (HK0 : ∀ (cnt : Nat) w, Calls Tryz.prog 213 #[.int .i64 f, .int .i64 (cnt : Int)] w fun e w' => e = .returned (.bool (decide (mn ≤ (cnt : Int) ∧ ((cnt : Int) ≤ mx ∨ mx < 0)))) ∧ Below w.heap.size w w') {ts : List Ex} {j : Nat} (HA0 : CallA 211 B g c mB l (i + 2) (o + 1) (.ok ts j)) (hE : EndW l) (hv : sgAt l j = [41]) (ht : mn ≤ (ts.length : Int) ∧ ((ts.length : Int) ≤ mx ∨ mx < 0)) : CallP 187 B g c mB l i o [] (.ok (callX f ts) (j + 1)) := by
  intro w hR hM
  have hB := hide hR.lt
  have hgl := hide (hR.glt hi)
  have st := step (Below.refl w.heap.size w) z14O
  have hRa := hide (hR.keep st)
  have hMa := hide (hM.keep hR (grown_of st _))
  have HT := hide (take_any hRa.out hi)
  replace st := hide st
  have HF := hide HF0
  replace hi1 := hide hi1
  have HE := hide (fun w' (h' : Rdr w' B g c mB l (i + 1) o) => enter_yes h' hi1.out hc ho)
  have HA := hide HA0
  have HV := hide (fun w' (h' : Rdr w' B g c mB l j (o + 1)) (hj : j < l.length) => leave_yes h' hj hv (by omega))
  have HK := hide HK0
  have htf := decide_eq_true ht
  have hj1 := hide (fun (hj : j < l.length) => hE.sg hj hv (by decide))
  generalize wdAt l i = x at *
  obtain ⟨xk, xt, xa⟩ := x
  simp only at *
  clear hR hM
  go_enter Tryz.func187, Tryz.ntmps187
  go_wp2_with (first
    | (go_at_call 106; (refine HT.out.mono ?_; rintro e w1 ⟨rfl, hon⟩; have O1 := hide (hon.keep (step (Below.refl _ w1) (wdO9 (xk : Int) (ba xt) (xa : Int)))); have W1 := hide (Blk.new w1 #[.int .i64 (xk : Int), .string (ba xt), .int .i64 (xa : Int)] 44); have hX1 := hide (show w.heap.size + 1 ≤ w1.heap.size from by have h9 := hon.gr.size; have e9 : (w.alloc z14O).heap.size = w.heap.size + 1 := (by simp); omega); have hBX : Hid (B ≠ w1.heap.size) := hide (by have := hB.out; have := hX1.out; omega); replace hon := hide hon))
    | (go_at_call 209; (refine (HF.out _).mono ?_; rintro e w2 ⟨rfl, hb2⟩; have O2 := hide (O1.out.keep hb2); have W2 := hide (W1.out.keep hb2); have x2 : w2.cell? ⟨w1.heap.size, 2, none⟩ = some (.int .i64 (xa : Int)) := W2.out.at' 2; have M2 := hide (hMa.out.keep hRa.out O2.out.gr); replace hb2 := hide hb2; have H3 := hide (HE.out w2 O2.out.rd)))
    | (go_at_call 210; (refine H3.out.mono ?_; rintro e w3 ⟨rfl, hon3⟩; have O3 := hide (O2.out.trans hon3); have W3 := hide (blk_on W2.out hBX.out hon3.gr); have H4 := hide (HA.out w3 O3.out.rd (M2.out.keep O2.out.rd hon3.gr)); replace hon3 := hide hon3))
    | (go_at_call 211; (refine H4.out.mono ?_; rintro e w4 ⟨v, css, bs, rfl, ha4, hj4, hl4, hn4⟩; obtain ⟨va, vl, vc, rfl⟩ := owns_shape9 ha4.row; have O4 := hide (O3.out.trans ⟨ha4.rd, ha4.gr⟩); have A4 := hide ha4; obtain rfl := ha4.len; have G4 := hide (Got.call (w := w.alloc z14O) (lo := w.heap.size + 1) (f := f) ha4 O4.out.gr (by have h9 := O3.out.gr.size; have e9 : (w.alloc z14O).heap.size = w.heap.size + 1 := (by simp); omega) hn4 hl4); have W4 := hide (blk_on W3.out hBX.out ha4.gr); have H5 := hide (HV.out w4 O4.out.rd hl4); have hJ4 := hide (show i + 2 ≤ j ∧ j < l.length from ⟨hj4, hl4⟩); clear ha4 hj4 hl4))
    | (go_at_call 212; (refine H5.out.mono ?_; rintro e w5 ⟨rfl, hon5⟩; have G5 := hide (G4.out.on (by have := hB.out; omega) hon5); have O5 := hide (O4.out.trans hon5); have W5 := hide (blk_on W4.out hBX.out hon5.gr); replace hon5 := hide hon5))
    | (go_at_call 213; (refine (HK.out _ _).mono ?_; rintro e w6 ⟨rfl, hb6⟩; have G6 := hide (G5.out.keep hb6); have O6 := hide (O5.out.keep hb6); have W6 := hide (W5.out.keep hb6); have y2 : w6.cell? ⟨w1.heap.size, 2, none⟩ = some (.int .i64 (xa : Int)) := W6.out.at' 2; have F6 := hide (fun cs => G6.out.fin (cs := cs) hB.out hgl.out); have X6 := hide (F6.out z14).1; replace hb6 := hide hb6))
    | (refine wpList_store_row rfl 30 _ _ rfl _ (exC (ndC f) (.slice va ts.length vc)) rfl rfl 30 _ (by with_reducible exact X6.out) (exC_info _ _) (by rfl) (exC_one _ _ _ _) ?_))
  refine bodyPost_ret (v := exV (ndC f) (.slice va ts.length vc)) (results_cell_row Tryz.results187 _ _ w.heap.size 30 (exC (ndC f) (.slice va ts.length vc)) (0, 0) _ rfl (F6.out _).2.2.2 Tryz.underlying30 rfl (exC_info _ _)) rfl ?_
  exact ⟨va, ts.length, vc, _, rfl, (F6.out _).2.1, (F6.out _).2.2.1, by have := hJ4.out; omega, hj1.out hJ4.out.2, G6.out.sm⟩
end Go.Proofs.YtdlomdbmmhjppaaGreatDoor.T9
namespace Go.Proofs.YtdlomdbmmhjppaaGreatDoor.T9
open Go.RowKit Go.Sort
set_option linter.unusedVariables false

variable {B g c mB : Nat} {l : List Wd} {i o : Nat} {Fd : List UInt8 → Option (Int × Int × Int)}
theorem call_is (hE : EndW l) (hi : i < l.length) (hk : (wdAt l i).kind = 4) (hs : (ba (wdAt l i).text).size ≤ maxLen) (ho : o ≤ 256) (hFd : FdOk Fd) {r : PL} (HA : i + 2 < l.length → o + 1 ≤ 256 → CallA 211 B g c mB l (i + 2) (o + 1) r) : CallP 187 B g c mB l i o [] (calR Fd l i o r) := by
  have hi1 := hE.adv hi (by rw [hk]; decide)
  have hF := hFd _ hs
  unfold calR
  cases hf : Fd (wdAt l i).text with
  | none =>
    rw [hf] at hF
    exact call_none hi hs hF
  | some q =>
    obtain ⟨f, mn, mx⟩ := q
    rw [hf] at hF
    obtain ⟨hF1, hF2⟩ := hF
    dsimp only
    by_cases hc : sgAt l (i + 1) = [40]
    · rw [if_pos hc]
      by_cases hl : 256 < o + 1
      · rw [if_pos hl]
        exact call_long hi hs hi1 hF1 hc hl ho
      · rw [if_neg hl]
        have hi2 := hE.sg hi1 hc (by decide)
        have HA' := HA hi2 (by omega)
        cases r with
        | bad er at' => exact call_args hi hs hi1 hF1 hc (by omega) hi2 HA'
        | ok ts j =>
          dsimp only
          by_cases hv : sgAt l j = [41]
          · rw [if_pos hv]
            by_cases ht : mn ≤ (ts.length : Int) ∧ ((ts.length : Int) ≤ mx ∨ mx < 0)
            · rw [if_pos ht]
              exact call_ok hi hs hi1 hF1 hc (by omega) hi2 hF2 HA' hE hv ht
            · rw [if_neg ht]
              exact call_few hi hs hi1 hF1 hc (by omega) hi2 hF2 HA' hv ht
          · rw [if_neg hv]
            exact call_open hi hs hi1 hF1 hc (by omega) hi2 HA' hv
    · rw [if_neg hc]
      exact call_no hi hs hi1 hF1 hc
end Go.Proofs.YtdlomdbmmhjppaaGreatDoor.T9
