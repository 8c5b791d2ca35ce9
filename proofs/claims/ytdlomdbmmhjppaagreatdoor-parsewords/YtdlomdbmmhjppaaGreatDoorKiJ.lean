/- Small facts that the walks of package lex and of the document's own cutting share: words as values, rows of words, blocks; what the world must hold; how contracts are carried. What lex.isDigit, isOfRun, isBlank, isReference and speltSize answer, for every rune and text: proved of the Go text. What lex.wordOfNumber answers, for every text of ASCII bytes: proved of the Go text. What lex.isReference and speltSize answer, for every text: proved of the Go text. -/
import Derived.Test.YtdlomdbmmhjppaaGreatDoorDeJ
import Derived.Test.YtdlomdbmmhjppaaGreatDoorShelf
import Derived.Test.YtdlomdbmmhjppaaGreatDoorRdJ
import Derived.Test.YtdlomdbmmhjppaaGreatDoorRuJ
import Derived.Test.YtdlomdbmmhjppaaGreatDoorQtJ
import Derived.WalkKit
import Derived.WalkSpells
import Derived.WalkLawsBesides
import Derived.Deep.RegionWith
import Derived.Lib.QuietBelow
import Derived.Lib.ReplaceLaws
import Derived.BigQuiet
import Derived.Below
import Derived.Handy
import Derived.LoopTactic
import Derived.OwnWalk
import Derived.Laws.BytesArg
import Derived.Laws.RangeAny
import Derived.Laws.OwnMore
namespace Go.Proofs.YtdlomdbmmhjppaaGreatDoor
open Go.RowKit Go.Sort
set_option linter.unusedVariables false

abbrev no : ByteArray := { data := #[] }
/-- A list of bytes as a text. -/
abbrev ba (l : List UInt8) : ByteArray := ⟨l.toArray⟩
theorem ba_list (l : List UInt8) : (ba l).data.toList = l := by simp
theorem ba_size (l : List UInt8) : (ba l).size = l.length := by rw [Lib.size_eq, ba_list]
theorem ba_of (s : ByteArray) : ba s.data.toList = s := rfl
theorem ba_inj {a b : List UInt8} (h : ba a = ba b) : a = b := by have := congrArg (fun s => s.data.toList) h; simpa using this
theorem ba_ext (s : ByteArray) (a b : Nat) (h : b ≤ s.size) : s.extract a b = ba (slc s.data.toList a b) := by
  apply ByteArray.ext
  apply Array.ext'
  rw [Lib.extract_data]
  simp [slc]
theorem no_ba : (no : ByteArray) = ba [] := rfl
/-- A word as a value. -/
abbrev wdV (k : Int) (t : ByteArray) (i : Int) : Value := .agg #[.int .i64 k, .string t, .int .i64 i]
abbrev wdO (k : Int) (t : ByteArray) (i : Int) : Obj := .cells #[.int .i64 k, .string t, .int .i64 i] 44
/-- What wordOf and its like answer. -/
def tokV : Tok → Value
  | .bad e => .tuple #[wdV 0 no 0, .int .i64 e]
  | .ok k t n => .tuple #[wdV k (ba t) 0, .int .i64 0]
/-- The block holds these cells. -/
def Blk (W : World) (B : Nat) (vs : Array Value) (t : TypeId) : Prop := W.heap[B]? = some (.cells vs t)
theorem Blk.lt {W : World} {B : Nat} {vs : Array Value} {t : TypeId} (h : Blk W B vs t) : B < W.heap.size := (Array.getElem?_eq_some_iff.1 h).1
theorem Blk.new (W : World) (vs : Array Value) (t : TypeId) : Blk (W.alloc (.cells vs t)) W.heap.size vs t := by show (W.heap.push _)[W.heap.size]? = _; simp
theorem Blk.kept {W W' : World} {row : Option Nat} {B : Nat} {vs : Array Value} {t : TypeId} (h : Blk W B vs t) (hg : W.grownBy W' row) (hne : some B ≠ row) : Blk W' B vs t := (hg.block B h.lt hne).trans h
theorem Blk.alloc {W : World} {B : Nat} {vs : Array Value} {t : TypeId} (h : Blk W B vs t) (o : Obj) : Blk (W.alloc o) B vs t := h.kept (World.grownBy_alloc W o none) (by simp)
theorem Blk.keep {W W' : World} {B : Nat} {vs : Array Value} {t : TypeId} (h : Blk W B vs t) (hb : Below W.heap.size W W') : Blk W' B vs t := (hb.block B h.lt).trans h
theorem Blk.fr {W : World} {B : Nat} {vs : Array Value} {t : TypeId} (h : Blk W B vs t) (j : Nat) : W.frozen? ⟨B, j, none⟩ = false := by simp [World.frozen?, show W.heap[B]? = _ from h]
theorem Blk.at' {W : World} {B : Nat} {vs : Array Value} {t : TypeId} (h : Blk W B vs t) (j : Nat) : W.cell? ⟨B, j, none⟩ = vs[j]? := by simp [World.cell?, show W.heap[B]? = _ from h]
theorem Blk.set {W : World} {B : Nat} {vs : Array Value} {t : TypeId} (h : Blk W B vs t) (j : Nat) (u : Value) : Blk (W.setCell ⟨B, j, none⟩ u) B (vs.setIfInBounds j u) t := by
  have hlt := h.lt
  have hget := (Array.getElem?_eq_some_iff.1 h).2
  unfold Blk World.setCell
  rw [Array.getElem?_eq_getElem (by simpa using hlt), Array.getElem_modify, if_pos rfl, hget]
  rfl
theorem grown_set (w : World) (g k : Nat) (u : Value) : w.grownBy (w.setCell ⟨g, k, none⟩ u) (some g) :=
  ⟨rfl, rfl, rfl, by simp, fun j _ hj => Below.heap_setCell _ _ _ j (fun e => hj (by rw [e]))⟩
theorem grown_trans {w w' w'' : World} {row : Option Nat} (h : w.grownBy w' row) (h' : w'.grownBy w'' row) : w.grownBy w'' row :=
  ⟨h'.os.trans h.os, h'.tape.trans h.tape, h'.output.trans h.output, Nat.le_trans h.size h'.size, fun k hk hne => (h'.block k (Nat.lt_of_lt_of_le hk h.size) hne).trans (h.block k hk hne)⟩
theorem grown_of {w w' : World} (hb : Below w.heap.size w w') (row : Option Nat) : w.grownBy w' row := ⟨hb.os, hb.tape, hb.output, hb.size, fun k hk _ => hb.block k hk⟩
theorem iter_below (w : World) (s : ByteArray) (p : Nat) : Below w.heap.size w (w.iter s p) := (Below.refl _ _).alloc (Nat.le_refl _) _
/-- A word written into a block. -/
abbrev put3 (w : World) (b : Nat) (u0 u1 u2 : Value) : World := ((w.setCell ⟨b, 0, none⟩ u0).setCell ⟨b, 1, none⟩ u1).setCell ⟨b, 2, none⟩ u2
theorem Blk.put3 {w : World} {b : Nat} {v0 v1 v2 : Value} {t : TypeId} (h : Blk w b #[v0, v1, v2] t) (u0 u1 u2 : Value) : Blk (put3 w b u0 u1 u2) b #[u0, u1, u2] t := ((h.set 0 u0).set 1 u1).set 2 u2
theorem below_put3 {B : Nat} {a w : World} {b : Nat} (h : Below B a w) (hb : B ≤ b) (u0 u1 u2 : Value) : Below B a (put3 w b u0 u1 u2) := ((h.setCell (p := ⟨b, 0, none⟩) hb u0).setCell (p := ⟨b, 1, none⟩) hb u1).setCell (p := ⟨b, 2, none⟩) hb u2
theorem grown_put3 (w : World) (b : Nat) (u0 u1 u2 : Value) : w.grownBy (put3 w b u0 u1 u2) (some b) := grown_trans (grown_trans (grown_set _ _ _ _) (grown_set _ _ _ _)) (grown_set _ _ _ _)
theorem Blk.cells3 {w : World} {b : Nat} {v0 v1 v2 : Value} {t : TypeId} (h : Blk w b #[v0, v1, v2] t) : w.cell? ⟨b, 0, none⟩ = some v0 ∧ w.cell? ⟨b, 1, none⟩ = some v1 ∧ w.cell? ⟨b, 2, none⟩ = some v2 := ⟨h.at' 0, h.at' 1, h.at' 2⟩
/-- What the world must hold: the table of words that are spelt in one way, and some number in MaxLen. -/
structure Lay8 (w : World) : Prop where
  sp : ∃ t fr, w.heap[1]? = some (.cells (spelts.map fun p => Value.string (ba p)).toArray t fr)
  mx : ∃ m, w.cell? ⟨3, 0, none⟩ = some (.int .i64 m)
theorem Lay8.keep {W w1 : World} (h : Lay8 W) (hb : Below W.heap.size W w1) : Lay8 w1 := ⟨by obtain ⟨t, fr, e⟩ := h.sp; exact ⟨t, fr, (hb.block _ (Array.getElem?_eq_some_iff.1 e).1).trans e⟩, by obtain ⟨m, e⟩ := h.mx; exact ⟨m, keep1 hb e⟩⟩
theorem Lay8.alloc {W : World} (h : Lay8 W) (o : Obj) : Lay8 (W.alloc o) := h.keep ((Below.refl _ _).alloc (Nat.le_refl _) _)
/-- What a call answers, whatever the world, and that it changes nothing that was there; CallL: where the table is laid. -/
abbrev CallIs (f : Nat) (args : Array Value) (v : Value) : Prop := Hid (∀ w, Calls Tryz.prog f args w fun e w' => e = .returned v ∧ Below w.heap.size w w')
abbrev CallL (f : Nat) (args : Array Value) (v : Value) : Prop := Hid (∀ w, Lay8 w → Calls Tryz.prog f args w fun e w' => e = .returned v ∧ Below w.heap.size w w')
/-- The same, and the world is as it was. -/
abbrev CallS (f : Nat) (args : Array Value) (v : Value) : Prop := Hid (∀ w, Calls Tryz.prog f args w fun e w' => e = .returned v ∧ w' = w)
theorem CallIs.l {f : Nat} {args : Array Value} {v : Value} (h : CallIs f args v) : CallL f args v := fun w _ => h w
end Go.Proofs.YtdlomdbmmhjppaaGreatDoor
namespace Go.Proofs.YtdlomdbmmhjppaaGreatDoor
open Go.RowKit Go.Sort
set_option linter.unusedVariables false

theorem isDigit8 (r : Nat) : CallS 113 #[.int .i32 r] (.bool (digR r)) := by
  intro w
  by_cases h1 : 48 ≤ (r : Int)
  · by_cases h2 : (r : Int) ≤ 57
    · go_enter Tryz.func113, Tryz.ntmps113
      go_wp2
      go_ret
      exact ⟨ret_bool (by simp [digR]; omega), rfl⟩
    · go_enter Tryz.func113, Tryz.ntmps113
      go_wp2
      go_ret
      exact ⟨ret_bool (by simp [digR]; omega), rfl⟩
  · go_enter Tryz.func113, Tryz.ntmps113
    go_wp2
    go_ret
    exact ⟨ret_bool (by simp [digR]; omega), rfl⟩
theorem isOfRun8 (r : Nat) : CallS 89 #[.int .i32 r] (.bool (runR r)) := by
  intro w
  have HD := isDigit8 r
  cases hd : digR r
  · rw [hd] at HD
    by_cases h1 : 65 ≤ (r : Int)
    · by_cases h2 : (r : Int) ≤ 90
      · skip
        go_enter Tryz.func89, Tryz.ntmps89
        go_wp2_with (go_at_call 113; refine (HD.out _).mono ?_; rintro e w1 ⟨rfl, rfl⟩)
        go_ret
        refine ⟨ret_bool ?_, rfl⟩
        unfold runR
        rw [hd, Bool.eq_iff_iff]
        first
          | (simp at *; done)
          | (simp at *; omega)
      · skip
        by_cases h3 : 97 ≤ (r : Int)
        · by_cases h4 : (r : Int) ≤ 122
          · skip
            go_enter Tryz.func89, Tryz.ntmps89
            go_wp2_with (go_at_call 113; refine (HD.out _).mono ?_; rintro e w1 ⟨rfl, rfl⟩)
            go_ret
            refine ⟨ret_bool ?_, rfl⟩
            unfold runR
            rw [hd, Bool.eq_iff_iff]
            first
              | (simp at *; done)
              | (simp at *; omega)
          · skip
            cases h5 : ((r : Int) == 36)
            · cases h6 : ((r : Int) == 95)
              · skip
                go_enter Tryz.func89, Tryz.ntmps89
                go_wp2_with (go_at_call 113; refine (HD.out _).mono ?_; rintro e w1 ⟨rfl, rfl⟩)
                go_ret
                refine ⟨ret_bool ?_, rfl⟩
                unfold runR
                rw [hd, Bool.eq_iff_iff]
                first
                  | (simp at *; done)
                  | (simp at *; omega)
              · skip
                go_enter Tryz.func89, Tryz.ntmps89
                go_wp2_with (go_at_call 113; refine (HD.out _).mono ?_; rintro e w1 ⟨rfl, rfl⟩)
                go_ret
                refine ⟨ret_bool ?_, rfl⟩
                unfold runR
                rw [hd, Bool.eq_iff_iff]
                first
                  | (simp at *; done)
                  | (simp at *; omega)
            · skip
              go_enter Tryz.func89, Tryz.ntmps89
              go_wp2_with (go_at_call 113; refine (HD.out _).mono ?_; rintro e w1 ⟨rfl, rfl⟩)
              go_ret
              refine ⟨ret_bool ?_, rfl⟩
              unfold runR
              rw [hd, Bool.eq_iff_iff]
              first
                | (simp at *; done)
                | (simp at *; omega)
        · skip
          cases h5 : ((r : Int) == 36)
          · cases h6 : ((r : Int) == 95)
            · skip
              go_enter Tryz.func89, Tryz.ntmps89
              go_wp2_with (go_at_call 113; refine (HD.out _).mono ?_; rintro e w1 ⟨rfl, rfl⟩)
              go_ret
              refine ⟨ret_bool ?_, rfl⟩
              unfold runR
              rw [hd, Bool.eq_iff_iff]
              first
                | (simp at *; done)
                | (simp at *; omega)
            · skip
              go_enter Tryz.func89, Tryz.ntmps89
              go_wp2_with (go_at_call 113; refine (HD.out _).mono ?_; rintro e w1 ⟨rfl, rfl⟩)
              go_ret
              refine ⟨ret_bool ?_, rfl⟩
              unfold runR
              rw [hd, Bool.eq_iff_iff]
              first
                | (simp at *; done)
                | (simp at *; omega)
          · skip
            go_enter Tryz.func89, Tryz.ntmps89
            go_wp2_with (go_at_call 113; refine (HD.out _).mono ?_; rintro e w1 ⟨rfl, rfl⟩)
            go_ret
            refine ⟨ret_bool ?_, rfl⟩
            unfold runR
            rw [hd, Bool.eq_iff_iff]
            first
              | (simp at *; done)
              | (simp at *; omega)
    · skip
      have h3 : ¬ 97 ≤ (r : Int) := by omega
      cases h5 : ((r : Int) == 36)
      · cases h6 : ((r : Int) == 95)
        · skip
          go_enter Tryz.func89, Tryz.ntmps89
          go_wp2_with (go_at_call 113; refine (HD.out _).mono ?_; rintro e w1 ⟨rfl, rfl⟩)
          go_ret
          refine ⟨ret_bool ?_, rfl⟩
          unfold runR
          rw [hd, Bool.eq_iff_iff]
          first
            | (simp at *; done)
            | (simp at *; omega)
        · skip
          go_enter Tryz.func89, Tryz.ntmps89
          go_wp2_with (go_at_call 113; refine (HD.out _).mono ?_; rintro e w1 ⟨rfl, rfl⟩)
          go_ret
          refine ⟨ret_bool ?_, rfl⟩
          unfold runR
          rw [hd, Bool.eq_iff_iff]
          first
            | (simp at *; done)
            | (simp at *; omega)
      · skip
        go_enter Tryz.func89, Tryz.ntmps89
        go_wp2_with (go_at_call 113; refine (HD.out _).mono ?_; rintro e w1 ⟨rfl, rfl⟩)
        go_ret
        refine ⟨ret_bool ?_, rfl⟩
        unfold runR
        rw [hd, Bool.eq_iff_iff]
        first
          | (simp at *; done)
          | (simp at *; omega)
  · rw [hd] at HD
    have HE : Hid (runR r = true) := hide (by unfold runR; rw [hd]; rfl)
    go_enter Tryz.func89, Tryz.ntmps89
    go_wp2_with (go_at_call 113; refine (HD.out _).mono ?_; rintro e w1 ⟨rfl, rfl⟩)
    go_ret
    exact ⟨ret_bool HE.out.symm, rfl⟩
theorem isBlank8 (r : Nat) : CallS 90 #[.int .i32 r] (.bool (blR r)) := by
  intro w
  cases h0 : ((r : Int) == 9)
  · skip
    cases h1 : ((r : Int) == 10)
    · skip
      cases h2 : ((r : Int) == 13)
      · skip
        cases h3 : ((r : Int) == 32)
        · skip
          cases h4 : ((r : Int) == 160)
          · skip
            cases h5 : ((r : Int) == 12288)
            · skip
              have HE : Hid (blR r = false) := hide (by unfold blR; simp at *; omega)
              go_enter Tryz.func90, Tryz.ntmps90
              go_wp2
              go_ret
              exact ⟨ret_bool HE.out.symm, rfl⟩
            · skip
              have HE : Hid (blR r = true) := hide (by unfold blR; simp at *; omega)
              go_enter Tryz.func90, Tryz.ntmps90
              go_wp2
              go_ret
              exact ⟨ret_bool HE.out.symm, rfl⟩
          · skip
            have HE : Hid (blR r = true) := hide (by unfold blR; simp at *; omega)
            go_enter Tryz.func90, Tryz.ntmps90
            go_wp2
            go_ret
            exact ⟨ret_bool HE.out.symm, rfl⟩
        · skip
          have HE : Hid (blR r = true) := hide (by unfold blR; simp at *; omega)
          go_enter Tryz.func90, Tryz.ntmps90
          go_wp2
          go_ret
          exact ⟨ret_bool HE.out.symm, rfl⟩
      · skip
        have HE : Hid (blR r = true) := hide (by unfold blR; simp at *; omega)
        go_enter Tryz.func90, Tryz.ntmps90
        go_wp2
        go_ret
        exact ⟨ret_bool HE.out.symm, rfl⟩
    · skip
      have HE : Hid (blR r = true) := hide (by unfold blR; simp at *; omega)
      go_enter Tryz.func90, Tryz.ntmps90
      go_wp2
      go_ret
      exact ⟨ret_bool HE.out.symm, rfl⟩
  · skip
    have HE : Hid (blR r = true) := hide (by unfold blR; simp at *; omega)
    go_enter Tryz.func90, Tryz.ntmps90
    go_wp2
    go_ret
    exact ⟨ret_bool HE.out.symm, rfl⟩
end Go.Proofs.YtdlomdbmmhjppaaGreatDoor
namespace Go.Proofs.YtdlomdbmmhjppaaGreatDoor
open Go.RowKit Go.Sort
set_option linter.unusedVariables false

theorem dig_rune (s : ByteArray) (p : Nat) (h : p < s.size) (hc : s[p].toNat < 128) : digR (nr s p) = dig s[p] := by rw [(dec_low s p h hc).1]; rfl
theorem dgs_step8 (s : ByteArray) (k : Nat) (h : k < s.size) (hd : dgs (s.data.toList.take k) = true) (hc : dig s[k] = true) : dgs (s.data.toList.take (k + 1)) = true := by rw [take_snoc s k h, dgs_snoc, hd, hc]; rfl
theorem dgs_stop8 (s : ByteArray) (k : Nat) (h : k < s.size) (hc : dig s[k] = false) : dgs s.data.toList = false := by
  rw [Bool.eq_false_iff]
  intro hd
  have := dgs_at s k h hd
  simp [dig] at hc
  omega
theorem low_at {s : ByteArray} (h : ∀ c ∈ s.data.toList, c.toNat < 128) (k : Nat) (hk : k < s.size) : s[k].toNat < 128 := h _ (by rw [show s[k] = s.data.toList[k]'(by simpa using hk) from rfl]; exact List.getElem_mem _)
theorem dw_dgs {l : List UInt8} (h : dgs l = true) : dgs (l.dropWhile (· == 48)) = true := by
  unfold dgs at *
  rw [List.all_eq_true] at *
  exact fun x hx => h x ((List.dropWhile_sublist _).subset hx)
theorem dw_num {l : List UInt8} (h : dgs l = true) (hn : l.dropWhile (· == 48) ≠ []) : numL (l.dropWhile (· == 48)) = true := by
  have hd := dw_dgs h
  cases hc : l.dropWhile (· == 48) with
  | nil => exact absurd hc hn
  | cons c r =>
    rw [hc] at hd
    have h48 : (c == 48) = false := by
      have := List.head?_dropWhile_not (· == (48 : UInt8)) l
      rw [hc] at this
      simpa using this
    simp only [numL, hd, Bool.and_true]
    rw [bne, h48]; rfl
theorem form_of_num (t : ByteArray) (h : numL t.data.toList = true) : formB t = true ∧ 0 < t.size ∧ ∀ hp : 0 < t.size, ((t[0].toNat : Int) == 45) = false := by
  have hp : 0 < t.size := by
    rw [Lib.size_eq]
    cases hl : t.data.toList with
    | nil => rw [hl] at h; cases h
    | cons c r => simp
  obtain ⟨r, hr⟩ := toList_cons t hp
  have h45 : ¬ t[0] = 45 := by
    intro e
    rw [hr, e] at h
    simp [numL, dgs, dig] at h
  refine ⟨?_, hp, fun _ => by rw [eq_45]; simpa using h45⟩
  unfold formB formL
  rw [hr] at h ⊢
  have e : unsig (t[0] :: r) = t[0] :: r := if_neg h45
  rw [e, h]; simp
/-- whole.Read of digits without leading zeros: an error just if they are too great. -/
theorem readN (t : ByteArray) (hs : t.size ≤ maxLen) (h : numL t.data.toList = true ∨ t.data.toList = [48]) :
    ∃ v e : Int, (CallS 139 #[.string t] (.tuple #[.int .i64 v, .int .i64 e])) ∧ ((e != 0) = decide (9223372036854775807 < val t.data.toList)) := by
  have hf : formB t = true ∧ 0 < t.size ∧ ∀ hp : 0 < t.size, ((t[0].toNat : Int) == 45) = false := by
    rcases h with h | h
    · exact form_of_num t h
    · have hp : 0 < t.size := by rw [Lib.size_eq, h]; decide
      refine ⟨by unfold formB; rw [h]; rfl, hp, fun hp => ?_⟩
      obtain ⟨r, hr⟩ := toList_cons t hp
      rw [h] at hr
      rw [eq_45, ← (List.cons.inj hr).1]; decide
  obtain ⟨h1, h2, h3⟩ := hf
  by_cases hv : val t.data.toList ≤ 9223372036854775807
  · refine ⟨(val t.data.toList : Int), 0, fun w => (read_pos t w hs h1 h2 (h3 h2) hv).mono ?_, ?_⟩
    · exact fun e w' h => h
    · simp; omega
  · refine ⟨0, 13, fun w => (read_posover t w hs h1 h2 (h3 h2) (by omega)).mono ?_, ?_⟩
    · exact fun e w' h => h
    · simp; omega
set_option maxHeartbeats 2000000 in
theorem wordOfNumber8 (s : ByteArray) (hs : s.size ≤ 65535) (hr : ∀ c ∈ s.data.toList, c.toNat < 128) : CallIs 115 #[.string s] (tokV (numTok s.data.toList)) := by
  intro w
  have hlow := hide (low_at hr)
  clear hr
  have hs' : s.size ≤ 9223372036854775807 := by omega
  obtain ⟨w1, hw1⟩ : ∃ w1, w.alloc (wdO 0 no 0) = w1 := ⟨_, rfl⟩
  have B1 : Hid (Below w.heap.size w w1) := hide (by rw [← hw1]; exact step (Below.refl _ _) _)
  have bk : Hid (Blk w1 w.heap.size #[.int .i64 0, .string no, .int .i64 0] 44) := hide (by rw [← hw1]; exact Blk.new _ _ _)
  go_enter Tryz.func115, Tryz.ntmps115
  go_wp2_with fail
  go_loopw [5] (fun _ wr => ∃ pos : Nat, pos ≤ s.size ∧ wr = w1.iter s pos ∧ Hid (dgs (s.data.toList.take pos) = true)) (fun _ wr => s.size - wr.iterPos w1.heap.size)
  case atStart => exact ⟨0, Nat.zero_le _, rfl, rfl⟩
  case round =>
    obtain ⟨pos, hle, rfl, hd⟩ := hrel
    by_cases hp : pos < s.size
    · have hnx : ∀ ty, (Instr.next (.pointer (some ⟨w1.heap.size, 0, none⟩)) true ty).run Tryz.prog (w1.iter s pos) = _ := fun ty => run_next_any w1 s pos ty hp
      have hwd := hide (And.intro (wd_pos s pos hp) (wd_le s pos hp))
      have hw1' := hide ((dec_low s pos hp (hlow.out pos hp)).2)
      have HD := isDigit8 (nr s pos)
      rw [dig_rune s pos hp (hlow.out pos hp)] at HD
      cases hc : dig s[pos]
      · rw [hc] at HD
        have HN : Hid (tokV (numTok s.data.toList) = .tuple #[wdV 0 no 0, .int .i64 21]) := hide (by unfold numTok; rw [dgs_stop8 s pos hp hc]; rfl)
        have bk2 := hide (bk.out.keep (iter_below w1 s (pos + (Utf8.decode s pos).2)))
        obtain ⟨b0, b1, b2⟩ := bk2.out.cells3
        have bf := bk2.out.fr
        have B2 := hide (next B1.out (iter_below w1 s (pos + (Utf8.decode s pos).2)))
        go_wp2_with (go_at_call 113; refine (HD.out _).mono ?_; rintro e w2 ⟨rfl, rfl⟩)
        obtain ⟨w3, hw3⟩ : ∃ w3, (((w1.iter s (pos + (Utf8.decode s pos).2)).setCell ⟨w.heap.size, 0, none⟩ (.int .i64 0)).setCell ⟨w.heap.size, 1, none⟩ (.string no)).setCell ⟨w.heap.size, 2, none⟩ (.int .i64 0) = w3 := ⟨_, rfl⟩
        have bkw3 : Blk w3 w.heap.size #[.int .i64 0, .string no, .int .i64 0] 44 := by rw [← hw3]; exact bk2.out.put3 _ _ _
        have Bw3 : Below w.heap.size w w3 := by rw [← hw3]; exact below_put3 B2.out (Nat.le_refl _) _ _ _
        rw [hw3]
        obtain ⟨d0, d1, d2⟩ := bkw3.cells3
        refine bodyPost_ret (by simp [results, Tryz.results115, go_sem, d0, d1, d2]; try rfl) rfl ?_
        exact ⟨by rw [HN.out], Bw3⟩
      · rw [hc] at HD
        have HN := hide (dgs_step8 s pos hp hd.out hc)
        go_wp2_with (go_at_call 113; refine (HD.out _).mono ?_; rintro e w2 ⟨rfl, rfl⟩)
        go_roundw
        case rel =>
          have := hwd.out
          refine ⟨pos + wd s pos, by omega, rfl, ?_⟩
          rw [hw1'.out]; exact HN
        case measure =>
          have := hwd.out
          simp
          unfold wd at this
          omega
    · have hnx : ∀ ty, (Instr.next (.pointer (some ⟨w1.heap.size, 0, none⟩)) true ty).run Tryz.prog (w1.iter s pos) = _ := fun ty => run_next_end w1 s pos ty hp
      have HA := hide (show dgs s.data.toList = true by rw [← take_all s pos (by omega)]; exact hd.out)
      have bk2 := hide (bk.out.keep (iter_below w1 s pos))
      have B2 := hide (next B1.out (iter_below w1 s pos))
      obtain ⟨d, hd'⟩ : ∃ d, s.data.toList.dropWhile (· == 48) = d := ⟨_, rfl⟩
      have hdl : Hid (d.length ≤ 65535) := hide (by rw [← hd']; have := (List.dropWhile_sublist (p := (· == (48 : UInt8))) (l := s.data.toList)).length_le; have := Lib.size_eq s; omega)
      have hT' : Hid (Lib.trimLeftB s.data.toList 48 = d) := hide hd'
      have HT : CallS 138 #[.string s, .string (ba [48])] (.string (ba d)) := fun w => by rw [← hT'.out]; exact Tryz.strings_TrimLeft_one s 48 (by decide) w
      obtain ⟨w2, hw2⟩ : ∃ w2, w1.iter s pos = w2 := ⟨_, rfl⟩
      rw [hw2] at bk2 B2 hnx ⊢
      clear hw2
      obtain ⟨b0, b1, b2⟩ := bk2.out.cells3
      have bf := bk2.out.fr
      by_cases hz : d = []
      · have hb : Hid (trim0 s.data.toList = [48]) := hide (by unfold trim0; rw [hd', hz]; rfl)
        obtain ⟨v, e, HR, he⟩ := readN (ba [48]) (by decide) (.inr rfl)
        have he0 : (e != 0) = false := by rw [he]; decide
        clear he
        have HN : Hid (tokV (numTok s.data.toList) = .tuple #[wdV 1 (ba [48]) 0, .int .i64 0]) := hide (by
          have : numTok s.data.toList = .ok 1 [48] s.data.toList.length := by unfold numTok; rw [HA.out, hb.out, if_pos rfl, if_pos (by decide)]
          rw [this]; rfl)
        subst hz
        go_wp2_with fail
        refine (HT.out _).mono ?_
        rintro e1 w4 ⟨rfl, rfl⟩
        go_wp2_with fail
        refine (HR.out _).mono ?_
        rintro e1 w4 ⟨rfl, rfl⟩
        go_wp2_with fail
        obtain ⟨w3, hw3⟩ : ∃ w3, ((w4.setCell ⟨w.heap.size, 0, none⟩ (.int .i64 1)).setCell ⟨w.heap.size, 1, none⟩ (.string (ba [48]))).setCell ⟨w.heap.size, 2, none⟩ (.int .i64 0) = w3 := ⟨_, rfl⟩
        have bkw3 : Blk w3 w.heap.size #[.int .i64 1, .string (ba [48]), .int .i64 0] 44 := by rw [← hw3]; exact bk2.out.put3 _ _ _
        have Bw3 : Below w.heap.size w w3 := by rw [← hw3]; exact below_put3 B2.out (Nat.le_refl _) _ _ _
        rw [hw3]
        obtain ⟨d0, d1, d2⟩ := bkw3.cells3
        refine bodyPost_ret (by simp [results, Tryz.results115, go_sem, d0, d1, d2]; try rfl) rfl ?_
        exact ⟨by rw [HN.out], Bw3⟩
      · have hb : Hid (trim0 s.data.toList = d) := hide (by unfold trim0; rw [hd', if_neg (by simpa using hz)])
        have hnum : numL d = true := by rw [← hd']; exact dw_num HA.out (by rw [hd']; exact hz)
        obtain ⟨v, e, HR, he⟩ := readN (ba d) (by rw [ba_size]; unfold maxLen; have := hdl.out; omega) (.inl (by rw [ba_list]; exact hnum))
        rw [ba_list] at he
        have hsz := hide (ba_size d)
        obtain ⟨t, ht⟩ : ∃ t, ba d = t := ⟨_, rfl⟩
        have htp : 0 < t.size := by rw [← ht, hsz.out]; exact List.length_pos_iff.2 hz
        have n1 := toList_ne t htp
        have n2 := isEmpty_ne t htp
        clear hnum hT'
        replace hz := hide hz
        replace hd' := hide hd'
        by_cases hv : val d ≤ 9223372036854775807
        · have he0 : (e != 0) = false := by rw [he]; simp; omega
          have HN : Hid (tokV (numTok s.data.toList) = .tuple #[wdV 1 t 0, .int .i64 0]) := hide (by
            have : numTok s.data.toList = .ok 1 d s.data.toList.length := by unfold numTok; rw [HA.out, hb.out, if_pos rfl, if_pos hv]
            rw [this, ← ht]; rfl)
          clear he hv
          rw [ht] at HR HT
          clear ht
          go_wp2_with fail
          refine (HT.out _).mono ?_
          rintro e1 w4 ⟨rfl, rfl⟩
          go_wp2_with fail
          refine (HR.out _).mono ?_
          rintro e1 w4 ⟨rfl, rfl⟩
          go_wp2_with fail
          obtain ⟨w3, hw3⟩ : ∃ w3, ((w4.setCell ⟨w.heap.size, 0, none⟩ (.int .i64 1)).setCell ⟨w.heap.size, 1, none⟩ (.string t)).setCell ⟨w.heap.size, 2, none⟩ (.int .i64 0) = w3 := ⟨_, rfl⟩
          have bkw3 : Blk w3 w.heap.size #[.int .i64 1, .string t, .int .i64 0] 44 := by rw [← hw3]; exact bk2.out.put3 _ _ _
          have Bw3 : Below w.heap.size w w3 := by rw [← hw3]; exact below_put3 B2.out (Nat.le_refl _) _ _ _
          rw [hw3]
          obtain ⟨d0, d1, d2⟩ := bkw3.cells3
          refine bodyPost_ret (by simp [results, Tryz.results115, go_sem, d0, d1, d2]; try rfl) rfl ?_
          exact ⟨by rw [HN.out], Bw3⟩
        · have he0 : (e != 0) = true := by rw [he]; simp; omega
          have HN : Hid (tokV (numTok s.data.toList) = .tuple #[wdV 0 no 0, .int .i64 12]) := hide (by
            have : numTok s.data.toList = .bad 12 := by unfold numTok; rw [HA.out, hb.out, if_pos rfl, if_neg hv]
            rw [this]; rfl)
          clear he hv
          rw [ht] at HR HT
          clear ht
          go_wp2_with fail
          refine (HT.out _).mono ?_
          rintro e1 w4 ⟨rfl, rfl⟩
          go_wp2_with fail
          refine (HR.out _).mono ?_
          rintro e1 w4 ⟨rfl, rfl⟩
          go_wp2_with fail
          obtain ⟨w3, hw3⟩ : ∃ w3, ((w4.setCell ⟨w.heap.size, 0, none⟩ (.int .i64 0)).setCell ⟨w.heap.size, 1, none⟩ (.string no)).setCell ⟨w.heap.size, 2, none⟩ (.int .i64 0) = w3 := ⟨_, rfl⟩
          have bkw3 : Blk w3 w.heap.size #[.int .i64 0, .string no, .int .i64 0] 44 := by rw [← hw3]; exact bk2.out.put3 _ _ _
          have Bw3 : Below w.heap.size w w3 := by rw [← hw3]; exact below_put3 B2.out (Nat.le_refl _) _ _ _
          rw [hw3]
          obtain ⟨d0, d1, d2⟩ := bkw3.cells3
          refine bodyPost_ret (by simp [results, Tryz.results115, go_sem, d0, d1, d2]; try rfl) rfl ?_
          exact ⟨by rw [HN.out], Bw3⟩
end Go.Proofs.YtdlomdbmmhjppaaGreatDoor
namespace Go.Proofs.YtdlomdbmmhjppaaGreatDoor
open Go.RowKit Go.Sort
set_option linter.unusedVariables false

theorem find_at {α : Type} (p : α → Bool) : ∀ (l : List α) (k : Nat) (hk : k < l.length), (∀ j (hj : j < k), p (l[j]'(by omega)) = false) → p l[k] = true → l.find? p = some l[k]
  | a :: l, 0, hk, h, h1 => by rw [List.find?_cons]; simp at h1 ⊢; rw [h1]
  | a :: l, k + 1, hk, h, h1 => by
    have h0 := h 0 (by omega)
    simp at h0
    rw [List.find?_cons, h0]
    exact find_at p l k (by simpa using hk) (fun j hj => by have := h (j + 1) (by omega); simpa using this) (by simpa using h1)
/-- How long the spelt word is that begins a text. -/
def spLen (l : List UInt8) : Nat := match spFind l with
  | none => 0
  | some p => p.length
theorem spLen_at {l : List UInt8} (k : Nat) (hk : k < spelts.length) (h : ∀ j (hj : j < k), Lib.hasPrefix l (spelts[j]'(by omega)) = false) (h1 : Lib.hasPrefix l spelts[k] = true) : spLen l = spelts[k].length := by
  have : spFind l = some spelts[k] := find_at (Lib.hasPrefix l ·) spelts k hk h h1
  unfold spLen; rw [this]
theorem spLen_none {l : List UInt8} (h : ∀ j (hj : j < spelts.length), Lib.hasPrefix l spelts[j] = false) : spLen l = 0 := by
  have : spFind l = none := by
    unfold spFind
    rw [List.find?_eq_none]
    intro x hx
    obtain ⟨j, hj, rfl⟩ := List.mem_iff_getElem.1 hx
    rw [h j hj]; decide
  unfold spLen; rw [this]
theorem isReference8 (s : ByteArray) (hs : s.size ≤ maxLen) : CallIs 117 #[.string s] (.bool (decide (rN s = s.size))) := by
  intro w
  have HR := hide (fun w => readRef_any s w hs)
  have hs' : s.size ≤ 9223372036854775807 := hs
  have HB : Hid (decide (rN s = s.size) = ((rN s : Int) == s.size)) := hide (by rw [Bool.eq_iff_iff]; simp; omega)
  generalize rN s = n at *
  generalize rE s = e at *
  generalize rR s = r at *
  generalize rC s = c at *
  generalize rP s = p at *
  generalize rQ s = q at *
  go_enter Tryz.func117, Tryz.ntmps117
  go_wp2_with fail
  refine (HR.out _).mono ?_
  rintro e w' ⟨rfl, rfl⟩
  go_wp2_with fail
  go_ret
  refine ⟨ret_bool ?_, by go_grown⟩
  rw [HB.out]
theorem index23 (cs : Array Value) (k : Nat) (hk : k < 23) (hc : cs.size = 23) (w : World) : (Instr.index 156 (.agg cs) (.int .i64 k)).run Tryz.prog w = .ok (cs[k]'(by omega)) w := by
  have h0 : 0 ≤ (k : Int) ∧ (k : Int) < 23 := by omega
  simp [Instr.index, run_underlying Tryz.underlying156, asIntOf, h0, go_sem]
  rw [if_pos hk, Array.getElem?_eq_getElem (by omega)]
  rfl
set_option maxRecDepth 100000 in
set_option maxHeartbeats 4000000 in
theorem speltSize8 (s : ByteArray) : Hid (∀ w, Lay8 w → Calls Tryz.prog 91 #[.string s] w fun e w' => e = .returned (.int .i64 (spLen s.data.toList)) ∧ w' = w) := by
  intro w hl
  obtain ⟨t, fr, hsp⟩ := hl.sp
  obtain ⟨cs, hcs⟩ : ∃ cs : Array Value, (spelts.map fun p => Value.string (ba p)).toArray = cs := ⟨_, rfl⟩
  obtain ⟨q, hq⟩ : ∃ q : Nat → List UInt8, ∀ j (h : j < spelts.length), spelts[j] = q j := ⟨fun j => if h : j < spelts.length then spelts[j] else [], fun j h => (dif_pos h).symm⟩
  have SA : Hid (∀ k, k < 23 → (∀ j, j < k → Lib.hasPrefix s.data.toList (q j) = false) → Lib.hasPrefix s.data.toList (q k) = true → spLen s.data.toList = (q k).length) := hide (fun k hk h h1 => by
    have hk' : k < spelts.length := hk
    rw [← hq k hk'] at h1 ⊢
    exact spLen_at k hk' (fun j hj => by rw [hq j (Nat.lt_trans hj hk')]; exact h j hj) h1)
  have SN : Hid ((∀ j, j < 23 → Lib.hasPrefix s.data.toList (q j) = false) → spLen s.data.toList = 0) := hide (fun h => spLen_none (fun j hj => by rw [hq j hj]; exact h j hj))
  have SZ : Hid (∀ k, k < 23 → (q k).length ≤ 7) := hide (fun k hk => by rw [← hq k hk]; exact (sp_facts (List.getElem_mem _)).2.1)
  have hcz : cs.size = 23 := by rw [← hcs, List.size_toArray, List.length_map]; rfl
  have HI : Hid (∀ (k : Nat) w, k < 23 → (Instr.index 156 (.agg cs) (.int .i64 k)).run Tryz.prog w = .ok (.string (ba (q k))) w) := hide (fun k w hk => by
    rw [index23 cs k hk hcz w]
    have hk' : k < spelts.length := hk
    simp only [← hcs, List.getElem_toArray, List.getElem_map, hq k hk'])
  rw [hcs] at hsp
  have hld : (Tryz.prog.info? 156).map (·.size) = some cs.size := by rw [hcz]; kernel_rfl
  clear hl hq hcs
  generalize spLen s.data.toList = N at *
  have HP := hide (fun w p => Tryz.strings_HasPrefix s (ba p) w)
  go_enter Tryz.func91, Tryz.ntmps91
  go_wp2_with (refine wpList_load_row rfl 156 (.global 1) rfl 1 rfl t cs fr _ hsp Tryz.underlying156 rfl hld ?_)
  go_loop [4, 6] (fun _ i => ∃ k : Nat, k ≤ 23 ∧ i = .int .i64 k ∧ Hid (∀ j, j < k → Lib.hasPrefix s.data.toList (q j) = false)) (fun _ i => 23 - (intOf i).toNat)
  case atStart => exact ⟨0, Nat.zero_le _, rfl, hide (fun j hj => absurd hj (Nat.not_lt_zero j))⟩
  case round =>
    obtain ⟨k, hk, rfl, Hr⟩ := hrel
    by_cases hlt : k < 23
    · have hix := fun w => HI.out k w hlt
      cases hc : Lib.hasPrefix s.data.toList (q k)
      · have HN : Hid (∀ j, j < k + 1 → Lib.hasPrefix s.data.toList (q j) = false) := hide (fun j hj => by
          by_cases e : j = k
          · rw [e]; exact hc
          · exact Hr.out j (by omega))
        have HC := hide (fun w => HP.out w (q k))
        rw [hc] at HC
        go_wp2_with (go_at_call 64; refine (HC.out _).mono ?_; rintro e w' ⟨rfl, rfl⟩)
        go_round
        case rel => exact ⟨k + 1, by omega, by go_num, HN⟩
        case measure => simp [intOf]; omega
      · have HN := hide (SA.out k hlt Hr.out hc)
        have HC := hide (fun w => HP.out w (q k))
        have hz := SZ.out k hlt
        rw [hc] at HC
        go_wp2_with (go_at_call 64; refine (HC.out _).mono ?_; rintro e w' ⟨rfl, rfl⟩)
        go_ret
        exact ⟨ret_int (by rw [HN.out]), rfl⟩
    · have HN := hide (SN.out (fun j hj => Hr.out j (by omega)))
      go_wp2_with fail
      go_ret
      exact ⟨ret_int (by rw [HN.out]; rfl), rfl⟩
end Go.Proofs.YtdlomdbmmhjppaaGreatDoor
