/- A text that is being cut, as it lies in memory; rows of words; what the cutter's goesOn and begin do with it. Proved of the Go text. -/
import Derived.Test.YtdlomdbmmhjppaaGreatDoorWoJ
import Derived.Lib.OthersKept
import Derived.Maps.AppendAt
import Derived.Deep.RegionLaw
namespace Go.Proofs.YtdlomdbmmhjppaaGreatDoor
open Go.RowKit Go.Sort
set_option linter.unusedVariables false

/-- Words as the cells of a row. -/
def flatW (l : List Wd) : List Value := l.flatMap fun x => [.int .i64 x.kind, .string (ba x.text), .int .i64 x.at']
theorem flatW_append (l m : List Wd) : flatW (l ++ m) = flatW l ++ flatW m := by simp [flatW]
theorem flatW_len (l : List Wd) : (flatW l).length = l.length * 3 := by
  induction l with
  | nil => rfl
  | cons x l ih => unfold flatW at *; rw [List.flatMap_cons, List.length_append, ih]; simp; omega
theorem flatW_cons (x : Wd) (l : List Wd) : flatW (x :: l) = [.int .i64 x.kind, .string (ba x.text), .int .i64 x.at'] ++ flatW l := by simp [flatW]
theorem flatW_get (l : List Wd) (j : Nat) (h : j < l.length) : (flatW l)[j * 3]? = some (.int .i64 l[j].kind) ∧ (flatW l)[j * 3 + 1]? = some (.string (ba l[j].text)) ∧ (flatW l)[j * 3 + 2]? = some (.int .i64 l[j].at') := by
  induction l generalizing j with
  | nil => simp at h
  | cons x l ih =>
    rw [flatW_cons]
    cases j with
    | zero => simp
    | succ j =>
      have := ih j (by simpa using h)
      rw [show (j + 1) * 3 = j * 3 + 3 by omega, List.getElem?_append_right (by simp), List.getElem?_append_right (by simp), List.getElem?_append_right (by simp)]
      simpa [show j * 3 + 3 + 1 - 3 = j * 3 + 1 by omega, show j * 3 + 3 + 2 - 3 = j * 3 + 2 by omega] using this
/-- A row of words. -/
abbrev RowW (w : World) (B : Nat) (v : Value) (l : List Wd) : Prop := w.ownsRow B 44 3 v l.length (flatW l)
theorem RowW.nil (w : World) (B : Nat) : RowW w B (.slice none 0 0) [] := World.ownsRow_nil w B _ _
theorem info_word : (Tryz.prog.info? 44).map (fun i => (i.zero, i.size, i.bytes)) = some (some (.agg #[.int .i64 0, .string no, .int .i64 0]), 3, 32) := by kernel_rfl
theorem row_keep {w w' : World} {B e n m : Nat} {v : Value} {xs : List Value} (h : w.ownsRow B e n v m xs) (hb : Below w.heap.size w w') : w'.ownsRow B e n v m xs :=
  h.kept (row := none) ⟨hb.os, hb.tape, hb.output, hb.size, fun k hk _ => hb.block k hk⟩ (by cases hv : v.ownBlock <;> simp)
theorem row_slice {w : World} {B e n m : Nat} {v : Value} {xs : List Value} (h : w.ownsRow B e n v m xs) : ∃ a c, v = .slice a m c := by
  rcases h.2 with ⟨rfl, h0⟩ | ⟨g, cap, cur, rfl, _⟩
  · exact ⟨none, 0, by rw [h0]⟩
  · exact ⟨_, _, rfl⟩
theorem row_drew {w : World} {B e n m : Nat} {v : Value} {xs : List Value} (h : w.ownsRow B e n v m xs) : w.drew.ownsRow B e n v m xs := h
theorem blk_drew {w : World} {B : Nat} {vs : Array Value} {t : TypeId} (h : Blk w B vs t) : Blk w.drew B vs t := h
/-- A row is no block of another type. -/
theorem row_ne {W : World} {B e n m : Nat} {v : Value} {xs : List Value} (h : W.ownsRow B e n v m xs) {j : Nat} {vs : Array Value} {t : TypeId} (hj : Blk W j vs t) (hno : t ≠ e) : v.ownBlock ≠ some j := by
  rcases h.2 with ⟨rfl, _⟩ | ⟨g, cap, cur, rfl, _, hgb, _⟩
  · intro e'; cases e'
  · intro e'
    have : g = j := by simpa [Value.ownBlock] using e'
    subst this
    rw [show W.heap[g]? = _ from hj] at hgb
    cases hgb
    exact hno rfl
theorem row_kind {w : World} {B e n m : Nat} {v : Value} {xs : List Value} (h : w.ownsRow B e n v m xs) : ∀ g, v.ownBlock = some g → ∃ c fz, w.heap[g]? = some (.cells c e fz) := by
  intro g hg
  rcases h.2 with ⟨rfl, _⟩ | ⟨g', cap, cur, rfl, _, hgb, _⟩
  · cases hg
  · have : g' = g := by simpa [Value.ownBlock] using hg
    subst this
    exact ⟨_, _, hgb⟩
/-- The text that is being cut lies in block Bc, its words in a row of its own; what lay below is as it was in W0. -/
structure Cu (W0 w : World) (Bc : Nat) (s : ByteArray) (v : Value) (m : Mc) : Prop where
  below : Below W0.heap.size W0 w
  bc : W0.heap.size ≤ Bc
  blk : Blk w Bc #[.string s, v, .int .i64 m.st, .int .i64 m.frm, .int .i64 m.til] 72
  row : RowW w W0.heap.size v m.acc
  lay : Lay8 W0
/-- Nothing else is changed. -/
abbrev Kept (Bc : Nat) (w w' : World) : Prop := Lib.OthersKept 44 (some Bc) w w'
section
variable {W0 w w' : World} {Bc : Nat} {s : ByteArray} {v : Value} {m : Mc}
theorem Cu.keep (h : Cu W0 w Bc s v m) (hb : Below w.heap.size w w') : Cu W0 w' Bc s v m := ⟨next h.below hb, h.bc, h.blk.keep hb, row_keep h.row hb, h.lay⟩
theorem Cu.lay' (h : Cu W0 w Bc s v m) : Lay8 w := h.lay.keep h.below
theorem Cu.cells (h : Cu W0 w Bc s v m) : w.cell? ⟨Bc, 0, none⟩ = some (.string s) ∧ w.cell? ⟨Bc, 1, none⟩ = some v ∧ w.cell? ⟨Bc, 2, none⟩ = some (.int .i64 m.st) ∧ w.cell? ⟨Bc, 3, none⟩ = some (.int .i64 m.frm) ∧ w.cell? ⟨Bc, 4, none⟩ = some (.int .i64 m.til) :=
  ⟨h.blk.at' 0, h.blk.at' 1, h.blk.at' 2, h.blk.at' 3, h.blk.at' 4⟩
theorem Cu.setSt (h : Cu W0 w Bc s v m) (x : Nat) : Cu W0 (w.setCell ⟨Bc, 2, none⟩ (.int .i64 x)) Bc s v { m with st := x } :=
  ⟨h.below.setCell (p := ⟨Bc, 2, none⟩) h.bc _, h.bc, h.blk.set 2 _, h.row.kept (grown_set _ _ _ _) (.inr (row_ne h.row h.blk (by decide))), h.lay⟩
theorem Cu.setFrm (h : Cu W0 w Bc s v m) (x : Nat) : Cu W0 (w.setCell ⟨Bc, 3, none⟩ (.int .i64 x)) Bc s v { m with frm := x } :=
  ⟨h.below.setCell (p := ⟨Bc, 3, none⟩) h.bc _, h.bc, h.blk.set 3 _, h.row.kept (grown_set _ _ _ _) (.inr (row_ne h.row h.blk (by decide))), h.lay⟩
theorem Cu.setTil (h : Cu W0 w Bc s v m) (x : Nat) : Cu W0 (w.setCell ⟨Bc, 4, none⟩ (.int .i64 x)) Bc s v { m with til := x } :=
  ⟨h.below.setCell (p := ⟨Bc, 4, none⟩) h.bc _, h.bc, h.blk.set 4 _, h.row.kept (grown_set _ _ _ _) (.inr (row_ne h.row h.blk (by decide))), h.lay⟩
theorem kept_set (w : World) (Bc j : Nat) (u : Value) : Kept Bc w (w.setCell ⟨Bc, j, none⟩ u) := Lib.OthersKept.setCell (b := Bc) (Lib.OthersKept.refl _ _ w) ⟨Bc, j, none⟩ rfl u
theorem kept_below (hb : Below w.heap.size w w') : Kept Bc w w' := fun k o hk _ _ => (hb.block k (Array.getElem?_eq_some_iff.1 hk).1).trans hk
end
theorem grown_drew {w w' : World} {row : Option Nat} (h : w.drew.grownBy w' row) : w.grownBy w' row := ⟨h.os, h.tape, h.output, h.size, h.block⟩
/-- What goesOn answers, and leaves. -/
def GoesP (W0 w w' : World) (Bc : Nat) (s : ByteArray) (v : Value) (m : Mc) (o : Option Nat) (e : Ending) : Prop :=
  (o = none ∧ e = .returned (.bool false) ∧ Kept Bc w w' ∧ Cu W0 w' Bc s v m) ∨ (∃ t, o = some t ∧ e = .returned (.bool true) ∧ Kept Bc w w' ∧ Cu W0 w' Bc s v { m with st := t })
/-- goesOn: does the word go on with a rune? -/
theorem goesOn8 {W0 w : World} {Bc : Nat} {s : ByteArray} {v : Value} {m : Mc} (h : Cu W0 w Bc s v m) (i r : Nat) :
    Calls Tryz.prog 61 #[.pointer (some ⟨Bc, 0, none⟩), .int .i64 i, .int .i32 r] w fun e w' => GoesP W0 w w' Bc s v m (goesR m i r) e := by
  obtain ⟨st, frm, til, acc⟩ := m
  obtain ⟨c0, c1, c2, c3, c4⟩ := h.cells
  simp only at c0 c1 c2 c3 c4
  have f2 := h.blk.fr 2
  replace h := hide h
  have HO := isOfRun8 r
  by_cases h1 : st = 1
  · subst h1
    cases hr : runR r
    · rw [hr] at HO
      have HG : Hid (goesR ⟨1, frm, til, acc⟩ i r = none) := hide (by unfold goesR; simp [hr])
      go_enter Tryz.func61, Tryz.ntmps61
      go_wp2_with (go_at_call 89; refine (HO.out _).mono ?_; rintro e1 w3 ⟨rfl, rfl⟩)
      go_ret
      exact .inl ⟨HG.out, rfl, Lib.OthersKept.refl _ _ _, h.out⟩
    · rw [hr] at HO
      have HG : Hid (goesR ⟨1, frm, til, acc⟩ i r = some 1) := hide (by unfold goesR; simp [hr])
      go_enter Tryz.func61, Tryz.ntmps61
      go_wp2_with (go_at_call 89; refine (HO.out _).mono ?_; rintro e1 w3 ⟨rfl, rfl⟩)
      go_ret
      exact .inr ⟨_, HG.out, rfl, Lib.OthersKept.refl _ _ _, h.out⟩
  by_cases h2 : st = 2
  · subst h2
    cases hr : ((r : Int) == 34)
    · have HG : Hid (goesR ⟨2, frm, til, acc⟩ i r = some 2) := hide (by unfold goesR; simp at hr ⊢; omega)
      go_enter Tryz.func61, Tryz.ntmps61
      go_wp2_with fail
      go_ret
      exact .inr ⟨_, HG.out, rfl, Lib.OthersKept.refl _ _ _, h.out⟩
    · have HG : Hid (goesR ⟨2, frm, til, acc⟩ i r = some 3) := hide (by unfold goesR; simp at hr ⊢; omega)
      go_enter Tryz.func61, Tryz.ntmps61
      go_wp2_with fail
      go_ret
      exact .inr ⟨_, HG.out, rfl, kept_set _ _ _ _, h.out.setSt 3⟩
  by_cases h3 : st = 3
  · subst h3
    cases hr : ((r : Int) == 34)
    · have HG : Hid (goesR ⟨3, frm, til, acc⟩ i r = none) := hide (by unfold goesR; simp at hr ⊢; omega)
      go_enter Tryz.func61, Tryz.ntmps61
      go_wp2_with fail
      go_ret
      exact .inl ⟨HG.out, rfl, Lib.OthersKept.refl _ _ _, h.out⟩
    · have HG : Hid (goesR ⟨3, frm, til, acc⟩ i r = some 2) := hide (by unfold goesR; simp at hr ⊢; omega)
      go_enter Tryz.func61, Tryz.ntmps61
      go_wp2_with fail
      go_ret
      exact .inr ⟨_, HG.out, rfl, kept_set _ _ _ _, h.out.setSt 2⟩
  by_cases h4 : st = 4
  · subst h4
    by_cases hr : (i : Int) < til
    · have HG : Hid (goesR ⟨4, frm, til, acc⟩ i r = some 4) := hide (by unfold goesR; simp; omega)
      go_enter Tryz.func61, Tryz.ntmps61
      go_wp2_with fail
      go_ret
      exact .inr ⟨_, HG.out, by simp, Lib.OthersKept.refl _ _ _, h.out⟩
    · have HG : Hid (goesR ⟨4, frm, til, acc⟩ i r = none) := hide (by unfold goesR; simp; omega)
      go_enter Tryz.func61, Tryz.ntmps61
      go_wp2_with fail
      go_ret
      exact .inl ⟨HG.out, by simp, Lib.OthersKept.refl _ _ _, h.out⟩
  · have n1 : ((st : Int) == 1) = false := by rw [beq_eq_false_iff_ne]; omega
    have n2 : ((st : Int) == 2) = false := by rw [beq_eq_false_iff_ne]; omega
    have n3 : ((st : Int) == 3) = false := by rw [beq_eq_false_iff_ne]; omega
    have n4 : ((st : Int) == 4) = false := by rw [beq_eq_false_iff_ne]; omega
    have HG : Hid (goesR ⟨st, frm, til, acc⟩ i r = none) := hide (by unfold goesR; simp [h1, h2, h3, h4])
    go_enter Tryz.func61, Tryz.ntmps61
    go_wp2_with fail
    go_ret
    exact .inl ⟨HG.out, rfl, Lib.OthersKept.refl _ _ _, h.out⟩
/-- begin: a word, or none, begins with a rune. -/
theorem begin8 {W0 w : World} {Bc : Nat} {s : ByteArray} {v : Value} {m : Mc} (h : Cu W0 w Bc s v m) (i r : Nat) (hi : i < s.size) (hs : s.size ≤ 65535) :
    Calls Tryz.prog 62 #[.pointer (some ⟨Bc, 0, none⟩), .int .i64 i, .int .i32 r] w fun e w' => e = .returned (.int .i64 (beginM s.data.toList m i r).1) ∧ Kept Bc w w' ∧ Cu W0 w' Bc s v (beginM s.data.toList m i r).2 := by
  obtain ⟨st, frm, til, acc⟩ := m
  have f3 := h.blk.fr 3
  have c3 := h.cells.2.2.2.1
  simp only at c3
  have h1 := hide (h.setFrm i)
  have K1 := hide (kept_set w Bc 3 (.int .i64 i))
  obtain ⟨w1, hw1⟩ : ∃ w1, w.setCell ⟨Bc, 3, none⟩ (.int .i64 i) = w1 := ⟨_, rfl⟩
  rw [hw1] at h1 K1
  obtain ⟨d0, d1, d2, d3, d4⟩ := h1.out.cells
  simp only at d0 d1 d2 d3 d4
  have g2 := h1.out.blk.fr
  clear h
  have HB := isBlank8 r
  have HO := isOfRun8 r
  cases hb : blR r
  · rw [hb] at HB
    cases ho : runR r
    · rw [ho] at HO
      cases hq : ((r : Int) == 34)
      · have hq' : ¬ r = 34 := by simp at hq; omega
        have hs' : s.size ≤ 9223372036854775807 := by omega
        have hle : (i : Int) ≤ s.size := by omega
        obtain ⟨t, ht⟩ : ∃ t, s.extract i s.size = t := ⟨_, rfl⟩
        have htl : t.data.toList = s.data.toList.drop i := by rw [← ht, ba_ext s i s.size (Nat.le_refl _), ba_list]; unfold slc; rw [List.take_of_length_le (by rw [List.length_drop, ← Lib.size_eq]; omega)]
        have HS := hide ((speltSize8 t).out w1 h1.out.lay')
        rw [htl] at HS
        cases hf : spFind (s.data.toList.drop i) with
        | none =>
          have HN : Hid (beginM s.data.toList ⟨st, frm, til, acc⟩ i r = (21, ⟨st, i, til, acc⟩)) := hide (by unfold beginM; rw [hb, ho, if_neg (by decide), if_neg (by decide), if_neg hq', hf])
          have hz : spLen (s.data.toList.drop i) = 0 := by unfold spLen; rw [hf]
          rw [hz] at HS
          rw [HN.out]
          clear htl hf hz hq'
          go_enter Tryz.func62, Tryz.ntmps62
          go_wp2_with (first | (go_at_call 89; refine (HO.out _).mono ?_; rintro e1 w3 ⟨rfl, rfl⟩) | (go_at_call 90; refine (HB.out _).mono ?_; rintro e1 w3 ⟨rfl, rfl⟩) | (go_at_call 91; refine HS.out.mono ?_; rintro e1 w3 ⟨rfl, rfl⟩))
          go_ret
          exact ⟨rfl, K1.out, h1.out⟩
        | some p =>
          have HN : Hid (beginM s.data.toList ⟨st, frm, til, acc⟩ i r = (0, ⟨4, i, i + p.length, acc⟩)) := hide (by unfold beginM; rw [hb, ho, if_neg (by decide), if_neg (by decide), if_neg hq', hf])
          have hz : spLen (s.data.toList.drop i) = p.length := by unfold spLen; rw [hf]
          have hp := sp_facts (sp_mem hf).1
          have hp0 : ((p.length : Int) == 0) = false := by rw [beq_eq_false_iff_ne]; omega
          have hp1 : (i : Int) + p.length ≤ 9223372036854775807 := by omega
          rw [hz] at HS
          rw [HN.out]
          clear htl hf hz hq'
          generalize p.length = n at *
          have h2 := hide (h1.out.setSt 4)
          have K2 := hide (K1.out.trans (kept_set w1 Bc 2 (.int .i64 (4 : Nat))))
          have h3 := hide (h2.out.setTil (i + n))
          have K3 := hide (K2.out.trans (kept_set (w1.setCell ⟨Bc, 2, none⟩ (.int .i64 (4 : Nat))) Bc 4 (.int .i64 ((i + n : Nat) : Int))))
          go_enter Tryz.func62, Tryz.ntmps62
          go_wp2_with (first | (go_at_call 89; refine (HO.out _).mono ?_; rintro e1 w3 ⟨rfl, rfl⟩) | (go_at_call 90; refine (HB.out _).mono ?_; rintro e1 w3 ⟨rfl, rfl⟩) | (go_at_call 91; refine HS.out.mono ?_; rintro e1 w3 ⟨rfl, rfl⟩))
          go_ret
          exact ⟨rfl, K3.out, h3.out⟩
      · have hq' : r = 34 := by simp at hq; omega
        have HN : Hid (beginM s.data.toList ⟨st, frm, til, acc⟩ i r = (0, ⟨2, i, til, acc⟩)) := hide (by unfold beginM; rw [hb, ho, if_neg (by decide), if_neg (by decide), if_pos hq'])
        rw [HN.out]
        clear hq'
        have h2 := hide (h1.out.setSt 2)
        have K2 := hide (K1.out.trans (kept_set w1 Bc 2 (.int .i64 (2 : Nat))))
        go_enter Tryz.func62, Tryz.ntmps62
        go_wp2_with (first | (go_at_call 89; refine (HO.out _).mono ?_; rintro e1 w3 ⟨rfl, rfl⟩) | (go_at_call 90; refine (HB.out _).mono ?_; rintro e1 w3 ⟨rfl, rfl⟩))
        go_ret
        exact ⟨rfl, K2.out, h2.out⟩
    · rw [ho] at HO
      have HN : Hid (beginM s.data.toList ⟨st, frm, til, acc⟩ i r = (0, ⟨1, i, til, acc⟩)) := hide (by unfold beginM; rw [hb, ho, if_neg (by decide), if_pos rfl])
      rw [HN.out]
      have h2 := hide (h1.out.setSt 1)
      have K2 := hide (K1.out.trans (kept_set w1 Bc 2 (.int .i64 (1 : Nat))))
      go_enter Tryz.func62, Tryz.ntmps62
      go_wp2_with (first | (go_at_call 89; refine (HO.out _).mono ?_; rintro e1 w3 ⟨rfl, rfl⟩) | (go_at_call 90; refine (HB.out _).mono ?_; rintro e1 w3 ⟨rfl, rfl⟩))
      go_ret
      exact ⟨rfl, K2.out, h2.out⟩
  · rw [hb] at HB
    have HN : Hid (beginM s.data.toList ⟨st, frm, til, acc⟩ i r = (0, ⟨0, i, til, acc⟩)) := hide (by unfold beginM; rw [hb, if_pos rfl])
    rw [HN.out]
    have h2 := hide (h1.out.setSt 0)
    have K2 := hide (K1.out.trans (kept_set w1 Bc 2 (.int .i64 (0 : Nat))))
    go_enter Tryz.func62, Tryz.ntmps62
    go_wp2_with (go_at_call 90; refine (HB.out _).mono ?_; rintro e1 w3 ⟨rfl, rfl⟩)
    go_ret
    exact ⟨rfl, K2.out, h2.out⟩
end Go.Proofs.YtdlomdbmmhjppaaGreatDoor
