/- lex.Cut answers the words of a text, for every text. Proved of the Go text. Eq and begun: what every statement of the stage asks. Proved of the Go text. How many words a text has at most; what its faults are; two small facts of walks. A place of a row of words written anew; a word appended. -/
import Derived.Test.YtdlomdbmmhjppaaGreatDoorEnd8
namespace Go.Proofs.YtdlomdbmmhjppaaGreatDoor
open Go.RowKit Go.Sort
set_option linter.unusedVariables false

theorem ext_sz (s : ByteArray) (a b : Nat) (hb : b ≤ s.size) : (s.extract a b).size = b - a := by rw [ByteArray.size_extract]; omega
theorem inv_fit {R : List UInt8 → Bool} {s : ByteArray} {fin : Res} {i : Nat} {m : Mc} (h : Inv R s fin i m) (hs : s.size ≤ 65535) : m.st ≠ 0 → Fit (s.extract m.frm i) m.st := by
  intro h0
  obtain ⟨st, frm, til, acc⟩ := m
  obtain ⟨hp, hf, hacc, hm⟩ := h
  simp only at hf hacc hm h0 ⊢
  have hz := ext_sz s frm i hp
  refine ⟨by omega, ?_⟩
  match st, hm, h0 with
  | 0, hm, h0 => exact absurd rfl h0
  | 1, hm, h0 =>
    obtain ⟨hlt, hrun, _⟩ := hm
    exact .inl ⟨rfl, by omega, by rw [ba_ext s frm i hp, ba_list]; exact hrun⟩
  | 2, hm, h0 => exact .inr (.inl rfl)
  | 3, hm, h0 => exact .inr (.inr (.inl ⟨rfl, by have := hm.1; omega⟩))
  | 4, hm, h0 => exact .inr (.inr (.inr ⟨rfl, by have := hm.1; omega⟩))
set_option maxHeartbeats 2000000 in
theorem take8 {W0 w : World} {Bc : Nat} {s : ByteArray} {v : Value} {m : Mc} {fin : Res} {i : Nat} (h : Cu W0 w Bc s v m) (hi : i < s.size) (hs : s.size ≤ 65535) (hI : Inv refL s fin i m) :
    Calls Tryz.prog 35 #[.pointer (some ⟨Bc, 0, none⟩), .int .i64 i, .int .i32 (nr s i)] w fun e w' => EndP W0 w w' Bc s (takeM refL s.data.toList m i (nr s i)) e := by
  have hfit := hide (inv_fit hI hs)
  have hfr := hide hI.2.1
  have hac : Hid (m.acc.length ≤ 65535) := hide (by have := hI.2.1; have := hI.2.2.1; omega)
  have HG := hide (goesOn8 h i (nr s i))
  generalize nr s i = r at *
  replace h := hide h
  clear hI
  go_enter Tryz.func35, Tryz.ntmps35
  go_wp2_with fail
  refine HG.out.mono ?_
  rintro e1 w2 (⟨hg, rfl, K2, h2⟩ | ⟨t, hg, rfl, K2, h2⟩)
  · have HE := hide (end8 h2 i (by omega) hs hfr.out hac.out hfit.out)
    have HT : Hid (takeM refL s.data.toList m i r = if (endM refL s.data.toList m i).1 ≠ 0 then endM refL s.data.toList m i else beginM s.data.toList (endM refL s.data.toList m i).2 i r) := hide (by unfold takeM; rw [hg])
    generalize endM refL s.data.toList m i = E at *
    replace K2 := hide K2
    clear hg h2 HG
    go_wp2_with fail
    refine HE.out.mono ?_
    rintro e1 w3 ⟨rfl, K3, v3, h3⟩
    by_cases h0 : E.1 = 0
    · have HB := hide (begin8 h3 i r hi hs)
      have hE0 : ((E.1 : Int) != 0) = false := by rw [h0]; rfl
      replace K3 := hide K3
      clear h3
      generalize hE1 : (E.1 : Int) = E1 at *
      go_wp2_with fail
      refine HB.out.mono ?_
      rintro e1 w4 ⟨rfl, K4, h4⟩
      replace K4 := hide K4
      replace h4 := hide h4
      go_wp2_with fail
      go_ret
      rw [HT.out, if_neg (by omega)]
      exact ⟨rfl, (K2.out.trans K3.out).trans K4.out, v3, h4.out⟩
    · have hE0 : ((E.1 : Int) != 0) = true := by rw [bne_iff_ne]; omega
      replace K3 := hide K3
      replace h3 := hide h3
      generalize hE1 : (E.1 : Int) = E1 at *
      go_wp2_with fail
      go_ret
      rw [HT.out, if_pos h0]
      subst hE1
      exact ⟨rfl, K2.out.trans K3.out, v3, h3.out⟩
  · replace K2 := hide K2
    replace h2 := hide h2
    have HT : Hid (takeM refL s.data.toList m i r = (0, { m with st := t })) := hide (by unfold takeM; rw [hg])
    clear hg HG
    go_wp2_with fail
    go_ret
    rw [HT.out]
    exact ⟨rfl, K2.out, v, h2.out⟩
theorem grown_iterAt (w : World) (k : Nat) (s : ByteArray) (p : Nat) : w.grownBy (w.iterAt k s p) (some k) := ⟨rfl, rfl, rfl, by rw [Lib.iterAt_size]; exact Nat.le_refl _, fun j _ hj => Lib.iterAt_other w k j s p (fun e => hj (by rw [e]))⟩
theorem Cu.iterAt {W0 w : World} {Bc k p q : Nat} {s u : ByteArray} {v : Value} {m : Mc} (h : Cu W0 w Bc s v m) (hk : w.heap[k]? = some (.stringIter u p)) (hb : W0.heap.size ≤ k) : Cu W0 (w.iterAt k u q) Bc s v m := by
  have hne : Bc ≠ k := by rintro rfl; rw [show w.heap[Bc]? = _ from h.blk] at hk; cases hk
  refine ⟨Lib.below_iterAt h.below hb _ _, h.bc, h.blk.kept (grown_iterAt w k u q) (fun e => hne (by cases e; rfl)), h.row.kept (grown_iterAt w k u q) (.inr fun e => ?_), h.lay⟩
  obtain ⟨c, fz, hc⟩ := row_kind h.row k e
  rw [hk] at hc; cases hc
theorem below_dn {B : Nat} {a w : World} (h : Below B a w) (n : Nat) : Below B a (w.drewN n) := ⟨h.os, h.tape, h.output, h.size, h.block⟩
/-- What a text is cut into. -/
def cutR (s : ByteArray) : Res := if 65535 < s.size then .bad 0 2 else cutA refL s.data.toList 0 []
/-- What Cut answers: a list that is its own, or none and the place of the error. -/
def CutP (w w' : World) (fin : Res) (e : Ending) : Prop := Below w.heap.size w w' ∧
  match fin with
  | .ok l => ∃ v, e = .returned (.tuple #[v, .int .i64 0, .int .i64 0]) ∧ RowW w' w.heap.size v l
  | .bad i x => e = .returned (.tuple #[.slice none 0 0, .int .i64 i, .int .i64 x])
set_option maxHeartbeats 4000000 in
theorem cut8 (s : ByteArray) (w : World) (hl : Lay8 w) (hmax : s.size ≤ maxLen) : Calls Tryz.prog 15 #[.string s] w fun e w' => CutP w w' (cutR s) e := by
  have hs' : s.size ≤ 9223372036854775807 := hmax
  by_cases hs : s.size ≤ 65535
  · have HR : Hid (cutR s = cutA refL s.data.toList 0 []) := hide (if_neg (by omega))
    have h0 : Cu w (w.alloc (.cells #[.string s, .slice none 0 0, .int .i64 (0 : Nat), .int .i64 (0 : Nat), .int .i64 (0 : Nat)] 72)) w.heap.size s (.slice none 0 0) ⟨0, 0, 0, []⟩ := ⟨step (Below.refl _ _) _, Nat.le_refl _, Blk.new _ _ _, RowW.nil _ _, hl⟩
    have I0 : Hid (Inv refL s (cutR s) 0 ⟨0, 0, 0, []⟩) := hide ⟨Nat.zero_le _, Nat.le_refl _, Nat.le_refl _, by rw [HR.out]; rfl⟩
    have h1 := hide (h0.keep (iter_below _ s 0))
    have hit : Hid (((w.alloc (.cells #[.string s, .slice none 0 0, .int .i64 (0 : Nat), .int .i64 (0 : Nat), .int .i64 (0 : Nat)] 72)).iter s 0).heap[w.heap.size + 1]? = some (.stringIter s 0)) := hide (by
      have := World.iter_heap (w.alloc (.cells #[.string s, .slice none 0 0, .int .i64 (0 : Nat), .int .i64 (0 : Nat), .int .i64 (0 : Nat)] 72)) s 0
      rwa [World.size_alloc] at this)
    clear h0
    generalize cutR s = fin at *
    go_enter Tryz.func15, Tryz.ntmps15
    go_wp2_with fail
    go_loopw [] (fun wr => ∃ pos m v, Hid (Inv refL s fin pos m) ∧ Hid (Cu w wr w.heap.size s v m) ∧ wr.heap[w.heap.size + 1]? = some (.stringIter s pos)) (fun wr => s.size - wr.iterPos (w.heap.size + 1))
    case atStart => exact ⟨0, _, _, I0, h1, hit.out⟩
    case round =>
      obtain ⟨pos, m, v, hI, hC, hit⟩ := hrel
      have hle : pos ≤ s.size := hI.out.1
      by_cases hp : pos < s.size
      · have hnx : ∀ ty, (Instr.next (.pointer (some ⟨w.heap.size + 1, 0, none⟩)) true ty).run Tryz.prog wr = _ := fun ty => Lib.run_next_any_at wr (w.heap.size + 1) s pos ty hit hp
        have hC1 := hide (hC.out.iterAt (q := pos + (Utf8.decode s pos).2) hit (by omega))
        have hit1 := hide (Lib.iterAt_heap wr _ s pos (pos + (Utf8.decode s pos).2) hit)
        have hwd := hide (And.intro (wd_pos s pos hp) (wd_le s pos hp))
        have hpos : Hid (wr.iterPos (w.heap.size + 1) = pos) := hide (by unfold World.iterPos; rw [hit])
        obtain ⟨w1, hw1⟩ : ∃ w1, wr.iterAt (w.heap.size + 1) s (pos + (Utf8.decode s pos).2) = w1 := ⟨_, rfl⟩
        rw [hw1] at hC1 hit1 hnx
        clear hw1 hC
        have HT := hide (take8 hC1.out hp hs hI.out)
        have HS := hide (take_step hp hI.out)
        rw [show (nr s pos) = (Utf8.decode s pos).1 from rfl] at HT HS
        rw [show wd s pos = (Utf8.decode s pos).2 from rfl] at hwd HS
        generalize takeM refL s.data.toList m pos (Utf8.decode s pos).1 = E at *
        go_wp2_with fail
        refine HT.out.mono ?_
        rintro e1 w2 ⟨rfl, K2, v2, h2⟩
        have hit2 := hide (K2 _ _ hit1.out (by simp) (fun c fz e => by cases e))
        replace h2 := hide h2
        clear K2 HT
        rcases HS.out with ⟨e0, hI2⟩ | ⟨e0, hfin⟩
        · have hE0 : ((E.1 : Int) != 0) = false := by rw [e0]; rfl
          replace hI2 := hide hI2
          clear e0
          generalize (E.1 : Int) = E1 at *
          go_wp2_with fail
          go_roundw
          case rel => exact ⟨_, _, _, hI2, h2, hit2.out⟩
          case measure =>
            have := hwd.out
            rw [hpos.out]
            have h3 : w2.iterPos (w.heap.size + 1) = pos + (Utf8.decode s pos).2 := by unfold World.iterPos; rw [hit2.out]
            rw [h3]
            omega
        · have hE0 : ((E.1 : Int) != 0) = true := by rw [bne_iff_ne]; omega
          have c3 := h2.out.cells.2.2.2.1
          have q3 := cell_regrown c3
          replace hfin := hide hfin
          clear e0
          generalize hE1 : (E.1 : Int) = E1 at *
          generalize hF1 : (E.2.frm : Int) = F1 at *
          go_wp2_with fail
          go_quiet (fail)
          go_wp2_with fail
          go_returns
          rw [hfin.out]
          subst hE1
          subst hF1
          exact ⟨below_dn h2.out.below _, rfl⟩
      · obtain rfl : pos = s.size := by omega
        have hnx : ∀ ty, (Instr.next (.pointer (some ⟨w.heap.size + 1, 0, none⟩)) true ty).run Tryz.prog wr = _ := fun ty => Lib.run_next_end_at wr (w.heap.size + 1) s s.size ty hit hp
        have HT := hide (end8 hC.out s.size (Nat.le_refl _) hs hI.out.2.1 (by have := hI.out.2.1; have := hI.out.2.2.1; omega) (inv_fit hI.out hs))
        have HS := hide (end_step hI.out (.inl rfl))
        generalize endM refL s.data.toList m s.size = E at *
        clear hC hit
        go_wp2_with fail
        refine HT.out.mono ?_
        rintro e1 w2 ⟨rfl, K2, v2, h2⟩
        replace h2 := hide h2
        clear K2 HT
        have c1 := h2.out.cells.2.1
        have c3 := h2.out.cells.2.2.2.1
        have q3 := cell_regrown c3
        rcases HS.out with ⟨e0, hI2, _⟩ | ⟨e0, hfin⟩
        · have hE0 : ((E.1 : Int) != 0) = false := by rw [e0]; rfl
          have hfin : Hid (fin = .ok E.2.acc) := hide (by rw [← hI2, drop_nil s s.size (Nat.le_refl _)]; rfl)
          clear e0 hI2
          generalize (E.1 : Int) = E1 at *
          go_wp2_with fail
          go_returns
          rw [hfin.out]
          exact ⟨h2.out.below, v2, rfl, h2.out.row⟩
        · have hE0 : ((E.1 : Int) != 0) = true := by rw [bne_iff_ne]; omega
          replace hfin := hide hfin
          clear e0
          generalize hE1 : (E.1 : Int) = E1 at *
          generalize hF1 : (E.2.frm : Int) = F1 at *
          go_wp2_with fail
          go_quiet (fail)
          go_wp2_with fail
          go_returns
          rw [hfin.out]
          subst hE1
          subst hF1
          exact ⟨below_dn h2.out.below _, rfl⟩
  · have HR : Hid (cutR s = .bad 0 2) := hide (if_pos (by omega))
    have hd : (65535 : Int) < s.size := by omega
    go_enter Tryz.func15, Tryz.ntmps15
    go_wp2_with fail
    go_returns
    rw [HR.out]
    exact ⟨Below.refl _ _, rfl⟩
end Go.Proofs.YtdlomdbmmhjppaaGreatDoor
namespace Go.Proofs.YtdlomdbmmhjppaaGreatDoor
open Go.RowKit Go.Sort
set_option linter.unusedVariables false

/-- The cells of the word at j. -/
def WdAt (w : World) (g j : Nat) (x : Wd) : Prop := w.cell? ⟨g, j * 3, none⟩ = some (.int .i64 x.kind) ∧ w.cell? ⟨g, j * 3 + 1, none⟩ = some (.string (ba x.text)) ∧ w.cell? ⟨g, j * 3 + 2, none⟩ = some (.int .i64 x.at')
theorem WdAt.keep {w w' : World} {g j : Nat} {x : Wd} (h : WdAt w g j x) (hb : Below w.heap.size w w') : WdAt w' g j x := ⟨keep1 hb h.1, keep1 hb h.2.1, keep1 hb h.2.2⟩
/-- A slice of words: empty, or with its cells. -/
def WordsIn (w : World) (a : Option Addr) (l : List Wd) : Prop := l.length ≤ 1000000 ∧ (l = [] ∨ ∃ g, a = some ⟨g, 0, none⟩ ∧ ∀ j (h : j < l.length), WdAt w g j l[j])
theorem WordsIn.keep {w w' : World} {a : Option Addr} {l : List Wd} (h : WordsIn w a l) (hb : Below w.heap.size w w') : WordsIn w' a l := ⟨h.1, by
  rcases h.2 with h | ⟨g, e, h⟩
  · exact .inl h
  · exact .inr ⟨g, e, fun j hj => (h j hj).keep hb⟩⟩
theorem row_words {w : World} {B : Nat} {v : Value} {l : List Wd} (h : RowW w B v l) (hl : l.length ≤ 1000000) : ∃ a c, v = .slice a l.length c ∧ WordsIn w a l := by
  obtain ⟨a, c, rfl⟩ := row_slice h
  refine ⟨a, c, rfl, hl, ?_⟩
  by_cases h0 : l = []
  · exact .inl h0
  right
  rcases h.2 with ⟨e, hn⟩ | ⟨g, cap, cur, e, _⟩
  · exact absurd (List.eq_nil_of_length_eq_zero hn) h0
  · have : a = some ⟨g, 0, none⟩ := by cases e; rfl
    subst this
    refine ⟨g, rfl, fun j hj => ?_⟩
    have ha : ∀ k, (⟨g, 0, none⟩ : Addr).add k = ⟨g, k, none⟩ := fun k => by unfold Addr.add; split <;> simp_all
    obtain ⟨f1, f2, f3⟩ := flatW_get l j hj
    have c1 := World.ownsRow.cells h (g := g) rfl _ _ f1
    have c2 := World.ownsRow.cells h (g := g) rfl _ _ f2
    have c3 := World.ownsRow.cells h (g := g) rfl _ _ f3
    rw [ha] at c1 c2 c3
    exact ⟨c1, c2, c3⟩
theorem cut_b1 : cutR ⟨#[116, 114, 117, 101, 32, 60, 62, 35, 78, 47, 65]⟩ = .ok [⟨5, [84, 82, 85, 69], 0⟩, ⟨7, [60, 62], 5⟩, ⟨6, [35, 78, 47, 65], 7⟩] := by kernel_rfl
theorem cut_b2 : cutR ⟨#[50, 46, 53]⟩ = .bad 1 21 := by kernel_rfl
theorem cut_b3 : cutR ⟨#[57, 50, 50, 51, 51, 55, 50, 48, 51, 54, 56, 53, 52, 55, 55, 53, 56, 48, 56]⟩ = .bad 0 12 := by kernel_rfl
end Go.Proofs.YtdlomdbmmhjppaaGreatDoor
namespace Go.Proofs.YtdlomdbmmhjppaaGreatDoor
open Go.RowKit Go.Sort
set_option linter.unusedVariables false

theorem tok_bad8 {R : List UInt8 → Bool} {l : List UInt8} {e : Nat} (h : tok R l = .bad e) : e = 12 ∨ e = 21 := by
  unfold tok runTok numTok namTok txtTok spTok at h
  repeat' split at h
  all_goals cases h
  all_goals simp
theorem cutA_len (R : List UInt8 → Bool) : ∀ (f : Nat) (l : List UInt8) (i : Nat) (acc ws : List Wd), l.length ≤ f → cutA R l i acc = .ok ws → ws.length ≤ acc.length + l.length
  | 0, l, i, acc, ws, hf, h => by
    have : l = [] := List.eq_nil_of_length_eq_zero (by omega)
    subst this
    rw [cut_end] at h; cases h; simp
  | f + 1, l, i, acc, ws, hf, h => by
    cases hl : l with
    | nil => subst hl; rw [cut_end] at h; cases h; simp
    | cons c r =>
      have hne : l ≠ [] := by rw [hl]; simp
      rw [← hl]
      have hbl := bl_len l
      by_cases hb : 0 < bl l
      · rw [cut_blank R hb] at h
        have := cutA_len R f _ _ _ _ (by rw [List.length_drop]; omega) h
        rw [List.length_drop] at this; omega
      · cases ht : tok R l with
        | bad e => rw [cut_bad R hne (by omega) ht] at h; cases h
        | ok k t n =>
          have hn := tok_len ht
          rw [cut_word R (by omega) ht] at h
          have := cutA_len R f _ _ _ _ (by rw [List.length_drop]; omega) h
          rw [List.length_drop, List.length_append] at this
          simp at this; omega
theorem cutR_len {s : ByteArray} {ws : List Wd} (h : cutR s = .ok ws) : ws.length ≤ 65535 := by
  unfold cutR at h
  split at h
  · cases h
  · have := cutA_len refL _ _ _ _ _ (Nat.le_refl _) h
    rw [← Lib.size_eq] at this
    simp at this; omega
theorem cutR_bad {s : ByteArray} {i e : Nat} (h : cutR s = .bad i e) : e = 2 ∨ e = 12 ∨ e = 21 := by
  unfold cutR at h
  split at h
  · cases h; exact .inl rfl
  · have go : ∀ (f : Nat) (l : List UInt8) (j : Nat) (acc : List Wd), l.length ≤ f → cutA refL l j acc = .bad i e → e = 12 ∨ e = 21 := by
      intro f
      induction f with
      | zero =>
        intro l j acc hf h
        have : l = [] := List.eq_nil_of_length_eq_zero (by omega)
        subst this
        rw [cut_end] at h; cases h
      | succ f ih =>
        intro l j acc hf h
        by_cases hl : l = []
        · subst hl; rw [cut_end] at h; cases h
        have hbl := bl_len l
        by_cases hb : 0 < bl l
        · rw [cut_blank refL hb] at h
          exact ih _ _ _ (by rw [List.length_drop]; omega) h
        · cases ht : tok refL l with
          | bad e' => rw [cut_bad refL hl (by omega) ht] at h; cases h; exact tok_bad8 ht
          | ok k t n =>
            have hn := tok_len ht
            rw [cut_word refL (by omega) ht] at h
            exact ih _ _ _ (by rw [List.length_drop]; omega) h
    exact .inr (go _ _ _ _ (Nat.le_refl _) h)
theorem wrap_ps (x : Int) (h0 : 0 ≤ x) (h1 : x ≤ 1000000) : IntKind.i64.wrap x = x := by unfold IntKind.wrap; simp [IntKind.signed, IntKind.bits]; omega
theorem cells_pd {w : World} {a : Addr} {v : Value} (h : w.cell? a = some v) (n : Nat) : (w.drewN n).cell? a = some v := h
end Go.Proofs.YtdlomdbmmhjppaaGreatDoor
namespace Go.Proofs.YtdlomdbmmhjppaaGreatDoor
open Go.RowKit Go.Sort
set_option linter.unusedVariables false

theorem flatW_set8 (l : List Wd) (j a : Nat) (h : j < l.length) : (flatW l).set (j * 3 + 2) (.int .i64 (a : Int)) = flatW (l.set j { l[j] with at' := a }) := by
  induction l generalizing j with
  | nil => simp at h
  | cons x l ih =>
    cases j with
    | zero => simp [flatW]
    | succ j =>
      have := ih j (by simpa using h)
      rw [flatW_cons, List.set_append, if_neg (by simp; omega)]
      rw [List.set_cons_succ, flatW_cons]
      congr 1
      rw [show (j + 1) * 3 + 2 - [Value.int IntKind.i64 (x.kind : Int), Value.string (ba x.text), Value.int IntKind.i64 (x.at' : Int)].length = j * 3 + 2 by simp; omega]
      exact this
theorem rowW_set8 {w : World} {B g cap n : Nat} {l : List Wd} (hn : n = l.length) (h : RowW w B (.slice (some ⟨g, 0, none⟩) n cap) l) (j a : Nat) (hj : j < l.length) :
    RowW (w.setCell ⟨g, j * 3 + 2, none⟩ (.int .i64 (a : Int))) B (.slice (some ⟨g, 0, none⟩) n cap) (l.set j { l[j] with at' := a }) := by
  subst hn
  have h1 := (World.ownsRow.stored h (j * 3 + 2) (.int .i64 (a : Int))).1
  rw [flatW_set8 l j a hj] at h1
  unfold RowW
  rw [List.length_set]; exact h1
theorem rowW_cells8 {w : World} {B g cap n : Nat} {l : List Wd} (hn : n = l.length) (h : RowW w B (.slice (some ⟨g, 0, none⟩) n cap) l) (j : Nat) (hj : j < l.length) : WdAt w g j l[j] := by
  subst hn
  have ha : ∀ k, (⟨g, 0, none⟩ : Addr).add k = ⟨g, k, none⟩ := fun k => by unfold Addr.add; split <;> simp_all
  obtain ⟨f1, f2, f3⟩ := flatW_get l j hj
  have c1 := World.ownsRow.cells h (g := g) rfl _ _ f1
  have c2 := World.ownsRow.cells h (g := g) rfl _ _ f2
  have c3 := World.ownsRow.cells h (g := g) rfl _ _ f3
  rw [ha] at c1 c2 c3
  exact ⟨c1, c2, c3⟩
theorem rowW_fr8 {w : World} {B g cap n : Nat} {l : List Wd} (h : RowW w B (.slice (some ⟨g, 0, none⟩) n cap) l) (k : Nat) : w.frozen? ⟨g, k, none⟩ = false := by
  rcases h.2 with ⟨h', _⟩ | ⟨g', cap', cur, h', hb, hg, _⟩
  · simp at h'
  · have : g = g' := by simpa using (Value.slice.inj h').1
    subst this
    simp [World.frozen?, hg]
theorem rowW_ge8 {w : World} {B g cap n : Nat} {l : List Wd} (h : RowW w B (.slice (some ⟨g, 0, none⟩) n cap) l) : B ≤ g ∧ g < w.heap.size ∧ n ≤ cap := by
  rcases h.2 with ⟨h', _⟩ | ⟨g', cap', cur, h', hb, hg, h1, h2⟩
  · simp at h'
  · obtain ⟨e1, e2, e3⟩ := Value.slice.inj h'
    have : g = g' := by simpa using e1
    subst this
    have hl := (Array.getElem?_eq_some_iff.1 hg).1
    refine ⟨hb, hl, ?_⟩
    omega
section
variable {w : World} {ops : Array Oper} {rest : List Oper} {o : Oper} {a : Act} {Q : Exit → Act → World → Prop} {B X : Nat} {v : Value} {l : List Wd} {y : Wd}
theorem wpList_appW8 (hg : o.guard = none) (s x : Operand) (hop : o.op = Op.call { callee := Callee.builtin Builtin.append, args := #[s, x], argTypes := #[39, 39] })
    (hs : a.eval s = v) (hx : a.eval x = .slice (some ⟨X, 0, none⟩) 1 1) (hown : RowW w B v l) (hc : w.cell? ⟨X, 0, none⟩ = some (.int .i64 y.kind) ∧ w.cell? ⟨X, 1, none⟩ = some (.string (ba y.text)) ∧ w.cell? ⟨X, 2, none⟩ = some (.int .i64 y.at')) (hl : l.length < 1000000) (hB : B ≤ w.heap.size)
    (hK : ∀ v' w', RowW w' B v' (l ++ [y]) → w.grownBy w' v.ownBlock → wpList Tryz.prog ops Q rest (a.put o.dst v') w') : wpList Tryz.prog ops Q (o :: rest) a w := by
  obtain ⟨i0, hi, hz0, hz1, hz2⟩ := info_parts info_word
  have ha : ∀ j, (⟨X, 0, none⟩ : Addr).add j = ⟨X, j, none⟩ := fun j => by unfold Addr.add; split <;> simp_all
  refine wpList_append_own _ hg s x 39 hop B 44 i0 (.agg #[.int .i64 0, .string no, .int .i64 0]) 3 32 Tryz.underlying39 hi hz0 hz1 hz2 rfl (by decide) v _ _ hs hown ⟨X, 0, none⟩ 1 1 [.int .i64 y.kind, .string (ba y.text), .int .i64 y.at'] hx rfl (fun j u hj => by
      rw [ha]
      match j, hj with
      | 0, hj => simp at hj; subst hj; exact hc.1
      | 1, hj => simp at hj; subst hj; exact hc.2.1
      | 2, hj => simp at hj; subst hj; exact hc.2.2) (fun u hu => by simp at hu; rcases hu with rfl | rfl | rfl <;> rfl) (by unfold maxLen; omega) (by omega) hB ?_
  intro v' w' h1 h2 _
  exact hK v' w' (by unfold RowW; rw [flatW_append, List.length_append]; exact h1) h2
end
/-- Words, the first j of them moved on by one byte. -/
def upW (x : Wd) : Wd := { x with at' := x.at' + 1 }
def midW (ws : List Wd) (j : Nat) : List Wd := (ws.take j).map upW ++ ws.drop j
theorem midW_0 (ws : List Wd) : midW ws 0 = ws := rfl
theorem midW_len (ws : List Wd) (j : Nat) : (midW ws j).length = ws.length := by
  unfold midW
  rw [List.length_append, List.length_map, ← List.length_append, List.take_append_drop]
theorem midW_end (ws : List Wd) : midW ws ws.length = ws.map upW := by
  unfold midW
  rw [List.take_length, List.drop_length, List.append_nil]
theorem midW_at (ws : List Wd) (j : Nat) (h : j < ws.length) (h' : j < (midW ws j).length) : (midW ws j)[j] = ws[j] := by
  have hm : min j ws.length = j := Nat.min_eq_left (Nat.le_of_lt h)
  have e : (midW ws j)[j]? = some ws[j] := by
    unfold midW
    rw [List.getElem?_append_right (by rw [List.length_map, List.length_take]; omega), List.length_map, List.length_take, hm, Nat.sub_self, List.getElem?_drop, Nat.add_zero, List.getElem?_eq_getElem h]
  rw [List.getElem?_eq_getElem h'] at e
  exact Option.some.inj e
theorem midW_set (ws : List Wd) (j : Nat) (h : j < ws.length) : (midW ws j).set j (upW ws[j]) = midW ws (j + 1) := by
  unfold midW
  rw [List.set_append, if_neg (by simp; omega)]
  have hm : min j ws.length = j := Nat.min_eq_left (Nat.le_of_lt h)
  rw [List.length_map, List.length_take, hm, Nat.sub_self, List.drop_eq_getElem_cons h, List.set_cons_zero, List.take_succ_eq_append_getElem h, List.map_append, List.append_assoc]
  rfl
theorem cutR_at {s : ByteArray} {i e : Nat} (h : cutR s = .bad i e) : i ≤ 65535 := by
  unfold cutR at h
  split at h
  · cases h; omega
  · have go : ∀ (f : Nat) (l : List UInt8) (j : Nat) (acc : List Wd), l.length ≤ f → cutA refL l j acc = .bad i e → i ≤ j + l.length := by
      intro f
      induction f with
      | zero =>
        intro l j acc hf h
        have : l = [] := List.eq_nil_of_length_eq_zero (by omega)
        subst this
        rw [cut_end] at h; cases h
      | succ f ih =>
        intro l j acc hf h
        by_cases hl : l = []
        · subst hl; rw [cut_end] at h; cases h
        have hbl := bl_len l
        by_cases hb : 0 < bl l
        · rw [cut_blank refL hb] at h
          have := ih _ _ _ (by rw [List.length_drop]; omega) h
          rw [List.length_drop] at this
          omega
        · cases ht : tok refL l with
          | bad e' => rw [cut_bad refL hl (by omega) ht] at h; cases h; omega
          | ok k t n =>
            have hn := tok_len ht
            rw [cut_word refL (by omega) ht] at h
            have := ih _ _ _ (by rw [List.length_drop]; omega) h
            rw [List.length_drop] at this
            omega
    have := go _ _ _ _ (Nat.le_refl _) h
    rw [← Lib.size_eq] at this
    omega
end Go.Proofs.YtdlomdbmmhjppaaGreatDoor
