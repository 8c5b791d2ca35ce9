/- lex.Cut answers the words of a text, for every text. Proved of the Go text. -/
import Derived.Test.YtcabgnikbgoikaaDoorEnd8
namespace Go.Proofs.YtcabgnikbgoikaaDoor
open Go.RowKit Go.Sort
set_option linter.unusedVariables false

theorem ext_sz (s : ByteArray) (a b : Nat) (hb : b ≤ s.size) : (s.extract a b).size = b - a := by rw [ByteArray.size_extract]; omega
theorem inv_fit {R : List UInt8 → Bool} {s : ByteArray} {fin : Res} {i : Nat} {m : Mc} (h : Inv R s fin i m) (hs : s.size ≤ 65535) : m.st ≠ 0 → Fit (s.extract m.frm i) m.st := by
  intro h0
  obtain ⟨st, frm, til, acc⟩ := m
  obtain ⟨hp, hf, hacc, hm⟩ := h
  simp only at hf hacc hm h0 ⊢
  have hz := ext_sz s frm i hp
  refine ⟨by omega, ?_⟩
  match st, hm, h0 with
  | 0, hm, h0 => exact absurd rfl h0
  | 1, hm, h0 =>
    obtain ⟨hlt, hrun, _⟩ := hm
    exact .inl ⟨rfl, by omega, by rw [ba_ext s frm i hp, ba_list]; exact hrun⟩
  | 2, hm, h0 => exact .inr (.inl rfl)
  | 3, hm, h0 => exact .inr (.inr (.inl ⟨rfl, by have := hm.1; omega⟩))
  | 4, hm, h0 => exact .inr (.inr (.inr ⟨rfl, by have := hm.1; omega⟩))
set_option maxHeartbeats 2000000 in
theorem take8 {W0 w : World} {Bc : Nat} {s : ByteArray} {v : Value} {m : Mc} {fin : Res} {i : Nat} (h : Cu W0 w Bc s v m) (hi : i < s.size) (hs : s.size ≤ 65535) (hI : Inv refL s fin i m) :
    Calls Tryd.prog 11 #[.pointer (some ⟨Bc, 0, none⟩), .int .i64 i, .int .i32 (nr s i)] w fun e w' => EndP W0 w w' Bc s (takeM refL s.data.toList m i (nr s i)) e := by
  have hfit := hide (inv_fit hI hs)
  have hfr := hide hI.2.1
  have hac : Hid (m.acc.length ≤ 65535) := hide (by have := hI.2.1; have := hI.2.2.1; omega)
  have HG := hide (goesOn8 h i (nr s i))
  generalize nr s i = r at *
  replace h := hide h
  clear hI
  go_enter Tryd.func11, Tryd.ntmps11
  go_wp2_with fail
  refine HG.out.mono ?_
  rintro e1 w2 (⟨hg, rfl, K2, h2⟩ | ⟨t, hg, rfl, K2, h2⟩)
  · have HE := hide (end8 h2 i (by omega) hs hfr.out hac.out hfit.out)
    have HT : Hid (takeM refL s.data.toList m i r = if (endM refL s.data.toList m i).1 ≠ 0 then endM refL s.data.toList m i else beginM s.data.toList (endM refL s.data.toList m i).2 i r) := hide (by unfold takeM; rw [hg])
    generalize endM refL s.data.toList m i = E at *
    replace K2 := hide K2
    clear hg h2 HG
    go_wp2_with fail
    refine HE.out.mono ?_
    rintro e1 w3 ⟨rfl, K3, v3, h3⟩
    by_cases h0 : E.1 = 0
    · have HB := hide (begin8 h3 i r hi hs)
      have hE0 : ((E.1 : Int) != 0) = false := by rw [h0]; rfl
      replace K3 := hide K3
      clear h3
      generalize hE1 : (E.1 : Int) = E1 at *
      go_wp2_with fail
      refine HB.out.mono ?_
      rintro e1 w4 ⟨rfl, K4, h4⟩
      replace K4 := hide K4
      replace h4 := hide h4
      go_wp2_with fail
      go_ret
      rw [HT.out, if_neg (by omega)]
      exact ⟨rfl, (K2.out.trans K3.out).trans K4.out, v3, h4.out⟩
    · have hE0 : ((E.1 : Int) != 0) = true := by rw [bne_iff_ne]; omega
      replace K3 := hide K3
      replace h3 := hide h3
      generalize hE1 : (E.1 : Int) = E1 at *
      go_wp2_with fail
      go_ret
      rw [HT.out, if_pos h0]
      subst hE1
      exact ⟨rfl, K2.out.trans K3.out, v3, h3.out⟩
  · replace K2 := hide K2
    replace h2 := hide h2
    have HT : Hid (takeM refL s.data.toList m i r = (0, { m with st := t })) := hide (by unfold takeM; rw [hg])
    clear hg HG
    go_wp2_with fail
    go_ret
    rw [HT.out]
    exact ⟨rfl, K2.out, v, h2.out⟩
theorem grown_iterAt (w : World) (k : Nat) (s : ByteArray) (p : Nat) : w.grownBy (w.iterAt k s p) (some k) := ⟨rfl, rfl, rfl, by rw [Lib.iterAt_size]; exact Nat.le_refl _, fun j _ hj => Lib.iterAt_other w k j s p (fun e => hj (by rw [e]))⟩
theorem Cu.iterAt {W0 w : World} {Bc k p q : Nat} {s u : ByteArray} {v : Value} {m : Mc} (h : Cu W0 w Bc s v m) (hk : w.heap[k]? = some (.stringIter u p)) (hb : W0.heap.size ≤ k) : Cu W0 (w.iterAt k u q) Bc s v m := by
  have hne : Bc ≠ k := by rintro rfl; rw [show w.heap[Bc]? = _ from h.blk] at hk; cases hk
  refine ⟨Lib.below_iterAt h.below hb _ _, h.bc, h.blk.kept (grown_iterAt w k u q) (fun e => hne (by cases e; rfl)), h.row.kept (grown_iterAt w k u q) (.inr fun e => ?_), h.lay⟩
  obtain ⟨c, fz, hc⟩ := row_kind h.row k e
  rw [hk] at hc; cases hc
theorem below_dn {B : Nat} {a w : World} (h : Below B a w) (n : Nat) : Below B a (w.drewN n) := ⟨h.os, h.tape, h.output, h.size, h.block⟩
/-- What a text is cut into. -/
def cutR (s : ByteArray) : Res := if 65535 < s.size then .bad 0 2 else cutA refL s.data.toList 0 []
/-- What Cut answers: a list that is its own, or none and the place of the error. -/
def CutP (w w' : World) (fin : Res) (e : Ending) : Prop := Below w.heap.size w w' ∧
  match fin with
  | .ok l => ∃ v, e = .returned (.tuple #[v, .int .i64 0, .int .i64 0]) ∧ RowW w' w.heap.size v l
  | .bad i x => e = .returned (.tuple #[.slice none 0 0, .int .i64 i, .int .i64 x])
set_option maxHeartbeats 4000000 in
theorem cut8 (s : ByteArray) (w : World) (hl : Lay8 w) (hmax : s.size ≤ maxLen) : Calls Tryd.prog 6 #[.string s] w fun e w' => CutP w w' (cutR s) e := by
  have hs' : s.size ≤ 9223372036854775807 := hmax
  by_cases hs : s.size ≤ 65535
  · have HR : Hid (cutR s = cutA refL s.data.toList 0 []) := hide (if_neg (by omega))
    have h0 : Cu w (w.alloc (.cells #[.string s, .slice none 0 0, .int .i64 (0 : Nat), .int .i64 (0 : Nat), .int .i64 (0 : Nat)] 41)) w.heap.size s (.slice none 0 0) ⟨0, 0, 0, []⟩ := ⟨step (Below.refl _ _) _, Nat.le_refl _, Blk.new _ _ _, RowW.nil _ _, hl⟩
    have I0 : Hid (Inv refL s (cutR s) 0 ⟨0, 0, 0, []⟩) := hide ⟨Nat.zero_le _, Nat.le_refl _, Nat.le_refl _, by rw [HR.out]; rfl⟩
    have h1 := hide (h0.keep (iter_below _ s 0))
    have hit : Hid (((w.alloc (.cells #[.string s, .slice none 0 0, .int .i64 (0 : Nat), .int .i64 (0 : Nat), .int .i64 (0 : Nat)] 41)).iter s 0).heap[w.heap.size + 1]? = some (.stringIter s 0)) := hide (by
      have := World.iter_heap (w.alloc (.cells #[.string s, .slice none 0 0, .int .i64 (0 : Nat), .int .i64 (0 : Nat), .int .i64 (0 : Nat)] 41)) s 0
      rwa [World.size_alloc] at this)
    clear h0
    generalize cutR s = fin at *
    go_enter Tryd.func6, Tryd.ntmps6
    go_wp2_with fail
    go_loopw [] (fun wr => ∃ pos m v, Hid (Inv refL s fin pos m) ∧ Hid (Cu w wr w.heap.size s v m) ∧ wr.heap[w.heap.size + 1]? = some (.stringIter s pos)) (fun wr => s.size - wr.iterPos (w.heap.size + 1))
    case atStart => exact ⟨0, _, _, I0, h1, hit.out⟩
    case round =>
      obtain ⟨pos, m, v, hI, hC, hit⟩ := hrel
      have hle : pos ≤ s.size := hI.out.1
      by_cases hp : pos < s.size
      · have hnx : ∀ ty, (Instr.next (.pointer (some ⟨w.heap.size + 1, 0, none⟩)) true ty).run Tryd.prog wr = _ := fun ty => Lib.run_next_any_at wr (w.heap.size + 1) s pos ty hit hp
        have hC1 := hide (hC.out.iterAt (q := pos + (Utf8.decode s pos).2) hit (by omega))
        have hit1 := hide (Lib.iterAt_heap wr _ s pos (pos + (Utf8.decode s pos).2) hit)
        have hwd := hide (And.intro (wd_pos s pos hp) (wd_le s pos hp))
        have hpos : Hid (wr.iterPos (w.heap.size + 1) = pos) := hide (by unfold World.iterPos; rw [hit])
        obtain ⟨w1, hw1⟩ : ∃ w1, wr.iterAt (w.heap.size + 1) s (pos + (Utf8.decode s pos).2) = w1 := ⟨_, rfl⟩
        rw [hw1] at hC1 hit1 hnx
        clear hw1 hC
        have HT := hide (take8 hC1.out hp hs hI.out)
        have HS := hide (take_step hp hI.out)
        rw [show (nr s pos) = (Utf8.decode s pos).1 from rfl] at HT HS
        rw [show wd s pos = (Utf8.decode s pos).2 from rfl] at hwd HS
        generalize takeM refL s.data.toList m pos (Utf8.decode s pos).1 = E at *
        go_wp2_with fail
        refine HT.out.mono ?_
        rintro e1 w2 ⟨rfl, K2, v2, h2⟩
        have hit2 := hide (K2 _ _ hit1.out (by simp) (fun c fz e => by cases e))
        replace h2 := hide h2
        clear K2 HT
        rcases HS.out with ⟨e0, hI2⟩ | ⟨e0, hfin⟩
        · have hE0 : ((E.1 : Int) != 0) = false := by rw [e0]; rfl
          replace hI2 := hide hI2
          clear e0
          generalize (E.1 : Int) = E1 at *
          go_wp2_with fail
          go_roundw
          case rel => exact ⟨_, _, _, hI2, h2, hit2.out⟩
          case measure =>
            have := hwd.out
            rw [hpos.out]
            have h3 : w2.iterPos (w.heap.size + 1) = pos + (Utf8.decode s pos).2 := by unfold World.iterPos; rw [hit2.out]
            rw [h3]
            omega
        · have hE0 : ((E.1 : Int) != 0) = true := by rw [bne_iff_ne]; omega
          have c3 := h2.out.cells.2.2.2.1
          have q3 := cell_regrown c3
          replace hfin := hide hfin
          clear e0
          generalize hE1 : (E.1 : Int) = E1 at *
          generalize hF1 : (E.2.frm : Int) = F1 at *
          go_wp2_with fail
          go_quiet (fail)
          go_wp2_with fail
          go_returns
          rw [hfin.out]
          subst hE1
          subst hF1
          exact ⟨below_dn h2.out.below _, rfl⟩
      · obtain rfl : pos = s.size := by omega
        have hnx : ∀ ty, (Instr.next (.pointer (some ⟨w.heap.size + 1, 0, none⟩)) true ty).run Tryd.prog wr = _ := fun ty => Lib.run_next_end_at wr (w.heap.size + 1) s s.size ty hit hp
        have HT := hide (end8 hC.out s.size (Nat.le_refl _) hs hI.out.2.1 (by have := hI.out.2.1; have := hI.out.2.2.1; omega) (inv_fit hI.out hs))
        have HS := hide (end_step hI.out (.inl rfl))
        generalize endM refL s.data.toList m s.size = E at *
        clear hC hit
        go_wp2_with fail
        refine HT.out.mono ?_
        rintro e1 w2 ⟨rfl, K2, v2, h2⟩
        replace h2 := hide h2
        clear K2 HT
        have c1 := h2.out.cells.2.1
        have c3 := h2.out.cells.2.2.2.1
        have q3 := cell_regrown c3
        rcases HS.out with ⟨e0, hI2, _⟩ | ⟨e0, hfin⟩
        · have hE0 : ((E.1 : Int) != 0) = false := by rw [e0]; rfl
          have hfin : Hid (fin = .ok E.2.acc) := hide (by rw [← hI2, drop_nil s s.size (Nat.le_refl _)]; rfl)
          clear e0 hI2
          generalize (E.1 : Int) = E1 at *
          go_wp2_with fail
          go_returns
          rw [hfin.out]
          exact ⟨h2.out.below, v2, rfl, h2.out.row⟩
        · have hE0 : ((E.1 : Int) != 0) = true := by rw [bne_iff_ne]; omega
          replace hfin := hide hfin
          clear e0
          generalize hE1 : (E.1 : Int) = E1 at *
          generalize hF1 : (E.2.frm : Int) = F1 at *
          go_wp2_with fail
          go_quiet (fail)
          go_wp2_with fail
          go_returns
          rw [hfin.out]
          subst hE1
          subst hF1
          exact ⟨below_dn h2.out.below _, rfl⟩
  · have HR : Hid (cutR s = .bad 0 2) := hide (if_pos (by omega))
    have hd : (65535 : Int) < s.size := by omega
    go_enter Tryd.func6, Tryd.ntmps6
    go_wp2_with fail
    go_returns
    rw [HR.out]
    exact ⟨Below.refl _ _, rfl⟩
end Go.Proofs.YtcabgnikbgoikaaDoor
