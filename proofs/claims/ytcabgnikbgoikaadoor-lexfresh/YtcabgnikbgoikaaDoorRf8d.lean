/- What the document's text answers. Proved of the Go text. -/
import Derived.Test.YtcabgnikbgoikaaDoorOwn8
import Derived.Test.YtcabgnikbgoikaaDoorRf8c
namespace Go.Proofs.YtcabgnikbgoikaaDoor
open Go.RowKit Go.Sort
set_option linter.unusedVariables false

abbrev cells5 (k : Int) (t : ByteArray) (i n e : Int) : Array Value := #[.int .i64 k, .string t, .int .i64 i, .int .i64 n, .int .i64 e]
theorem Blk.cells5' {w : World} {b : Nat} {k i n e : Int} {t : ByteArray} {ty : TypeId} (h : Blk w b (cells5 k t i n e) ty) : w.cell? ⟨b, 0, none⟩ = some (.int .i64 k) ∧ w.cell? ⟨b, 1, none⟩ = some (.string t) ∧ w.cell? ⟨b, 2, none⟩ = some (.int .i64 i) ∧ w.cell? ⟨b, 3, none⟩ = some (.int .i64 n) ∧ w.cell? ⟨b, 4, none⟩ = some (.int .i64 e) := ⟨h.at' 0, h.at' 1, h.at' 2, h.at' 3, h.at' 4⟩
abbrev put5 (w : World) (b : Nat) (k : Int) (t : ByteArray) (i n e : Int) : World := ((((w.setCell ⟨b, 0, none⟩ (.int .i64 k)).setCell ⟨b, 1, none⟩ (.string t)).setCell ⟨b, 2, none⟩ (.int .i64 i)).setCell ⟨b, 3, none⟩ (.int .i64 n)).setCell ⟨b, 4, none⟩ (.int .i64 e)
theorem Blk.put5 {w : World} {b : Nat} {k i n e : Int} {t : ByteArray} {ty : TypeId} (h : Blk w b (cells5 k t i n e) ty) (k' : Int) (t' : ByteArray) (i' n' e' : Int) : Blk (put5 w b k' t' i' n' e') b (cells5 k' t' i' n' e') ty := ((((h.set 0 _).set 1 _).set 2 _).set 3 _).set 4 _
theorem below_put5 {B : Nat} {a w : World} {b : Nat} (h : Below B a w) (hb : B ≤ b) (k : Int) (t : ByteArray) (i n e : Int) : Below B a (put5 w b k t i n e) :=
  ((((h.setCell (p := ⟨b, 0, none⟩) hb _).setCell (p := ⟨b, 1, none⟩) hb _).setCell (p := ⟨b, 2, none⟩) hb _).setCell (p := ⟨b, 3, none⟩) hb _).setCell (p := ⟨b, 4, none⟩) hb _
set_option maxHeartbeats 4000000 in
theorem rtext8 (s : ByteArray) (i : Nat) (hs : s.size ≤ 65535) (hi : i < s.size) : CallIs 15 #[.string s, .int .i64 i] (gotOf i (txtTok (s.data.toList.drop (i + 1)))) := by
  intro w
  have hs' : s.size ≤ 9223372036854775807 := by omega
  have hi1 : (i : Int) + 1 ≤ 9223372036854775807 := by omega
  have B1 := hide (step (Below.refl w.heap.size w) (gotO 0 no 0 0 0))
  have bk1 := hide (Blk.new w (cells5 0 no 0 0 0) 37)
  obtain ⟨w1, hw1⟩ : ∃ w1, w.alloc (gotO 0 no 0 0 0) = w1 := ⟨_, rfl⟩
  rw [hw1] at B1 bk1
  go_enter Tryd.func15, Tryd.ntmps15
  go_wp2_with fail
  go_loopw [5, 6] (fun v a wr => ∃ (k : Nat) (B : List UInt8), i + 1 ≤ k ∧ k ≤ s.size ∧ a = .int .i64 k ∧ B.length ≤ k ∧ Hid (Own wr w.heap.size v B) ∧ Hid (Blk wr w.heap.size (cells5 0 no 0 0 0) 37) ∧ Hid (Below w.heap.size w wr) ∧ Hid (txt (s.data.toList.drop (i + 1)) = (txt (s.data.toList.drop k)).map (fun p => (B ++ p.1, p.2 + (k - (i + 1)))))) (fun _ a _ => s.size - (intOf a).toNat)
  case atStart => exact ⟨i + 1, [], Nat.le_refl _, by omega, by go_num, Nat.zero_le _, hide (Own.nil _ _), bk1, B1, hide (by simp only [Nat.sub_self, Nat.add_zero, List.nil_append]; cases txt (s.data.toList.drop (i + 1)) <;> rfl)⟩
  case round =>
    obtain ⟨k, B, hik, hk, rfl, hBl, hO, hbk, hB, hT⟩ := hrel
    obtain ⟨av, cv, rfl⟩ := hO.out.slice
    have hk1 : (k : Int) + 1 ≤ 9223372036854775807 := by omega
    have hBs := hide hB.out.size
    by_cases hlt : k < s.size
    · have hki : (k : Int) < s.size := by omega
      have hcons := hide (drop_cons s k hlt)
      have e34 : ((s[k].toNat : Int) == 34) = (s[k] == 34) := eq_c s[k] 34 (by decide)
      have n34 : ((s[k].toNat : Int) != 34) = !(s[k] == 34) := by rw [bne, e34]
      cases h34 : (s[k] == 34)
      · rw [h34] at n34
        have hc34 : s[k] ≠ 34 := by simpa using h34
        have hT2 : Hid (txt (s.data.toList.drop (i + 1)) = (txt (s.data.toList.drop (k + 1))).map (fun p => ((B ++ [s[k]]) ++ p.1, p.2 + (k + 1 - (i + 1))))) := hide (by
          have h5 := txt_skip [s[k]] (s.data.toList.drop (k + 1)) (by simpa using hc34)
          rw [hT.out, hcons.out, show s[k] :: s.data.toList.drop (k + 1) = [s[k]] ++ s.data.toList.drop (k + 1) from rfl, h5]
          cases txt (s.data.toList.drop (k + 1)) with
          | none => rfl
          | some q => simp; omega)
        have hO1 := hide (hO.out.keep (step (Below.refl _ _) (.cells #[.int .u8 (s[k].toNat : Int)] 5)))
        have hbk1 := hide (hbk.out.keep (step (Below.refl _ _) (.cells #[.int .u8 (s[k].toNat : Int)] 5)))
        have hB1 := hide (step hB.out (.cells #[.int .u8 (s[k].toNat : Int)] 5))
        have hc1 : (wr.alloc (.cells #[.int .u8 (s[k].toNat : Int)] 5)).cell? ⟨wr.heap.size, 0, none⟩ = some (.int .u8 ((s[k] : UInt8).toNat : Int)) := (Blk.new wr _ _).at' 0
        have hlB := hide hBl
        go_wp2_with (at_builtin; refine wpList_appB rfl _ _ rfl rfl rfl hO1.out hc1 (by have := hlB.out; omega) (by have := hBs.out; simp; omega) ?_)
        intro v3 w3 hO3 hg3
        have hbk3 := hide (hbk1.out.kept hg3 (fun e => row_ne hO1.out hbk1.out (by decide) e.symm))
        have hB3 := hide (hB1.out.grown hg3 hB1.out.size (fun j e => (hO1.out.lt j e).1))
        replace hO3 := hide hO3
        clear hc1 hO1 hbk1 hB1 hg3
        go_wp2_with fail
        go_roundw
        case rel => exact ⟨k + 1, B ++ [s[k]], by omega, by omega, by go_num, by simp; omega, hO3, hbk3, hB3, hT2⟩
        case measure => simp [intOf]; omega
      · rw [h34] at n34
        have hc34 : s[k] = 34 := by simpa using h34
        by_cases hl2 : k + 1 = s.size
        · have hl2' : ((k : Int) + 1 == s.size) = true := by rw [beq_iff_eq]; omega
          have htk : Hid (txt (s.data.toList.drop k) = some ([], 1)) := hide (by rw [hcons.out, hc34, drop_nil s (k + 1) (by omega)]; rfl)
          have hT3 : Hid (txt (s.data.toList.drop (i + 1)) = some (B, 1 + (k - (i + 1)))) := hide (by rw [hT.out, htk.out]; simp)
          have HN : Hid (gotOf i (txtTok (s.data.toList.drop (i + 1))) = gotV 2 (ba B) 0 ((k : Int) + 1) 0) := hide (by
            unfold txtTok; rw [hT3.out]
            exact congrArg (fun x => gotV 2 (ba B) 0 x 0) (show ((i + (1 + (k - (i + 1)) + 1) : Nat) : Int) = (k : Int) + 1 by omega))
          have hcv := hO.out.conv
          obtain ⟨c0, c1, c2, c3, c4⟩ := hbk.out.cells5'
          have cf := hbk.out.fr
          go_wp2_with fail
          obtain ⟨wz, hwz⟩ : ∃ wz, ((((wr.setCell ⟨w.heap.size, 0, none⟩ (.int .i64 2)).setCell ⟨w.heap.size, 1, none⟩ (.string (ba B))).setCell ⟨w.heap.size, 2, none⟩ (.int .i64 0)).setCell ⟨w.heap.size, 3, none⟩ (.int .i64 ((k : Int) + 1))).setCell ⟨w.heap.size, 4, none⟩ (.int .i64 0) = wz := ⟨_, rfl⟩
          have bkz : Blk wz w.heap.size (cells5 2 (ba B) 0 ((k : Int) + 1) 0) 37 := by rw [← hwz]; exact hbk.out.put5 _ _ _ _ _
          have Bz : Below w.heap.size w wz := by rw [← hwz]; exact below_put5 hB.out (Nat.le_refl _) _ _ _ _ _
          rw [hwz]
          obtain ⟨d0, d1, d2, d3, d4⟩ := bkz.cells5'
          refine bodyPost_ret (by simp [results, Tryd.results15, go_sem, d0, d1, d2, d3, d4]; try rfl) rfl ?_
          exact ⟨by rw [HN.out], Bz⟩
        · have hl2' : ((k : Int) + 1 == s.size) = false := by rw [beq_eq_false_iff_ne]; omega
          have hk2 : k + 1 < s.size := by omega
          have hcons2 := hide (drop_cons s (k + 1) hk2)
          have e35 : ((s[k + 1].toNat : Int) == 34) = (s[k + 1] == 34) := eq_c s[k + 1] 34 (by decide)
          have f34 : ((s[k + 1].toNat : Int) != 34) = !(s[k + 1] == 34) := by rw [bne, e35]
          have hi2 : (0 : Int) ≤ (k : Int) + 1 := by omega
          have hi3 : (k : Int) + 1 < s.size := by omega
          have hi4 : Hid (((k : Int) + 1).toNat = k + 1) := hide (by omega)
          cases h35 : (s[k + 1] == 34)
          · rw [h35] at f34
            have htk : Hid (txt (s.data.toList.drop k) = some ([], 1)) := hide (by rw [hcons.out, hc34, hcons2.out, txt, if_pos rfl, if_neg (by simpa using h35)])
            have hT3 : Hid (txt (s.data.toList.drop (i + 1)) = some (B, 1 + (k - (i + 1)))) := hide (by rw [hT.out, htk.out]; simp)
            have HN : Hid (gotOf i (txtTok (s.data.toList.drop (i + 1))) = gotV 2 (ba B) 0 ((k : Int) + 1) 0) := hide (by
              unfold txtTok; rw [hT3.out]
              exact congrArg (fun x => gotV 2 (ba B) 0 x 0) (show ((i + (1 + (k - (i + 1)) + 1) : Nat) : Int) = (k : Int) + 1 by omega))
            have hcv := hO.out.conv
            obtain ⟨c0, c1, c2, c3, c4⟩ := hbk.out.cells5'
            have cf := hbk.out.fr
            go_wp2_with fail
            obtain ⟨wz, hwz⟩ : ∃ wz, ((((wr.setCell ⟨w.heap.size, 0, none⟩ (.int .i64 2)).setCell ⟨w.heap.size, 1, none⟩ (.string (ba B))).setCell ⟨w.heap.size, 2, none⟩ (.int .i64 0)).setCell ⟨w.heap.size, 3, none⟩ (.int .i64 ((k : Int) + 1))).setCell ⟨w.heap.size, 4, none⟩ (.int .i64 0) = wz := ⟨_, rfl⟩
            have bkz : Blk wz w.heap.size (cells5 2 (ba B) 0 ((k : Int) + 1) 0) 37 := by rw [← hwz]; exact hbk.out.put5 _ _ _ _ _
            have Bz : Below w.heap.size w wz := by rw [← hwz]; exact below_put5 hB.out (Nat.le_refl _) _ _ _ _ _
            rw [hwz]
            obtain ⟨d0, d1, d2, d3, d4⟩ := bkz.cells5'
            refine bodyPost_ret (by simp [results, Tryd.results15, go_sem, d0, d1, d2, d3, d4]; try rfl) rfl ?_
            exact ⟨by rw [HN.out], Bz⟩
          · rw [h35] at f34
            have hT2 : Hid (txt (s.data.toList.drop (i + 1)) = (txt (s.data.toList.drop (k + 2))).map (fun p => ((B ++ [34]) ++ p.1, p.2 + (k + 2 - (i + 1))))) := hide (by
              rw [hT.out, hcons.out, hc34, hcons2.out, show s[k + 1] = 34 by simpa using h35, txt, if_pos rfl, if_pos rfl]
              cases txt (s.data.toList.drop (k + 1 + 1)) with
              | none => rfl
              | some q => simp; omega)
            have hk2' : (k : Int) + 1 + 1 ≤ 9223372036854775807 := by omega
            have hO1 := hide (hO.out.keep (step (Below.refl _ _) (.cells #[.int .u8 34] 5)))
            have hbk1 := hide (hbk.out.keep (step (Below.refl _ _) (.cells #[.int .u8 34] 5)))
            have hB1 := hide (step hB.out (.cells #[.int .u8 34] 5))
            have hc1 : (wr.alloc (.cells #[.int .u8 34] 5)).cell? ⟨wr.heap.size, 0, none⟩ = some (.int .u8 ((34 : UInt8).toNat : Int)) := (Blk.new wr _ _).at' 0
            have hlB := hide hBl
            go_wp2_with (at_builtin; refine wpList_appB rfl _ _ rfl rfl rfl hO1.out hc1 (by have := hlB.out; omega) (by have := hBs.out; simp; omega) ?_)
            intro v3 w3 hO3 hg3
            have hbk3 := hide (hbk1.out.kept hg3 (fun e => row_ne hO1.out hbk1.out (by decide) e.symm))
            have hB3 := hide (hB1.out.grown hg3 hB1.out.size (fun j e => (hO1.out.lt j e).1))
            replace hO3 := hide hO3
            clear hc1 hO1 hbk1 hB1 hg3
            go_wp2_with fail
            go_roundw
            case rel => exact ⟨k + 2, B ++ [34], by omega, by omega, by go_num, by simp; omega, hO3, hbk3, hB3, hT2⟩
            case measure => simp [intOf]; omega
    · have hki : ¬ (k : Int) < s.size := by omega
      have HN : Hid (gotOf i (txtTok (s.data.toList.drop (i + 1))) = gotV 0 no 0 0 21) := hide (by
        unfold txtTok; rw [hT.out, drop_nil s k (by omega)]; rfl)
      obtain ⟨c0, c1, c2, c3, c4⟩ := hbk.out.cells5'
      have cf := hbk.out.fr
      go_wp2_with fail
      obtain ⟨wz, hwz⟩ : ∃ wz, ((((wr.setCell ⟨w.heap.size, 0, none⟩ (.int .i64 0)).setCell ⟨w.heap.size, 1, none⟩ (.string no)).setCell ⟨w.heap.size, 2, none⟩ (.int .i64 0)).setCell ⟨w.heap.size, 3, none⟩ (.int .i64 0)).setCell ⟨w.heap.size, 4, none⟩ (.int .i64 21) = wz := ⟨_, rfl⟩
      have bkz : Blk wz w.heap.size (cells5 0 no 0 0 21) 37 := by rw [← hwz]; exact hbk.out.put5 _ _ _ _ _
      have Bz : Below w.heap.size w wz := by rw [← hwz]; exact below_put5 hB.out (Nat.le_refl _) _ _ _ _ _
      rw [hwz]
      obtain ⟨d0, d1, d2, d3, d4⟩ := bkz.cells5'
      refine bodyPost_ret (by simp [results, Tryd.results15, go_sem, d0, d1, d2, d3, d4]; try rfl) rfl ?_
      exact ⟨by rw [HN.out], Bz⟩
end Go.Proofs.YtcabgnikbgoikaaDoor
