/- What the document's named answers. Proved of the Go text. -/
import Derived.Test.YtcabgnikbgoikaaDoorSpM8
import Derived.Test.YtcabgnikbgoikaaDoorRf8b
import Derived.Test.YtcabgnikbgoikaaDoorR2Read
namespace Go.Proofs.YtcabgnikbgoikaaDoor
open Go.RowKit Go.Sort
set_option linter.unusedVariables false

theorem calls_at (s : ByteArray) (j : Nat) (h : j < s.size) : callsL (s.data.toList.drop j) = (s[j] == 40) := by
  unfold callsL Lib.hasPrefix
  rw [drop_cons s j h]
  simp [List.isPrefixOf]
  rw [Bool.eq_iff_iff]; simp; exact eq_comm
theorem calls_end (s : ByteArray) (j : Nat) (h : s.size ≤ j) : callsL (s.data.toList.drop j) = false := by rw [drop_nil s j h]; rfl
theorem got_form (i : Nat) (T : Tok) : ∃ (k n e : Int) (t : ByteArray), gotOf i T = gotV k t 0 n e := by
  cases T with
  | bad e => exact ⟨0, 0, e, no, rfl⟩
  | ok k t n => exact ⟨k, _, 0, ba t, rfl⟩
set_option maxHeartbeats 8000000 in
theorem rnamed8 (s : ByteArray) (i : Nat) (hs : s.size ≤ 65535) (hi : i < s.size) (hr0 : isRun s[i] = true) (hd0 : dig s[i] = false) : CallIs 17 #[.string s, .int .i64 i] (gotOf i (namTok refL (runOf (s.data.toList.drop i)) (callsL (s.data.toList.drop (i + (runOf (s.data.toList.drop i)).length))))) := by
  intro w
  have hs' : s.size ≤ 9223372036854775807 := by omega
  have HR := rrun8 s i hs (by omega)
  have hto1 : i < runE isRun s i := by rw [runE_step _ s i hi hr0]; have := runE_ge isRun s (i + 1); omega
  have hto2 := runE_le isRun s i (by omega)
  have hrl : (runOf (s.data.toList.drop i)).length = runE isRun s i - i := by rw [run_slc]; exact slc_len _ _ _ (by rw [← Lib.size_eq]; exact hto2)
  have hto3 : i + (runOf (s.data.toList.drop i)).length = runE isRun s i := by omega
  rw [hto3]
  obtain ⟨x, hx⟩ : ∃ x, s.extract i (runE isRun s i) = x := ⟨_, rfl⟩
  have hxb : x.data.toList = runOf (s.data.toList.drop i) := by rw [← hx, ba_ext s i _ hto2, ba_list, run_slc]
  have hxz : x.size = runE isRun s i - i := by rw [Lib.size_eq, hxb, hrl]
  have hx0 : 0 < x.size := by omega
  have hxh : x[0] = s[i] := by
    have h1 : x.data.toList[0]? = some s[i] := by rw [hxb, run_slc, slc_cons s i _ hto1 hto2]; rfl
    rw [List.getElem?_eq_getElem (by rw [← Lib.size_eq]; exact hx0)] at h1
    exact Option.some.inj h1
  rw [← hxb]
  generalize runE isRun s i = tt0 at *
  have HC := rcapitals8 x (by omega)
  have HNm := rname8 x (by omega) hx0
  have hnm : Hid ((plainN x.data.toList && isL x[0]) = plainN x.data.toList) := hide (by
    cases hp : plainN x.data.toList
    · rfl
    · unfold plainN at hp
      rw [List.all_eq_true] at hp
      have := hp x[0] (by rw [show x[0] = x.data.toList[0]'(by rw [← Lib.size_eq]; exact hx0) from rfl]; exact List.getElem_mem _)
      rw [hxh, hd0, Bool.or_false] at this
      rw [hxh, this]; rfl)
  rw [hnm.out] at HNm
  have HRf := hide (fun w => refR_any x w (by unfold maxLen; omega))
  have hRL : Hid (refL x.data.toList = ((rN x : Int) == x.size)) := hide (by unfold refL; show decide (rN x = x.size) = _; rw [Bool.eq_iff_iff]; simp; omega)
  generalize rN x = n at *
  generalize rE x = e at *
  generalize rR x = r at *
  generalize rC x = c at *
  generalize rP x = pp at *
  generalize rQ x = qq at *
  obtain ⟨t, ht⟩ : ∃ t, ba (upp x.data.toList) = t := ⟨_, rfl⟩
  have htl : Hid (t.toList = upp x.data.toList) := hide (by rw [← ht, ByteArray.toList_eq, ba_list])
  rw [ht] at HC
  have htb := hide ht
  clear ht
  have hlen : Hid (i + x.data.toList.length = tt0) := hide (by rw [← Lib.size_eq]; omega)
  have hN5 : Hid (∀ k tt, gotOf i (.ok k tt x.data.toList.length) = gotV k (ba tt) 0 tt0 0) := hide (fun k tt => by show gotV k (ba tt) 0 ((i + x.data.toList.length : Nat) : Int) 0 = _; rw [hlen.out])
  have j1 : (i : Int) ≤ tt0 := by omega
  have j2 : (tt0 : Int) ≤ s.size := by omega
  have jz : x.size ≤ 9223372036854775807 := by omega
  clear hxb hxh hnm hrl hto3 hto1 hr0 hd0
  replace hxz := hide hxz
  have bk := hide (Blk.new w (cells5 0 no 0 0 0) 37)
  have B1 := hide (step (Below.refl w.heap.size w) (gotO 0 no 0 0 0))
  by_cases ht1 : tt0 < s.size
  · have ht1' : (tt0 : Int) < s.size := by omega
    have hca := hide (calls_at s tt0 ht1)
    have e40 : ((s[tt0].toNat : Int) == 40) = (s[tt0] == 40) := eq_c s[tt0] 40 (by decide)
    cases h40 : (s[tt0] == 40)
    · rw [h40] at e40
      have hcl : Hid (callsL (s.data.toList.drop tt0) = false) := hide (by rw [hca.out, h40])
      clear h40
      cases h1 : (t.toList == [84, 82, 85, 69])
      · cases h2 : (t.toList == [70, 65, 76, 83, 69])
        · have hno : Hid ((upp x.data.toList == truL || upp x.data.toList == falL) = false) := hide (by rw [← htl.out]; unfold truL falL; rw [h1, h2]; rfl)
          have n1 : ¬ t.toList = [84, 82, 85, 69] := by simpa using h1
          have n2 : ¬ t.toList = [70, 65, 76, 83, 69] := by simpa using h2
          cases hf : ((n : Int) == x.size)
          · have HN : Hid (gotOf i (namTok refL x.data.toList (callsL (s.data.toList.drop tt0))) = gotV 0 no 0 0 21) := hide (by unfold namTok; rw [hcl.out, hno.out, hRL.out, hf]; rfl)
            go_enter Tryd.func17, Tryd.ntmps17
            go_wp2_with (go_at_call 23; refine (HR.out _).mono ?_; rintro e1 w1 ⟨rfl, rfl⟩)
            refine (HC.out _).mono ?_
            rintro e1 w2 ⟨rfl, hb⟩
            have bk2 := hide (bk.out.keep hb)
            have B2 := hide (next B1.out hb)
            obtain ⟨b0, b1, b2, b3, b4⟩ := bk2.out.cells5'
            have bf := bk2.out.fr
            clear hb
            go_wp2_with fail
            refine (HRf.out _).mono ?_
            rintro e1 w4 ⟨rfl, hb4⟩
            have hb5 : Below w4.heap.size w4 (w4.alloc (.cells #[.int .i64 r, .int .i64 c, .bool pp, .bool qq] 55)) := step (Below.refl _ _) _
            replace bk2 := hide (bk2.out.keep hb4)
            replace B2 := hide (next B2.out hb4)
            clear b0 b1 b2 b3 b4 bf
            replace bk2 := hide (bk2.out.keep hb5)
            replace B2 := hide (next B2.out hb5)
            obtain ⟨b0, b1, b2, b3, b4⟩ := bk2.out.cells5'
            have bf := bk2.out.fr
            clear hb5 hb4
            go_wp2_with fail
            obtain ⟨wz, hwz⟩ : ∃ wz, (((((w4.alloc (.cells #[.int .i64 r, .int .i64 c, .bool pp, .bool qq] 55)).setCell ⟨w.heap.size, 0, none⟩ (.int .i64 0)).setCell ⟨w.heap.size, 1, none⟩ (.string no)).setCell ⟨w.heap.size, 2, none⟩ (.int .i64 0)).setCell ⟨w.heap.size, 3, none⟩ (.int .i64 0)).setCell ⟨w.heap.size, 4, none⟩ (.int .i64 21) = wz := ⟨_, rfl⟩
            have bkz : Blk wz w.heap.size (cells5 0 no 0 0 21) 37 := by rw [← hwz]; exact bk2.out.put5 _ _ _ _ _
            have Bz : Below w.heap.size w wz := by rw [← hwz]; exact below_put5 B2.out (Nat.le_refl _) _ _ _ _ _
            rw [hwz]
            obtain ⟨d0, d1, d2, d3, d4⟩ := bkz.cells5'
            refine bodyPost_ret (by simp [results, Tryd.results17, go_sem, d0, d1, d2, d3, d4]; try rfl) rfl ?_
            exact ⟨by rw [HN.out], Bz⟩
          · have HN : Hid (gotOf i (namTok refL x.data.toList (callsL (s.data.toList.drop tt0))) = gotV 3 x 0 tt0 0) := hide (by unfold namTok; rw [hcl.out, hno.out, hRL.out, hf]; simp only [Bool.not_false, Bool.and_false, Bool.false_and, Bool.false_eq_true, if_false, if_true]; exact hN5.out 3 _)
            go_enter Tryd.func17, Tryd.ntmps17
            go_wp2_with (go_at_call 23; refine (HR.out _).mono ?_; rintro e1 w1 ⟨rfl, rfl⟩)
            refine (HC.out _).mono ?_
            rintro e1 w2 ⟨rfl, hb⟩
            have bk2 := hide (bk.out.keep hb)
            have B2 := hide (next B1.out hb)
            obtain ⟨b0, b1, b2, b3, b4⟩ := bk2.out.cells5'
            have bf := bk2.out.fr
            clear hb
            go_wp2_with fail
            refine (HRf.out _).mono ?_
            rintro e1 w4 ⟨rfl, hb4⟩
            have hb5 : Below w4.heap.size w4 (w4.alloc (.cells #[.int .i64 r, .int .i64 c, .bool pp, .bool qq] 55)) := step (Below.refl _ _) _
            replace bk2 := hide (bk2.out.keep hb4)
            replace B2 := hide (next B2.out hb4)
            clear b0 b1 b2 b3 b4 bf
            replace bk2 := hide (bk2.out.keep hb5)
            replace B2 := hide (next B2.out hb5)
            obtain ⟨b0, b1, b2, b3, b4⟩ := bk2.out.cells5'
            have bf := bk2.out.fr
            clear hb5 hb4
            go_wp2_with fail
            obtain ⟨wz, hwz⟩ : ∃ wz, (((((w4.alloc (.cells #[.int .i64 r, .int .i64 c, .bool pp, .bool qq] 55)).setCell ⟨w.heap.size, 0, none⟩ (.int .i64 3)).setCell ⟨w.heap.size, 1, none⟩ (.string x)).setCell ⟨w.heap.size, 2, none⟩ (.int .i64 0)).setCell ⟨w.heap.size, 3, none⟩ (.int .i64 tt0)).setCell ⟨w.heap.size, 4, none⟩ (.int .i64 0) = wz := ⟨_, rfl⟩
            have bkz : Blk wz w.heap.size (cells5 3 x 0 tt0 0) 37 := by rw [← hwz]; exact bk2.out.put5 _ _ _ _ _
            have Bz : Below w.heap.size w wz := by rw [← hwz]; exact below_put5 B2.out (Nat.le_refl _) _ _ _ _ _
            rw [hwz]
            obtain ⟨d0, d1, d2, d3, d4⟩ := bkz.cells5'
            refine bodyPost_ret (by simp [results, Tryd.results17, go_sem, d0, d1, d2, d3, d4]; try rfl) rfl ?_
            exact ⟨by rw [HN.out], Bz⟩
        · have HN : Hid (gotOf i (namTok refL x.data.toList (callsL (s.data.toList.drop tt0))) = gotV 5 t 0 tt0 0) := hide (by
            have : namTok refL x.data.toList (callsL (s.data.toList.drop tt0)) = .ok 5 (upp x.data.toList) x.data.toList.length := by
              unfold namTok; rw [hcl.out]; unfold truL falL; rw [← htl.out, h1, h2]; rfl
            rw [this, hN5.out, htb.out]; rfl)
          have n1 : ¬ t.toList = [84, 82, 85, 69] := by simpa using h1
          have n2 : t.toList = [70, 65, 76, 83, 69] := by simpa using h2
          go_enter Tryd.func17, Tryd.ntmps17
          go_wp2_with (go_at_call 23; refine (HR.out _).mono ?_; rintro e1 w1 ⟨rfl, rfl⟩)
          refine (HC.out _).mono ?_
          rintro e1 w2 ⟨rfl, hb⟩
          have bk2 := hide (bk.out.keep hb)
          have B2 := hide (next B1.out hb)
          obtain ⟨b0, b1, b2, b3, b4⟩ := bk2.out.cells5'
          have bf := bk2.out.fr
          clear hb
          go_wp2_with fail
          obtain ⟨wz, hwz⟩ : ∃ wz, ((((w2.setCell ⟨w.heap.size, 0, none⟩ (.int .i64 5)).setCell ⟨w.heap.size, 1, none⟩ (.string t)).setCell ⟨w.heap.size, 2, none⟩ (.int .i64 0)).setCell ⟨w.heap.size, 3, none⟩ (.int .i64 tt0)).setCell ⟨w.heap.size, 4, none⟩ (.int .i64 0) = wz := ⟨_, rfl⟩
          have bkz : Blk wz w.heap.size (cells5 5 t 0 tt0 0) 37 := by rw [← hwz]; exact bk2.out.put5 _ _ _ _ _
          have Bz : Below w.heap.size w wz := by rw [← hwz]; exact below_put5 B2.out (Nat.le_refl _) _ _ _ _ _
          rw [hwz]
          obtain ⟨d0, d1, d2, d3, d4⟩ := bkz.cells5'
          refine bodyPost_ret (by simp [results, Tryd.results17, go_sem, d0, d1, d2, d3, d4]; try rfl) rfl ?_
          exact ⟨by rw [HN.out], Bz⟩
      · have HN : Hid (gotOf i (namTok refL x.data.toList (callsL (s.data.toList.drop tt0))) = gotV 5 t 0 tt0 0) := hide (by
          have : namTok refL x.data.toList (callsL (s.data.toList.drop tt0)) = .ok 5 (upp x.data.toList) x.data.toList.length := by
            unfold namTok; rw [hcl.out]; unfold truL falL; rw [← htl.out, h1]; rfl
          rw [this, hN5.out, htb.out]; rfl)
        have n1 : t.toList = [84, 82, 85, 69] := by simpa using h1
        go_enter Tryd.func17, Tryd.ntmps17
        go_wp2_with (go_at_call 23; refine (HR.out _).mono ?_; rintro e1 w1 ⟨rfl, rfl⟩)
        refine (HC.out _).mono ?_
        rintro e1 w2 ⟨rfl, hb⟩
        have bk2 := hide (bk.out.keep hb)
        have B2 := hide (next B1.out hb)
        obtain ⟨b0, b1, b2, b3, b4⟩ := bk2.out.cells5'
        have bf := bk2.out.fr
        clear hb
        go_wp2_with fail
        obtain ⟨wz, hwz⟩ : ∃ wz, ((((w2.setCell ⟨w.heap.size, 0, none⟩ (.int .i64 5)).setCell ⟨w.heap.size, 1, none⟩ (.string t)).setCell ⟨w.heap.size, 2, none⟩ (.int .i64 0)).setCell ⟨w.heap.size, 3, none⟩ (.int .i64 tt0)).setCell ⟨w.heap.size, 4, none⟩ (.int .i64 0) = wz := ⟨_, rfl⟩
        have bkz : Blk wz w.heap.size (cells5 5 t 0 tt0 0) 37 := by rw [← hwz]; exact bk2.out.put5 _ _ _ _ _
        have Bz : Below w.heap.size w wz := by rw [← hwz]; exact below_put5 B2.out (Nat.le_refl _) _ _ _ _ _
        rw [hwz]
        obtain ⟨d0, d1, d2, d3, d4⟩ := bkz.cells5'
        refine bodyPost_ret (by simp [results, Tryd.results17, go_sem, d0, d1, d2, d3, d4]; try rfl) rfl ?_
        exact ⟨by rw [HN.out], Bz⟩
    · rw [h40] at e40
      have hcl : Hid (callsL (s.data.toList.drop tt0) = true) := hide (by rw [hca.out, h40])
      clear h40
      cases hp : plainN x.data.toList
      · rw [hp] at HNm
        cases hf : ((n : Int) == x.size)
        · have HN : Hid (gotOf i (namTok refL x.data.toList (callsL (s.data.toList.drop tt0))) = gotV 0 no 0 0 21) := hide (by unfold namTok; rw [hcl.out, hp, hRL.out, hf]; rfl)
          go_enter Tryd.func17, Tryd.ntmps17
          go_wp2_with (go_at_call 23; refine (HR.out _).mono ?_; rintro e1 w1 ⟨rfl, rfl⟩)
          refine (HC.out _).mono ?_
          rintro e1 w2 ⟨rfl, hb⟩
          have bk2 := hide (bk.out.keep hb)
          have B2 := hide (next B1.out hb)
          obtain ⟨b0, b1, b2, b3, b4⟩ := bk2.out.cells5'
          have bf := bk2.out.fr
          clear hb
          go_wp2_with (go_at_call 25; refine (HNm.out _).mono ?_; rintro e1 w3 ⟨rfl, rfl⟩)
          refine (HRf.out _).mono ?_
          rintro e1 w4 ⟨rfl, hb4⟩
          have hb5 : Below w4.heap.size w4 (w4.alloc (.cells #[.int .i64 r, .int .i64 c, .bool pp, .bool qq] 55)) := step (Below.refl _ _) _
          replace bk2 := hide (bk2.out.keep hb4)
          replace B2 := hide (next B2.out hb4)
          clear b0 b1 b2 b3 b4 bf
          replace bk2 := hide (bk2.out.keep hb5)
          replace B2 := hide (next B2.out hb5)
          obtain ⟨b0, b1, b2, b3, b4⟩ := bk2.out.cells5'
          have bf := bk2.out.fr
          clear hb5 hb4
          go_wp2_with fail
          obtain ⟨wz, hwz⟩ : ∃ wz, (((((w4.alloc (.cells #[.int .i64 r, .int .i64 c, .bool pp, .bool qq] 55)).setCell ⟨w.heap.size, 0, none⟩ (.int .i64 0)).setCell ⟨w.heap.size, 1, none⟩ (.string no)).setCell ⟨w.heap.size, 2, none⟩ (.int .i64 0)).setCell ⟨w.heap.size, 3, none⟩ (.int .i64 0)).setCell ⟨w.heap.size, 4, none⟩ (.int .i64 21) = wz := ⟨_, rfl⟩
          have bkz : Blk wz w.heap.size (cells5 0 no 0 0 21) 37 := by rw [← hwz]; exact bk2.out.put5 _ _ _ _ _
          have Bz : Below w.heap.size w wz := by rw [← hwz]; exact below_put5 B2.out (Nat.le_refl _) _ _ _ _ _
          rw [hwz]
          obtain ⟨d0, d1, d2, d3, d4⟩ := bkz.cells5'
          refine bodyPost_ret (by simp [results, Tryd.results17, go_sem, d0, d1, d2, d3, d4]; try rfl) rfl ?_
          exact ⟨by rw [HN.out], Bz⟩
        · have HN : Hid (gotOf i (namTok refL x.data.toList (callsL (s.data.toList.drop tt0))) = gotV 3 x 0 tt0 0) := hide (by unfold namTok; rw [hcl.out, hp, hRL.out, hf]; simp only [Bool.not_true, Bool.and_false, Bool.false_and, Bool.false_eq_true, if_false, if_true]; exact hN5.out 3 _)
          go_enter Tryd.func17, Tryd.ntmps17
          go_wp2_with (go_at_call 23; refine (HR.out _).mono ?_; rintro e1 w1 ⟨rfl, rfl⟩)
          refine (HC.out _).mono ?_
          rintro e1 w2 ⟨rfl, hb⟩
          have bk2 := hide (bk.out.keep hb)
          have B2 := hide (next B1.out hb)
          obtain ⟨b0, b1, b2, b3, b4⟩ := bk2.out.cells5'
          have bf := bk2.out.fr
          clear hb
          go_wp2_with (go_at_call 25; refine (HNm.out _).mono ?_; rintro e1 w3 ⟨rfl, rfl⟩)
          refine (HRf.out _).mono ?_
          rintro e1 w4 ⟨rfl, hb4⟩
          have hb5 : Below w4.heap.size w4 (w4.alloc (.cells #[.int .i64 r, .int .i64 c, .bool pp, .bool qq] 55)) := step (Below.refl _ _) _
          replace bk2 := hide (bk2.out.keep hb4)
          replace B2 := hide (next B2.out hb4)
          clear b0 b1 b2 b3 b4 bf
          replace bk2 := hide (bk2.out.keep hb5)
          replace B2 := hide (next B2.out hb5)
          obtain ⟨b0, b1, b2, b3, b4⟩ := bk2.out.cells5'
          have bf := bk2.out.fr
          clear hb5 hb4
          go_wp2_with fail
          obtain ⟨wz, hwz⟩ : ∃ wz, (((((w4.alloc (.cells #[.int .i64 r, .int .i64 c, .bool pp, .bool qq] 55)).setCell ⟨w.heap.size, 0, none⟩ (.int .i64 3)).setCell ⟨w.heap.size, 1, none⟩ (.string x)).setCell ⟨w.heap.size, 2, none⟩ (.int .i64 0)).setCell ⟨w.heap.size, 3, none⟩ (.int .i64 tt0)).setCell ⟨w.heap.size, 4, none⟩ (.int .i64 0) = wz := ⟨_, rfl⟩
          have bkz : Blk wz w.heap.size (cells5 3 x 0 tt0 0) 37 := by rw [← hwz]; exact bk2.out.put5 _ _ _ _ _
          have Bz : Below w.heap.size w wz := by rw [← hwz]; exact below_put5 B2.out (Nat.le_refl _) _ _ _ _ _
          rw [hwz]
          obtain ⟨d0, d1, d2, d3, d4⟩ := bkz.cells5'
          refine bodyPost_ret (by simp [results, Tryd.results17, go_sem, d0, d1, d2, d3, d4]; try rfl) rfl ?_
          exact ⟨by rw [HN.out], Bz⟩
      · rw [hp] at HNm
        have HN : Hid (gotOf i (namTok refL x.data.toList (callsL (s.data.toList.drop tt0))) = gotV 4 t 0 tt0 0) := hide (by
          have : namTok refL x.data.toList (callsL (s.data.toList.drop tt0)) = .ok 4 (upp x.data.toList) x.data.toList.length := by unfold namTok; rw [hcl.out, hp]; rfl
          rw [this, hN5.out, htb.out]; rfl)
        go_enter Tryd.func17, Tryd.ntmps17
        go_wp2_with (go_at_call 23; refine (HR.out _).mono ?_; rintro e1 w1 ⟨rfl, rfl⟩)
        refine (HC.out _).mono ?_
        rintro e1 w2 ⟨rfl, hb⟩
        have bk2 := hide (bk.out.keep hb)
        have B2 := hide (next B1.out hb)
        obtain ⟨b0, b1, b2, b3, b4⟩ := bk2.out.cells5'
        have bf := bk2.out.fr
        clear hb
        go_wp2_with fail
        refine (HNm.out _).mono ?_
        rintro e1 w3 ⟨rfl, rfl⟩
        go_wp2_with fail
        obtain ⟨wz, hwz⟩ : ∃ wz, ((((w3.setCell ⟨w.heap.size, 0, none⟩ (.int .i64 4)).setCell ⟨w.heap.size, 1, none⟩ (.string t)).setCell ⟨w.heap.size, 2, none⟩ (.int .i64 0)).setCell ⟨w.heap.size, 3, none⟩ (.int .i64 tt0)).setCell ⟨w.heap.size, 4, none⟩ (.int .i64 0) = wz := ⟨_, rfl⟩
        have bkz : Blk wz w.heap.size (cells5 4 t 0 tt0 0) 37 := by rw [← hwz]; exact bk2.out.put5 _ _ _ _ _
        have Bz : Below w.heap.size w wz := by rw [← hwz]; exact below_put5 B2.out (Nat.le_refl _) _ _ _ _ _
        rw [hwz]
        obtain ⟨d0, d1, d2, d3, d4⟩ := bkz.cells5'
        refine bodyPost_ret (by simp [results, Tryd.results17, go_sem, d0, d1, d2, d3, d4]; try rfl) rfl ?_
        exact ⟨by rw [HN.out], Bz⟩
  · have ht1' : ¬ (tt0 : Int) < s.size := by omega
    have hcl : Hid (callsL (s.data.toList.drop tt0) = false) := hide (calls_end s tt0 (by omega))
    cases h1 : (t.toList == [84, 82, 85, 69])
    · cases h2 : (t.toList == [70, 65, 76, 83, 69])
      · have hno : Hid ((upp x.data.toList == truL || upp x.data.toList == falL) = false) := hide (by rw [← htl.out]; unfold truL falL; rw [h1, h2]; rfl)
        have n1 : ¬ t.toList = [84, 82, 85, 69] := by simpa using h1
        have n2 : ¬ t.toList = [70, 65, 76, 83, 69] := by simpa using h2
        cases hf : ((n : Int) == x.size)
        · have HN : Hid (gotOf i (namTok refL x.data.toList (callsL (s.data.toList.drop tt0))) = gotV 0 no 0 0 21) := hide (by unfold namTok; rw [hcl.out, hno.out, hRL.out, hf]; rfl)
          go_enter Tryd.func17, Tryd.ntmps17
          go_wp2_with (go_at_call 23; refine (HR.out _).mono ?_; rintro e1 w1 ⟨rfl, rfl⟩)
          refine (HC.out _).mono ?_
          rintro e1 w2 ⟨rfl, hb⟩
          have bk2 := hide (bk.out.keep hb)
          have B2 := hide (next B1.out hb)
          obtain ⟨b0, b1, b2, b3, b4⟩ := bk2.out.cells5'
          have bf := bk2.out.fr
          clear hb
          go_wp2_with fail
          refine (HRf.out _).mono ?_
          rintro e1 w4 ⟨rfl, hb4⟩
          have hb5 : Below w4.heap.size w4 (w4.alloc (.cells #[.int .i64 r, .int .i64 c, .bool pp, .bool qq] 55)) := step (Below.refl _ _) _
          replace bk2 := hide (bk2.out.keep hb4)
          replace B2 := hide (next B2.out hb4)
          clear b0 b1 b2 b3 b4 bf
          replace bk2 := hide (bk2.out.keep hb5)
          replace B2 := hide (next B2.out hb5)
          obtain ⟨b0, b1, b2, b3, b4⟩ := bk2.out.cells5'
          have bf := bk2.out.fr
          clear hb5 hb4
          go_wp2_with fail
          obtain ⟨wz, hwz⟩ : ∃ wz, (((((w4.alloc (.cells #[.int .i64 r, .int .i64 c, .bool pp, .bool qq] 55)).setCell ⟨w.heap.size, 0, none⟩ (.int .i64 0)).setCell ⟨w.heap.size, 1, none⟩ (.string no)).setCell ⟨w.heap.size, 2, none⟩ (.int .i64 0)).setCell ⟨w.heap.size, 3, none⟩ (.int .i64 0)).setCell ⟨w.heap.size, 4, none⟩ (.int .i64 21) = wz := ⟨_, rfl⟩
          have bkz : Blk wz w.heap.size (cells5 0 no 0 0 21) 37 := by rw [← hwz]; exact bk2.out.put5 _ _ _ _ _
          have Bz : Below w.heap.size w wz := by rw [← hwz]; exact below_put5 B2.out (Nat.le_refl _) _ _ _ _ _
          rw [hwz]
          obtain ⟨d0, d1, d2, d3, d4⟩ := bkz.cells5'
          refine bodyPost_ret (by simp [results, Tryd.results17, go_sem, d0, d1, d2, d3, d4]; try rfl) rfl ?_
          exact ⟨by rw [HN.out], Bz⟩
        · have HN : Hid (gotOf i (namTok refL x.data.toList (callsL (s.data.toList.drop tt0))) = gotV 3 x 0 tt0 0) := hide (by unfold namTok; rw [hcl.out, hno.out, hRL.out, hf]; simp only [Bool.not_false, Bool.and_false, Bool.false_and, Bool.false_eq_true, if_false, if_true]; exact hN5.out 3 _)
          go_enter Tryd.func17, Tryd.ntmps17
          go_wp2_with (go_at_call 23; refine (HR.out _).mono ?_; rintro e1 w1 ⟨rfl, rfl⟩)
          refine (HC.out _).mono ?_
          rintro e1 w2 ⟨rfl, hb⟩
          have bk2 := hide (bk.out.keep hb)
          have B2 := hide (next B1.out hb)
          obtain ⟨b0, b1, b2, b3, b4⟩ := bk2.out.cells5'
          have bf := bk2.out.fr
          clear hb
          go_wp2_with fail
          refine (HRf.out _).mono ?_
          rintro e1 w4 ⟨rfl, hb4⟩
          have hb5 : Below w4.heap.size w4 (w4.alloc (.cells #[.int .i64 r, .int .i64 c, .bool pp, .bool qq] 55)) := step (Below.refl _ _) _
          replace bk2 := hide (bk2.out.keep hb4)
          replace B2 := hide (next B2.out hb4)
          clear b0 b1 b2 b3 b4 bf
          replace bk2 := hide (bk2.out.keep hb5)
          replace B2 := hide (next B2.out hb5)
          obtain ⟨b0, b1, b2, b3, b4⟩ := bk2.out.cells5'
          have bf := bk2.out.fr
          clear hb5 hb4
          go_wp2_with fail
          obtain ⟨wz, hwz⟩ : ∃ wz, (((((w4.alloc (.cells #[.int .i64 r, .int .i64 c, .bool pp, .bool qq] 55)).setCell ⟨w.heap.size, 0, none⟩ (.int .i64 3)).setCell ⟨w.heap.size, 1, none⟩ (.string x)).setCell ⟨w.heap.size, 2, none⟩ (.int .i64 0)).setCell ⟨w.heap.size, 3, none⟩ (.int .i64 tt0)).setCell ⟨w.heap.size, 4, none⟩ (.int .i64 0) = wz := ⟨_, rfl⟩
          have bkz : Blk wz w.heap.size (cells5 3 x 0 tt0 0) 37 := by rw [← hwz]; exact bk2.out.put5 _ _ _ _ _
          have Bz : Below w.heap.size w wz := by rw [← hwz]; exact below_put5 B2.out (Nat.le_refl _) _ _ _ _ _
          rw [hwz]
          obtain ⟨d0, d1, d2, d3, d4⟩ := bkz.cells5'
          refine bodyPost_ret (by simp [results, Tryd.results17, go_sem, d0, d1, d2, d3, d4]; try rfl) rfl ?_
          exact ⟨by rw [HN.out], Bz⟩
      · have HN : Hid (gotOf i (namTok refL x.data.toList (callsL (s.data.toList.drop tt0))) = gotV 5 t 0 tt0 0) := hide (by
          have : namTok refL x.data.toList (callsL (s.data.toList.drop tt0)) = .ok 5 (upp x.data.toList) x.data.toList.length := by
            unfold namTok; rw [hcl.out]; unfold truL falL; rw [← htl.out, h1, h2]; rfl
          rw [this, hN5.out, htb.out]; rfl)
        have n1 : ¬ t.toList = [84, 82, 85, 69] := by simpa using h1
        have n2 : t.toList = [70, 65, 76, 83, 69] := by simpa using h2
        go_enter Tryd.func17, Tryd.ntmps17
        go_wp2_with (go_at_call 23; refine (HR.out _).mono ?_; rintro e1 w1 ⟨rfl, rfl⟩)
        refine (HC.out _).mono ?_
        rintro e1 w2 ⟨rfl, hb⟩
        have bk2 := hide (bk.out.keep hb)
        have B2 := hide (next B1.out hb)
        obtain ⟨b0, b1, b2, b3, b4⟩ := bk2.out.cells5'
        have bf := bk2.out.fr
        clear hb
        go_wp2_with fail
        obtain ⟨wz, hwz⟩ : ∃ wz, ((((w2.setCell ⟨w.heap.size, 0, none⟩ (.int .i64 5)).setCell ⟨w.heap.size, 1, none⟩ (.string t)).setCell ⟨w.heap.size, 2, none⟩ (.int .i64 0)).setCell ⟨w.heap.size, 3, none⟩ (.int .i64 tt0)).setCell ⟨w.heap.size, 4, none⟩ (.int .i64 0) = wz := ⟨_, rfl⟩
        have bkz : Blk wz w.heap.size (cells5 5 t 0 tt0 0) 37 := by rw [← hwz]; exact bk2.out.put5 _ _ _ _ _
        have Bz : Below w.heap.size w wz := by rw [← hwz]; exact below_put5 B2.out (Nat.le_refl _) _ _ _ _ _
        rw [hwz]
        obtain ⟨d0, d1, d2, d3, d4⟩ := bkz.cells5'
        refine bodyPost_ret (by simp [results, Tryd.results17, go_sem, d0, d1, d2, d3, d4]; try rfl) rfl ?_
        exact ⟨by rw [HN.out], Bz⟩
    · have HN : Hid (gotOf i (namTok refL x.data.toList (callsL (s.data.toList.drop tt0))) = gotV 5 t 0 tt0 0) := hide (by
        have : namTok refL x.data.toList (callsL (s.data.toList.drop tt0)) = .ok 5 (upp x.data.toList) x.data.toList.length := by
          unfold namTok; rw [hcl.out]; unfold truL falL; rw [← htl.out, h1]; rfl
        rw [this, hN5.out, htb.out]; rfl)
      have n1 : t.toList = [84, 82, 85, 69] := by simpa using h1
      go_enter Tryd.func17, Tryd.ntmps17
      go_wp2_with (go_at_call 23; refine (HR.out _).mono ?_; rintro e1 w1 ⟨rfl, rfl⟩)
      refine (HC.out _).mono ?_
      rintro e1 w2 ⟨rfl, hb⟩
      have bk2 := hide (bk.out.keep hb)
      have B2 := hide (next B1.out hb)
      obtain ⟨b0, b1, b2, b3, b4⟩ := bk2.out.cells5'
      have bf := bk2.out.fr
      clear hb
      go_wp2_with fail
      obtain ⟨wz, hwz⟩ : ∃ wz, ((((w2.setCell ⟨w.heap.size, 0, none⟩ (.int .i64 5)).setCell ⟨w.heap.size, 1, none⟩ (.string t)).setCell ⟨w.heap.size, 2, none⟩ (.int .i64 0)).setCell ⟨w.heap.size, 3, none⟩ (.int .i64 tt0)).setCell ⟨w.heap.size, 4, none⟩ (.int .i64 0) = wz := ⟨_, rfl⟩
      have bkz : Blk wz w.heap.size (cells5 5 t 0 tt0 0) 37 := by rw [← hwz]; exact bk2.out.put5 _ _ _ _ _
      have Bz : Below w.heap.size w wz := by rw [← hwz]; exact below_put5 B2.out (Nat.le_refl _) _ _ _ _ _
      rw [hwz]
      obtain ⟨d0, d1, d2, d3, d4⟩ := bkz.cells5'
      refine bodyPost_ret (by simp [results, Tryd.results17, go_sem, d0, d1, d2, d3, d4]; try rfl) rfl ?_
      exact ⟨by rw [HN.out], Bz⟩
end Go.Proofs.YtcabgnikbgoikaaDoor
