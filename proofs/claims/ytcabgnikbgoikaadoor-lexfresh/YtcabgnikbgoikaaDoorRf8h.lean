/- What the document's one answers: the word that begins at a place. Proved of the Go text. -/
import Derived.Test.YtcabgnikbgoikaaDoorRf8f
namespace Go.Proofs.YtcabgnikbgoikaaDoor
open Go.RowKit Go.Sort
set_option linter.unusedVariables false

set_option maxRecDepth 100000 in
set_option maxHeartbeats 8000000 in
theorem rone8 (s : ByteArray) (i : Nat) (hs : s.size ≤ 65535) (hi : i < s.size) : CallIs 10 #[.string s, .int .i64 i] (gotOf i (tok refL (s.data.toList.drop i))) := by
  intro w
  have hs' : s.size ≤ 9223372036854775807 := by omega
  have hii : (i : Int) < s.size := by omega
  have hcons := hide (drop_cons s i hi)
  have HD := rdigit8 s[i]
  have HL := rletter8 s[i]
  have hor := hide (isRun_or s[i])
  have e34 : ((s[i].toNat : Int) == 34) = (s[i] == 34) := eq_c s[i] 34 (by decide)
  have e35 : ((s[i].toNat : Int) == 35) = (s[i] == 35) := eq_c s[i] 35 (by decide)
  have e36 : ((s[i].toNat : Int) == 36) = (s[i] == 36) := eq_c s[i] 36 (by decide)
  have e95 : ((s[i].toNat : Int) == 95) = (s[i] == 95) := eq_c s[i] 95 (by decide)
  have htkr : Hid (isRun s[i] = true → tok refL (s.data.toList.drop i) = runTok refL (runOf (s.data.toList.drop i)) (callsL (s.data.toList.drop (i + (runOf (s.data.toList.drop i)).length)))) := hide (fun h => by
    have h1 : tok refL (s[i] :: s.data.toList.drop (i + 1)) = runTok refL (runOf (s[i] :: s.data.toList.drop (i + 1))) (callsL ((s[i] :: s.data.toList.drop (i + 1)).drop (runOf (s[i] :: s.data.toList.drop (i + 1))).length)) := by rw [tok, if_pos h]
    rw [← hcons.out, List.drop_drop] at h1
    exact h1)
  have hhead : Hid (isRun s[i] = true → (runOf (s.data.toList.drop i)).head? = some s[i]) := hide (fun h => by unfold runOf; rw [hcons.out, List.takeWhile_cons, if_pos h]; rfl)
  have bk := hide (Blk.new w (cells5 0 no 0 0 0) 37)
  have B1 := hide (step (Below.refl w.heap.size w) (gotO 0 no 0 0 0))
  cases h1 : dig s[i]
  · rw [h1] at HD
    cases h34 : (s[i] == 34)
    · rw [h34] at e34
      have named : Hid (isRun s[i] = true → ∃ (k n e : Int) (u : ByteArray), (CallIs 17 #[.string s, .int .i64 i] (gotV k u 0 n e)) ∧ gotOf i (tok refL (s.data.toList.drop i)) = gotV k u 0 n e) := hide (fun hr => by
        have HNd := rnamed8 s i hs hi hr h1
        have e1 : tok refL (s.data.toList.drop i) = namTok refL (runOf (s.data.toList.drop i)) (callsL (s.data.toList.drop (i + (runOf (s.data.toList.drop i)).length))) := by
          rw [htkr.out hr]; unfold runTok; rw [hhead.out hr]; simp [h1]
        rw [← e1] at HNd
        obtain ⟨k, n, e, u, hu⟩ := got_form i (tok refL (s.data.toList.drop i))
        rw [hu] at HNd
        exact ⟨k, n, e, u, HNd, hu⟩)
      cases h2 : isL s[i]
      · rw [h2] at HL
        cases h36 : (s[i] == 36)
        · rw [h36] at e36
          cases h95 : (s[i] == 95)
          · rw [h95] at e95
            have hnr : isRun s[i] = false := by rw [hor.out, h1, h2, h36, h95]; rfl
            have htk : Hid (tok refL (s.data.toList.drop i) = spTok (s.data.toList.drop i)) := hide (by rw [hcons.out, tok, if_neg (by rw [hnr]; decide), if_neg (by simpa using h34)])
            cases h35 : (s[i] == 35)
            · rw [h35] at e35
              have hc35 : s[i] ≠ 35 := by simpa using h35
              clear h34 h36 h95 h35 named
              have hcell : Hid (∀ j (h : j < signL.length), ((w.alloc (gotO 0 no 0 0 0)).alloc (.cells #[.string (ba [40]), .string (ba [41]), .string (ba [44]), .string (ba [58]), .string (ba [94]), .string (ba [42]), .string (ba [47]), .string (ba [43]), .string (ba [45]), .string (ba [38]), .string (ba [61]), .string (ba [60]), .string (ba [62]), .string (ba [37]), .string (ba [60, 62]), .string (ba [60, 61]), .string (ba [62, 61])] 9)).cell? ⟨w.heap.size + 1, j, none⟩ = some (.string (ba signL[j]))) := hide (fun j h => by
                have hbl := Blk.new (w.alloc (gotO 0 no 0 0 0)) #[.string (ba [40]), .string (ba [41]), .string (ba [44]), .string (ba [58]), .string (ba [94]), .string (ba [42]), .string (ba [47]), .string (ba [43]), .string (ba [45]), .string (ba [38]), .string (ba [61]), .string (ba [60]), .string (ba [62]), .string (ba [37]), .string (ba [60, 62]), .string (ba [60, 61]), .string (ba [62, 61])] 9
                rw [World.size_alloc] at hbl
                rw [hbl.at' j]
                have hj : j = 0 ∨ j = 1 ∨ j = 2 ∨ j = 3 ∨ j = 4 ∨ j = 5 ∨ j = 6 ∨ j = 7 ∨ j = 8 ∨ j = 9 ∨ j = 10 ∨ j = 11 ∨ j = 12 ∨ j = 13 ∨ j = 14 ∨ j = 15 ∨ j = 16 := by have : j < 17 := h; omega
                rcases hj with rfl | rfl | rfl | rfl | rfl | rfl | rfl | rfl | rfl | rfl | rfl | rfl | rfl | rfl | rfl | rfl | rfl <;> rfl)
              have HLs := hide (rlisted8 s i 7 (w.heap.size + 1) signL ((w.alloc (gotO 0 no 0 0 0)).alloc (.cells #[.string (ba [40]), .string (ba [41]), .string (ba [44]), .string (ba [58]), .string (ba [94]), .string (ba [42]), .string (ba [47]), .string (ba [43]), .string (ba [45]), .string (ba [38]), .string (ba [61]), .string (ba [60]), .string (ba [62]), .string (ba [37]), .string (ba [60, 62]), .string (ba [60, 61]), .string (ba [62, 61])] 9)) hs hi (by decide) (by decide) (by simp) hcell.out (by decide))
              rw [hcons.out, sp_sign _ hc35, ← hcons.out] at HLs
              obtain ⟨k, n, e, u, hu⟩ := got_form i (spTok (s.data.toList.drop i))
              have HN : Hid (gotOf i (tok refL (s.data.toList.drop i)) = gotV k u 0 n e) := hide (by rw [htk.out, hu])
              rw [hu] at HLs
              replace bk := hide (bk.out.alloc (.cells #[.string (ba [40]), .string (ba [41]), .string (ba [44]), .string (ba [58]), .string (ba [94]), .string (ba [42]), .string (ba [47]), .string (ba [43]), .string (ba [45]), .string (ba [38]), .string (ba [61]), .string (ba [60]), .string (ba [62]), .string (ba [37]), .string (ba [60, 62]), .string (ba [60, 61]), .string (ba [62, 61])] 9))
              replace B1 := hide (step B1.out (.cells #[.string (ba [40]), .string (ba [41]), .string (ba [44]), .string (ba [58]), .string (ba [94]), .string (ba [42]), .string (ba [47]), .string (ba [43]), .string (ba [45]), .string (ba [38]), .string (ba [61]), .string (ba [60]), .string (ba [62]), .string (ba [37]), .string (ba [60, 62]), .string (ba [60, 61]), .string (ba [62, 61])] 9))
              clear hu hcell
              have hlen : signL.length = 17 := rfl
              rw [hlen] at HLs
              go_enter Tryd.func10, Tryd.ntmps10
              go_wp2_with (first | (go_at_call 13; refine (HD.out _).mono ?_; rintro e1 w1 ⟨rfl, rfl⟩) | (go_at_call 16; refine (HL.out _).mono ?_; rintro e1 w1 ⟨rfl, rfl⟩))
              refine HLs.out.mono ?_
              rintro e1 w2 ⟨rfl, hb⟩
              have bk2 := hide (bk.out.keep hb)
              have B2 := hide (next B1.out hb)
              obtain ⟨b0, b1, b2, b3, b4⟩ := bk2.out.cells5'
              have bf := bk2.out.fr
              clear hb
              go_wp2_with fail
              obtain ⟨wz, hwz⟩ : ∃ wz, ((((w2.setCell ⟨w.heap.size, 0, none⟩ (.int .i64 k)).setCell ⟨w.heap.size, 1, none⟩ (.string u)).setCell ⟨w.heap.size, 2, none⟩ (.int .i64 0)).setCell ⟨w.heap.size, 3, none⟩ (.int .i64 n)).setCell ⟨w.heap.size, 4, none⟩ (.int .i64 e) = wz := ⟨_, rfl⟩
              have bkz : Blk wz w.heap.size (cells5 k u 0 n e) 37 := by rw [← hwz]; exact bk2.out.put5 _ _ _ _ _
              have Bz : Below w.heap.size w wz := by rw [← hwz]; exact below_put5 B2.out (Nat.le_refl _) _ _ _ _ _
              rw [hwz]
              obtain ⟨d0, d1, d2, d3, d4⟩ := bkz.cells5'
              refine bodyPost_ret (by simp [results, Tryd.results10, go_sem, d0, d1, d2, d3, d4]; try rfl) rfl ?_
              exact ⟨by rw [HN.out], Bz⟩
            · rw [h35] at e35
              have hc35 : s[i] = 35 := by simpa using h35
              clear h34 h36 h95 h35 named
              have hcell : Hid (∀ j (h : j < errL.length), ((w.alloc (gotO 0 no 0 0 0)).alloc (.cells #[.string (ba [35, 78, 65, 77, 69, 63]), .string (ba [35, 78, 85, 77, 33]), .string (ba [35, 82, 69, 70, 33]), .string (ba [35, 86, 65, 76, 85, 69, 33]), .string (ba [35, 68, 73, 86, 47, 48, 33]), .string (ba [35, 78, 47, 65])] 9)).cell? ⟨w.heap.size + 1, j, none⟩ = some (.string (ba errL[j]))) := hide (fun j h => by
                have hbl := Blk.new (w.alloc (gotO 0 no 0 0 0)) #[.string (ba [35, 78, 65, 77, 69, 63]), .string (ba [35, 78, 85, 77, 33]), .string (ba [35, 82, 69, 70, 33]), .string (ba [35, 86, 65, 76, 85, 69, 33]), .string (ba [35, 68, 73, 86, 47, 48, 33]), .string (ba [35, 78, 47, 65])] 9
                rw [World.size_alloc] at hbl
                rw [hbl.at' j]
                have hj : j = 0 ∨ j = 1 ∨ j = 2 ∨ j = 3 ∨ j = 4 ∨ j = 5 := by have : j < 6 := h; omega
                rcases hj with rfl | rfl | rfl | rfl | rfl | rfl <;> rfl)
              have HLs := hide (rlisted8 s i 6 (w.heap.size + 1) errL ((w.alloc (gotO 0 no 0 0 0)).alloc (.cells #[.string (ba [35, 78, 65, 77, 69, 63]), .string (ba [35, 78, 85, 77, 33]), .string (ba [35, 82, 69, 70, 33]), .string (ba [35, 86, 65, 76, 85, 69, 33]), .string (ba [35, 68, 73, 86, 47, 48, 33]), .string (ba [35, 78, 47, 65])] 9)) hs hi (by decide) (by decide) (by simp) hcell.out (by decide))
              have hsp : lTok 6 (bestF (s.data.toList.drop i) [] errL) = spTok (s.data.toList.drop i) := by rw [hcons.out, hc35]; exact sp_err _
              rw [hsp] at HLs
              clear hsp hc35
              obtain ⟨k, n, e, u, hu⟩ := got_form i (spTok (s.data.toList.drop i))
              have HN : Hid (gotOf i (tok refL (s.data.toList.drop i)) = gotV k u 0 n e) := hide (by rw [htk.out, hu])
              rw [hu] at HLs
              replace bk := hide (bk.out.alloc (.cells #[.string (ba [35, 78, 65, 77, 69, 63]), .string (ba [35, 78, 85, 77, 33]), .string (ba [35, 82, 69, 70, 33]), .string (ba [35, 86, 65, 76, 85, 69, 33]), .string (ba [35, 68, 73, 86, 47, 48, 33]), .string (ba [35, 78, 47, 65])] 9))
              replace B1 := hide (step B1.out (.cells #[.string (ba [35, 78, 65, 77, 69, 63]), .string (ba [35, 78, 85, 77, 33]), .string (ba [35, 82, 69, 70, 33]), .string (ba [35, 86, 65, 76, 85, 69, 33]), .string (ba [35, 68, 73, 86, 47, 48, 33]), .string (ba [35, 78, 47, 65])] 9))
              clear hu hcell
              have hlen : errL.length = 6 := rfl
              rw [hlen] at HLs
              go_enter Tryd.func10, Tryd.ntmps10
              go_wp2_with (first | (go_at_call 13; refine (HD.out _).mono ?_; rintro e1 w1 ⟨rfl, rfl⟩) | (go_at_call 16; refine (HL.out _).mono ?_; rintro e1 w1 ⟨rfl, rfl⟩))
              refine HLs.out.mono ?_
              rintro e1 w2 ⟨rfl, hb⟩
              have bk2 := hide (bk.out.keep hb)
              have B2 := hide (next B1.out hb)
              obtain ⟨b0, b1, b2, b3, b4⟩ := bk2.out.cells5'
              have bf := bk2.out.fr
              clear hb
              go_wp2_with fail
              obtain ⟨wz, hwz⟩ : ∃ wz, ((((w2.setCell ⟨w.heap.size, 0, none⟩ (.int .i64 k)).setCell ⟨w.heap.size, 1, none⟩ (.string u)).setCell ⟨w.heap.size, 2, none⟩ (.int .i64 0)).setCell ⟨w.heap.size, 3, none⟩ (.int .i64 n)).setCell ⟨w.heap.size, 4, none⟩ (.int .i64 e) = wz := ⟨_, rfl⟩
              have bkz : Blk wz w.heap.size (cells5 k u 0 n e) 37 := by rw [← hwz]; exact bk2.out.put5 _ _ _ _ _
              have Bz : Below w.heap.size w wz := by rw [← hwz]; exact below_put5 B2.out (Nat.le_refl _) _ _ _ _ _
              rw [hwz]
              obtain ⟨d0, d1, d2, d3, d4⟩ := bkz.cells5'
              refine bodyPost_ret (by simp [results, Tryd.results10, go_sem, d0, d1, d2, d3, d4]; try rfl) rfl ?_
              exact ⟨by rw [HN.out], Bz⟩
          · rw [h95] at e95
            obtain ⟨k, n, e, u, HNd, hu⟩ := named.out (by rw [hor.out, h1, h2, h36, h95]; rfl)
            have HN := hide hu
            clear hu h34 h36 h95 named
            go_enter Tryd.func10, Tryd.ntmps10
            go_wp2_with (first | (go_at_call 13; refine (HD.out _).mono ?_; rintro e1 w1 ⟨rfl, rfl⟩) | (go_at_call 16; refine (HL.out _).mono ?_; rintro e1 w1 ⟨rfl, rfl⟩))
            refine (HNd.out _).mono ?_
            rintro e1 w2 ⟨rfl, hb⟩
            have bk2 := hide (bk.out.keep hb)
            have B2 := hide (next B1.out hb)
            obtain ⟨b0, b1, b2, b3, b4⟩ := bk2.out.cells5'
            have bf := bk2.out.fr
            clear hb
            go_wp2_with fail
            obtain ⟨wz, hwz⟩ : ∃ wz, ((((w2.setCell ⟨w.heap.size, 0, none⟩ (.int .i64 k)).setCell ⟨w.heap.size, 1, none⟩ (.string u)).setCell ⟨w.heap.size, 2, none⟩ (.int .i64 0)).setCell ⟨w.heap.size, 3, none⟩ (.int .i64 n)).setCell ⟨w.heap.size, 4, none⟩ (.int .i64 e) = wz := ⟨_, rfl⟩
            have bkz : Blk wz w.heap.size (cells5 k u 0 n e) 37 := by rw [← hwz]; exact bk2.out.put5 _ _ _ _ _
            have Bz : Below w.heap.size w wz := by rw [← hwz]; exact below_put5 B2.out (Nat.le_refl _) _ _ _ _ _
            rw [hwz]
            obtain ⟨d0, d1, d2, d3, d4⟩ := bkz.cells5'
            refine bodyPost_ret (by simp [results, Tryd.results10, go_sem, d0, d1, d2, d3, d4]; try rfl) rfl ?_
            exact ⟨by rw [HN.out], Bz⟩
        · rw [h36] at e36
          obtain ⟨k, n, e, u, HNd, hu⟩ := named.out (by rw [hor.out, h1, h2, h36]; rfl)
          have HN := hide hu
          clear hu h34 h36 named
          go_enter Tryd.func10, Tryd.ntmps10
          go_wp2_with (first | (go_at_call 13; refine (HD.out _).mono ?_; rintro e1 w1 ⟨rfl, rfl⟩) | (go_at_call 16; refine (HL.out _).mono ?_; rintro e1 w1 ⟨rfl, rfl⟩))
          refine (HNd.out _).mono ?_
          rintro e1 w2 ⟨rfl, hb⟩
          have bk2 := hide (bk.out.keep hb)
          have B2 := hide (next B1.out hb)
          obtain ⟨b0, b1, b2, b3, b4⟩ := bk2.out.cells5'
          have bf := bk2.out.fr
          clear hb
          go_wp2_with fail
          obtain ⟨wz, hwz⟩ : ∃ wz, ((((w2.setCell ⟨w.heap.size, 0, none⟩ (.int .i64 k)).setCell ⟨w.heap.size, 1, none⟩ (.string u)).setCell ⟨w.heap.size, 2, none⟩ (.int .i64 0)).setCell ⟨w.heap.size, 3, none⟩ (.int .i64 n)).setCell ⟨w.heap.size, 4, none⟩ (.int .i64 e) = wz := ⟨_, rfl⟩
          have bkz : Blk wz w.heap.size (cells5 k u 0 n e) 37 := by rw [← hwz]; exact bk2.out.put5 _ _ _ _ _
          have Bz : Below w.heap.size w wz := by rw [← hwz]; exact below_put5 B2.out (Nat.le_refl _) _ _ _ _ _
          rw [hwz]
          obtain ⟨d0, d1, d2, d3, d4⟩ := bkz.cells5'
          refine bodyPost_ret (by simp [results, Tryd.results10, go_sem, d0, d1, d2, d3, d4]; try rfl) rfl ?_
          exact ⟨by rw [HN.out], Bz⟩
      · rw [h2] at HL
        obtain ⟨k, n, e, u, HNd, hu⟩ := named.out (by rw [hor.out, h1, h2]; rfl)
        have HN := hide hu
        clear hu h34 named
        go_enter Tryd.func10, Tryd.ntmps10
        go_wp2_with (first | (go_at_call 13; refine (HD.out _).mono ?_; rintro e1 w1 ⟨rfl, rfl⟩) | (go_at_call 16; refine (HL.out _).mono ?_; rintro e1 w1 ⟨rfl, rfl⟩))
        refine (HNd.out _).mono ?_
        rintro e1 w2 ⟨rfl, hb⟩
        have bk2 := hide (bk.out.keep hb)
        have B2 := hide (next B1.out hb)
        obtain ⟨b0, b1, b2, b3, b4⟩ := bk2.out.cells5'
        have bf := bk2.out.fr
        clear hb
        go_wp2_with fail
        obtain ⟨wz, hwz⟩ : ∃ wz, ((((w2.setCell ⟨w.heap.size, 0, none⟩ (.int .i64 k)).setCell ⟨w.heap.size, 1, none⟩ (.string u)).setCell ⟨w.heap.size, 2, none⟩ (.int .i64 0)).setCell ⟨w.heap.size, 3, none⟩ (.int .i64 n)).setCell ⟨w.heap.size, 4, none⟩ (.int .i64 e) = wz := ⟨_, rfl⟩
        have bkz : Blk wz w.heap.size (cells5 k u 0 n e) 37 := by rw [← hwz]; exact bk2.out.put5 _ _ _ _ _
        have Bz : Below w.heap.size w wz := by rw [← hwz]; exact below_put5 B2.out (Nat.le_refl _) _ _ _ _ _
        rw [hwz]
        obtain ⟨d0, d1, d2, d3, d4⟩ := bkz.cells5'
        refine bodyPost_ret (by simp [results, Tryd.results10, go_sem, d0, d1, d2, d3, d4]; try rfl) rfl ?_
        exact ⟨by rw [HN.out], Bz⟩
    · rw [h34] at e34
      have hc34 : s[i] = 34 := by simpa using h34
      have HT := rtext8 s i hs hi
      have htk : tok refL (s.data.toList.drop i) = txtTok (s.data.toList.drop (i + 1)) := by rw [hcons.out, hc34, tok, if_neg (by decide), if_pos rfl]
      rw [← htk] at HT
      obtain ⟨k, n, e, u, hu⟩ := got_form i (tok refL (s.data.toList.drop i))
      rw [hu] at HT
      have HN := hide hu
      clear hu htk hc34 h34
      go_enter Tryd.func10, Tryd.ntmps10
      go_wp2_with (first | (go_at_call 13; refine (HD.out _).mono ?_; rintro e1 w1 ⟨rfl, rfl⟩) | (go_at_call 16; refine (HL.out _).mono ?_; rintro e1 w1 ⟨rfl, rfl⟩))
      refine (HT.out _).mono ?_
      rintro e1 w2 ⟨rfl, hb⟩
      have bk2 := hide (bk.out.keep hb)
      have B2 := hide (next B1.out hb)
      obtain ⟨b0, b1, b2, b3, b4⟩ := bk2.out.cells5'
      have bf := bk2.out.fr
      clear hb
      go_wp2_with fail
      obtain ⟨wz, hwz⟩ : ∃ wz, ((((w2.setCell ⟨w.heap.size, 0, none⟩ (.int .i64 k)).setCell ⟨w.heap.size, 1, none⟩ (.string u)).setCell ⟨w.heap.size, 2, none⟩ (.int .i64 0)).setCell ⟨w.heap.size, 3, none⟩ (.int .i64 n)).setCell ⟨w.heap.size, 4, none⟩ (.int .i64 e) = wz := ⟨_, rfl⟩
      have bkz : Blk wz w.heap.size (cells5 k u 0 n e) 37 := by rw [← hwz]; exact bk2.out.put5 _ _ _ _ _
      have Bz : Below w.heap.size w wz := by rw [← hwz]; exact below_put5 B2.out (Nat.le_refl _) _ _ _ _ _
      rw [hwz]
      obtain ⟨d0, d1, d2, d3, d4⟩ := bkz.cells5'
      refine bodyPost_ret (by simp [results, Tryd.results10, go_sem, d0, d1, d2, d3, d4]; try rfl) rfl ?_
      exact ⟨by rw [HN.out], Bz⟩
  · rw [h1] at HD
    have hr : isRun s[i] = true := by rw [hor.out, h1]; simp
    have HNu := rnumber8 s i hs hi hr
    have htk : tok refL (s.data.toList.drop i) = numTok (runOf (s.data.toList.drop i)) := by rw [htkr.out hr]; unfold runTok; rw [hhead.out hr]; simp [h1]
    rw [← htk] at HNu
    obtain ⟨k, n, e, u, hu⟩ := got_form i (tok refL (s.data.toList.drop i))
    rw [hu] at HNu
    have HN := hide hu
    clear hu htk
    go_enter Tryd.func10, Tryd.ntmps10
    go_wp2_with (first | (go_at_call 13; refine (HD.out _).mono ?_; rintro e1 w1 ⟨rfl, rfl⟩) | (go_at_call 16; refine (HL.out _).mono ?_; rintro e1 w1 ⟨rfl, rfl⟩))
    refine (HNu.out _).mono ?_
    rintro e1 w2 ⟨rfl, hb⟩
    have bk2 := hide (bk.out.keep hb)
    have B2 := hide (next B1.out hb)
    obtain ⟨b0, b1, b2, b3, b4⟩ := bk2.out.cells5'
    have bf := bk2.out.fr
    clear hb
    go_wp2_with fail
    obtain ⟨wz, hwz⟩ : ∃ wz, ((((w2.setCell ⟨w.heap.size, 0, none⟩ (.int .i64 k)).setCell ⟨w.heap.size, 1, none⟩ (.string u)).setCell ⟨w.heap.size, 2, none⟩ (.int .i64 0)).setCell ⟨w.heap.size, 3, none⟩ (.int .i64 n)).setCell ⟨w.heap.size, 4, none⟩ (.int .i64 e) = wz := ⟨_, rfl⟩
    have bkz : Blk wz w.heap.size (cells5 k u 0 n e) 37 := by rw [← hwz]; exact bk2.out.put5 _ _ _ _ _
    have Bz : Below w.heap.size w wz := by rw [← hwz]; exact below_put5 B2.out (Nat.le_refl _) _ _ _ _ _
    rw [hwz]
    obtain ⟨d0, d1, d2, d3, d4⟩ := bkz.cells5'
    refine bodyPost_ret (by simp [results, Tryd.results10, go_sem, d0, d1, d2, d3, d4]; try rfl) rfl ?_
    exact ⟨by rw [HN.out], Bz⟩
end Go.Proofs.YtcabgnikbgoikaaDoor
