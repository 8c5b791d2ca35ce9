/- What lex.wordOfRun answers, for every run: proved of the Go text. -/
import Derived.Test.YtcabgnikbgoikaaDoorNum8
import Derived.Test.YtcabgnikbgoikaaDoorSpelt8
namespace Go.Proofs.YtcabgnikbgoikaaDoor
open Go.RowKit Go.Sort
set_option linter.unusedVariables false

/-- As a whole a reference's form? -/
def refL (r : List UInt8) : Bool := decide (rN (ba r) = (ba r).size)
theorem tokV_form (T : Tok) : ∃ (k e : Int) (t : ByteArray), tokV T = .tuple #[wdV k t 0, .int .i64 e] := by
  cases T with
  | bad e => exact ⟨0, e, no, rfl⟩
  | ok k t n => exact ⟨k, 0, ba t, rfl⟩
theorem any_not (l chars : List UInt8) : Lib.containsAny l chars = l.any (chars.contains ·) := by
  unfold Lib.containsAny
  induction l with
  | nil => rfl
  | cons b l ih =>
    have hge := Lib.indexAny_ge chars l
    rw [Lib.indexAny, List.any_cons]
    cases hb : chars.contains b
    · rw [if_neg (by decide), Bool.false_or, ← ih]
      by_cases hm : Lib.indexAny l chars = -1
      · rw [hm]; rfl
      · rw [if_neg (by simpa using hm)]; rw [decide_eq_decide]; omega
    · rw [if_pos rfl]; rfl
theorem plain_any {l : List UInt8} (h : ∀ c ∈ l, isRun c = true) : (!(Lib.containsAny l [36, 95])) = plainN l := by
  rw [any_not]
  unfold plainN
  induction l with
  | nil => rfl
  | cons c l ih =>
    have h1 := h c (by simp)
    rw [List.any_cons, List.all_cons, Bool.not_or, ih (fun x hx => h x (by simp [hx]))]
    congr 1
    rw [run_byte] at h1
    unfold isL isC isS dig
    have e1 : [36, 95].contains c = (c == 36 || c == 95) := by simp [List.contains, List.elem]; cases (c == 36) <;> cases (c == 95) <;> rfl
    have e36 : (c == 36) = decide (c.toNat = 36) := by rw [Bool.eq_iff_iff, beq_iff_eq, decide_eq_true_eq]; exact u8 c 36 (by decide)
    have e95 : (c == 95) = decide (c.toNat = 95) := by rw [Bool.eq_iff_iff, beq_iff_eq, decide_eq_true_eq]; exact u8 c 95 (by decide)
    rw [e1, e36, e95]
    unfold runR digR at h1
    generalize c.toNat = n at *
    rw [Bool.eq_iff_iff]
    simp at h1 ⊢
    omega
set_option maxHeartbeats 4000000 in
theorem wordOfRun8 (s : ByteArray) (hs : s.size ≤ 65535) (h0 : 0 < s.size) (hr : ∀ c ∈ s.data.toList, isRun c = true) (called : Bool) : CallIs 30 #[.string s, .bool called] (tokV (runTok refL s.data.toList called)) := by
  intro w
  have hs' : s.size ≤ 9223372036854775807 := by omega
  have hlow : ∀ c ∈ s.data.toList, c.toNat < 128 := fun c hc => run_low c (hr c hc)
  have hasc : ∀ (j : Nat) (b : UInt8), s.data.toList[j]? = some b → b.toNat < 128 := fun j b hb => hlow b (List.mem_of_getElem? hb)
  obtain ⟨rr, hrr⟩ := toList_cons s h0
  obtain ⟨t, ht⟩ : ∃ t, ba (upp s.data.toList) = t := ⟨_, rfl⟩
  have htl : Hid (t.toList = upp s.data.toList) := hide (by rw [← ht, ByteArray.toList_eq, ba_list])
  have HU : CallIs 36 #[.string s] (.string t) := fun w => by rw [← ht]; exact Tryd.strings_ToUpper_ascii s w (by omega) hasc
  have HD : CallS 35 #[.int .i32 s[0].toNat] (.bool (dig s[0])) := isDigit8 s[0].toNat
  have hw32 : wrap32 (s[0].toNat : Int) = s[0].toNat := by have := s[0].toNat_lt; unfold wrap32; omega
  have HNum := wordOfNumber8 s hs hlow
  have HC : CallIs 38 #[.string s, .string (ba [36, 95])] (.bool (Lib.containsAny s.data.toList [36, 95])) := fun w => Tryd.strings_ContainsAny_laid s (ba [36, 95]) w (by omega) (by decide) hasc (fun j b hb => by
    rw [ba_list] at hb
    have := List.mem_of_getElem? hb
    simp at this
    rcases this with rfl | rfl <;> decide)
  have HRf := isReference8 s (by unfold maxLen; omega)
  rw [show decide (rN s = s.size) = refL s.data.toList from rfl] at HRf
  have hpl := hide (plain_any hr)
  have hRT : Hid (runTok refL s.data.toList called = if dig s[0] then numTok s.data.toList else namTok refL s.data.toList called) := hide (by unfold runTok; rw [hrr]; rfl)
  clear hlow hasc hr hrr
  have bk := hide (Blk.new w #[.int .i64 0, .string no, .int .i64 0] 32)
  have B1 := hide (step (Below.refl w.heap.size w) (wdO 0 no 0))
  cases hd : dig s[0]
  · rw [hd] at HD hRT
    cases called
    · have htok : Hid (runTok refL s.data.toList false = if (upp s.data.toList == truL || upp s.data.toList == falL) then .ok 5 (upp s.data.toList) s.data.toList.length else if refL s.data.toList then .ok 3 s.data.toList s.data.toList.length else .bad 21) := hide (by rw [hRT.out, if_neg (by decide)]; unfold namTok; simp)
      cases h1 : (t.toList == [84, 82, 85, 69])
      · cases h2 : (t.toList == [70, 65, 76, 83, 69])
        · have hno : Hid ((upp s.data.toList == truL || upp s.data.toList == falL) = false) := hide (by rw [← htl.out]; unfold truL falL; rw [h1, h2]; rfl)
          have n1 : ¬ t.toList = [84, 82, 85, 69] := by simpa using h1
          have n2 : ¬ t.toList = [70, 65, 76, 83, 69] := by simpa using h2
          cases hf : refL s.data.toList
          · rw [hf] at HRf
            have HN : Hid (tokV (runTok refL s.data.toList false) = .tuple #[wdV 0 no 0, .int .i64 21]) := hide (by rw [htok.out, hno.out, hf]; rfl)
            clear htok hRT ht
            go_enter Tryd.func30, Tryd.ntmps30
            go_wp2_with fail
            refine (HU.out _).mono ?_
            rintro e1 w2 ⟨rfl, hb⟩
            have bk2 := hide (bk.out.keep hb)
            have B2 := hide (next B1.out hb)
            obtain ⟨b0, b1, b2⟩ := bk2.out.cells3
            have bf := bk2.out.fr
            clear hb
            go_wp2_with fail
            refine (HD.out _).mono ?_
            rintro e1 w3 ⟨rfl, rfl⟩
            go_wp2_with fail
            refine (HRf.out _).mono ?_
            rintro e1 w4 ⟨rfl, hb4⟩
            replace bk2 := hide (bk2.out.keep hb4)
            replace B2 := hide (next B2.out hb4)
            clear b0 b1 b2 bf
            obtain ⟨b0, b1, b2⟩ := bk2.out.cells3
            have bf := bk2.out.fr
            clear hb4
            go_wp2_with fail
            obtain ⟨wz, hwz⟩ : ∃ wz, ((w4.setCell ⟨w.heap.size, 0, none⟩ (.int .i64 0)).setCell ⟨w.heap.size, 1, none⟩ (.string no)).setCell ⟨w.heap.size, 2, none⟩ (.int .i64 0) = wz := ⟨_, rfl⟩
            have bkwz : Blk wz w.heap.size #[.int .i64 0, .string no, .int .i64 0] 32 := by rw [← hwz]; exact bk2.out.put3 _ _ _
            have Bwz : Below w.heap.size w wz := by rw [← hwz]; exact below_put3 B2.out (Nat.le_refl _) _ _ _
            rw [hwz]
            obtain ⟨d0, d1, d2⟩ := bkwz.cells3
            refine bodyPost_ret (by simp [results, Tryd.results30, go_sem, d0, d1, d2]; try rfl) rfl ?_
            exact ⟨by rw [HN.out], Bwz⟩
          · rw [hf] at HRf
            have HN : Hid (tokV (runTok refL s.data.toList false) = .tuple #[wdV 3 s 0, .int .i64 0]) := hide (by rw [htok.out, hno.out, hf]; rfl)
            clear htok hRT ht
            go_enter Tryd.func30, Tryd.ntmps30
            go_wp2_with fail
            refine (HU.out _).mono ?_
            rintro e1 w2 ⟨rfl, hb⟩
            have bk2 := hide (bk.out.keep hb)
            have B2 := hide (next B1.out hb)
            obtain ⟨b0, b1, b2⟩ := bk2.out.cells3
            have bf := bk2.out.fr
            clear hb
            go_wp2_with fail
            refine (HD.out _).mono ?_
            rintro e1 w3 ⟨rfl, rfl⟩
            go_wp2_with fail
            refine (HRf.out _).mono ?_
            rintro e1 w4 ⟨rfl, hb4⟩
            replace bk2 := hide (bk2.out.keep hb4)
            replace B2 := hide (next B2.out hb4)
            clear b0 b1 b2 bf
            obtain ⟨b0, b1, b2⟩ := bk2.out.cells3
            have bf := bk2.out.fr
            clear hb4
            go_wp2_with fail
            obtain ⟨wz, hwz⟩ : ∃ wz, ((w4.setCell ⟨w.heap.size, 0, none⟩ (.int .i64 3)).setCell ⟨w.heap.size, 1, none⟩ (.string s)).setCell ⟨w.heap.size, 2, none⟩ (.int .i64 0) = wz := ⟨_, rfl⟩
            have bkwz : Blk wz w.heap.size #[.int .i64 3, .string s, .int .i64 0] 32 := by rw [← hwz]; exact bk2.out.put3 _ _ _
            have Bwz : Below w.heap.size w wz := by rw [← hwz]; exact below_put3 B2.out (Nat.le_refl _) _ _ _
            rw [hwz]
            obtain ⟨d0, d1, d2⟩ := bkwz.cells3
            refine bodyPost_ret (by simp [results, Tryd.results30, go_sem, d0, d1, d2]; try rfl) rfl ?_
            exact ⟨by rw [HN.out], Bwz⟩
        · have HN : Hid (tokV (runTok refL s.data.toList false) = .tuple #[wdV 5 t 0, .int .i64 0]) := hide (by
            rw [htok.out, ← htl.out]; unfold truL falL; rw [h1, h2, ← ht, ByteArray.toList_eq, ba_list]; rfl)
          have n1 : ¬ t.toList = [84, 82, 85, 69] := by simpa using h1
          have n2 : t.toList = [70, 65, 76, 83, 69] := by simpa using h2
          clear htok hRT ht htl
          go_enter Tryd.func30, Tryd.ntmps30
          go_wp2_with fail
          refine (HU.out _).mono ?_
          rintro e1 w2 ⟨rfl, hb⟩
          have bk2 := hide (bk.out.keep hb)
          have B2 := hide (next B1.out hb)
          obtain ⟨b0, b1, b2⟩ := bk2.out.cells3
          have bf := bk2.out.fr
          clear hb
          go_wp2_with fail
          refine (HD.out _).mono ?_
          rintro e1 w3 ⟨rfl, rfl⟩
          go_wp2_with fail
          obtain ⟨wz, hwz⟩ : ∃ wz, ((w3.setCell ⟨w.heap.size, 0, none⟩ (.int .i64 5)).setCell ⟨w.heap.size, 1, none⟩ (.string t)).setCell ⟨w.heap.size, 2, none⟩ (.int .i64 0) = wz := ⟨_, rfl⟩
          have bkwz : Blk wz w.heap.size #[.int .i64 5, .string t, .int .i64 0] 32 := by rw [← hwz]; exact bk2.out.put3 _ _ _
          have Bwz : Below w.heap.size w wz := by rw [← hwz]; exact below_put3 B2.out (Nat.le_refl _) _ _ _
          rw [hwz]
          obtain ⟨d0, d1, d2⟩ := bkwz.cells3
          refine bodyPost_ret (by simp [results, Tryd.results30, go_sem, d0, d1, d2]; try rfl) rfl ?_
          exact ⟨by rw [HN.out], Bwz⟩
      · have HN : Hid (tokV (runTok refL s.data.toList false) = .tuple #[wdV 5 t 0, .int .i64 0]) := hide (by
          rw [htok.out, ← htl.out]; unfold truL falL; rw [h1, ← ht, ByteArray.toList_eq, ba_list]; rfl)
        have n1 : t.toList = [84, 82, 85, 69] := by simpa using h1
        clear htok hRT ht htl
        go_enter Tryd.func30, Tryd.ntmps30
        go_wp2_with fail
        refine (HU.out _).mono ?_
        rintro e1 w2 ⟨rfl, hb⟩
        have bk2 := hide (bk.out.keep hb)
        have B2 := hide (next B1.out hb)
        obtain ⟨b0, b1, b2⟩ := bk2.out.cells3
        have bf := bk2.out.fr
        clear hb
        go_wp2_with fail
        refine (HD.out _).mono ?_
        rintro e1 w3 ⟨rfl, rfl⟩
        go_wp2_with fail
        obtain ⟨wz, hwz⟩ : ∃ wz, ((w3.setCell ⟨w.heap.size, 0, none⟩ (.int .i64 5)).setCell ⟨w.heap.size, 1, none⟩ (.string t)).setCell ⟨w.heap.size, 2, none⟩ (.int .i64 0) = wz := ⟨_, rfl⟩
        have bkwz : Blk wz w.heap.size #[.int .i64 5, .string t, .int .i64 0] 32 := by rw [← hwz]; exact bk2.out.put3 _ _ _
        have Bwz : Below w.heap.size w wz := by rw [← hwz]; exact below_put3 B2.out (Nat.le_refl _) _ _ _
        rw [hwz]
        obtain ⟨d0, d1, d2⟩ := bkwz.cells3
        refine bodyPost_ret (by simp [results, Tryd.results30, go_sem, d0, d1, d2]; try rfl) rfl ?_
        exact ⟨by rw [HN.out], Bwz⟩
    · have htok : Hid (runTok refL s.data.toList true = if plainN s.data.toList then .ok 4 (upp s.data.toList) s.data.toList.length else if refL s.data.toList then .ok 3 s.data.toList s.data.toList.length else .bad 21) := hide (by rw [hRT.out, if_neg (by decide)]; unfold namTok; simp)
      cases hc : Lib.containsAny s.data.toList [36, 95]
      · have hpn : Hid (plainN s.data.toList = true) := hide (by rw [← hpl.out, hc]; rfl)
        rw [hc] at HC
        have HN : Hid (tokV (runTok refL s.data.toList true) = .tuple #[wdV 4 t 0, .int .i64 0]) := hide (by rw [htok.out, hpn.out, ← ht]; rfl)
        clear htok hRT ht htl
        go_enter Tryd.func30, Tryd.ntmps30
        go_wp2_with fail
        refine (HU.out _).mono ?_
        rintro e1 w2 ⟨rfl, hb⟩
        have bk2 := hide (bk.out.keep hb)
        have B2 := hide (next B1.out hb)
        obtain ⟨b0, b1, b2⟩ := bk2.out.cells3
        have bf := bk2.out.fr
        clear hb
        go_wp2_with fail
        refine (HD.out _).mono ?_
        rintro e1 w3 ⟨rfl, rfl⟩
        go_wp2_with fail
        refine (HC.out _).mono ?_
        rintro e1 w4 ⟨rfl, hb4⟩
        replace bk2 := hide (bk2.out.keep hb4)
        replace B2 := hide (next B2.out hb4)
        clear b0 b1 b2 bf
        obtain ⟨b0, b1, b2⟩ := bk2.out.cells3
        have bf := bk2.out.fr
        clear hb4
        go_wp2_with fail
        obtain ⟨wz, hwz⟩ : ∃ wz, ((w4.setCell ⟨w.heap.size, 0, none⟩ (.int .i64 4)).setCell ⟨w.heap.size, 1, none⟩ (.string t)).setCell ⟨w.heap.size, 2, none⟩ (.int .i64 0) = wz := ⟨_, rfl⟩
        have bkwz : Blk wz w.heap.size #[.int .i64 4, .string t, .int .i64 0] 32 := by rw [← hwz]; exact bk2.out.put3 _ _ _
        have Bwz : Below w.heap.size w wz := by rw [← hwz]; exact below_put3 B2.out (Nat.le_refl _) _ _ _
        rw [hwz]
        obtain ⟨d0, d1, d2⟩ := bkwz.cells3
        refine bodyPost_ret (by simp [results, Tryd.results30, go_sem, d0, d1, d2]; try rfl) rfl ?_
        exact ⟨by rw [HN.out], Bwz⟩
      · have hpn : Hid (plainN s.data.toList = false) := hide (by rw [← hpl.out, hc]; rfl)
        rw [hc] at HC
        cases hf : refL s.data.toList
        · rw [hf] at HRf
          have HN : Hid (tokV (runTok refL s.data.toList true) = .tuple #[wdV 0 no 0, .int .i64 21]) := hide (by rw [htok.out, hpn.out, hf]; rfl)
          clear htok hRT ht htl
          go_enter Tryd.func30, Tryd.ntmps30
          go_wp2_with fail
          refine (HU.out _).mono ?_
          rintro e1 w2 ⟨rfl, hb⟩
          have bk2 := hide (bk.out.keep hb)
          have B2 := hide (next B1.out hb)
          obtain ⟨b0, b1, b2⟩ := bk2.out.cells3
          have bf := bk2.out.fr
          clear hb
          go_wp2_with fail
          refine (HD.out _).mono ?_
          rintro e1 w3 ⟨rfl, rfl⟩
          go_wp2_with fail
          refine (HC.out _).mono ?_
          rintro e1 w4 ⟨rfl, hb4⟩
          replace bk2 := hide (bk2.out.keep hb4)
          replace B2 := hide (next B2.out hb4)
          clear b0 b1 b2 bf
          obtain ⟨b0, b1, b2⟩ := bk2.out.cells3
          have bf := bk2.out.fr
          clear hb4
          go_wp2_with fail
          refine (HRf.out _).mono ?_
          rintro e1 w5 ⟨rfl, hb5⟩
          replace bk2 := hide (bk2.out.keep hb5)
          replace B2 := hide (next B2.out hb5)
          clear b0 b1 b2 bf
          obtain ⟨b0, b1, b2⟩ := bk2.out.cells3
          have bf := bk2.out.fr
          clear hb5
          go_wp2_with fail
          obtain ⟨wz, hwz⟩ : ∃ wz, ((w5.setCell ⟨w.heap.size, 0, none⟩ (.int .i64 0)).setCell ⟨w.heap.size, 1, none⟩ (.string no)).setCell ⟨w.heap.size, 2, none⟩ (.int .i64 0) = wz := ⟨_, rfl⟩
          have bkwz : Blk wz w.heap.size #[.int .i64 0, .string no, .int .i64 0] 32 := by rw [← hwz]; exact bk2.out.put3 _ _ _
          have Bwz : Below w.heap.size w wz := by rw [← hwz]; exact below_put3 B2.out (Nat.le_refl _) _ _ _
          rw [hwz]
          obtain ⟨d0, d1, d2⟩ := bkwz.cells3
          refine bodyPost_ret (by simp [results, Tryd.results30, go_sem, d0, d1, d2]; try rfl) rfl ?_
          exact ⟨by rw [HN.out], Bwz⟩
        · rw [hf] at HRf
          have HN : Hid (tokV (runTok refL s.data.toList true) = .tuple #[wdV 3 s 0, .int .i64 0]) := hide (by rw [htok.out, hpn.out, hf]; rfl)
          clear htok hRT ht htl
          go_enter Tryd.func30, Tryd.ntmps30
          go_wp2_with fail
          refine (HU.out _).mono ?_
          rintro e1 w2 ⟨rfl, hb⟩
          have bk2 := hide (bk.out.keep hb)
          have B2 := hide (next B1.out hb)
          obtain ⟨b0, b1, b2⟩ := bk2.out.cells3
          have bf := bk2.out.fr
          clear hb
          go_wp2_with fail
          refine (HD.out _).mono ?_
          rintro e1 w3 ⟨rfl, rfl⟩
          go_wp2_with fail
          refine (HC.out _).mono ?_
          rintro e1 w4 ⟨rfl, hb4⟩
          replace bk2 := hide (bk2.out.keep hb4)
          replace B2 := hide (next B2.out hb4)
          clear b0 b1 b2 bf
          obtain ⟨b0, b1, b2⟩ := bk2.out.cells3
          have bf := bk2.out.fr
          clear hb4
          go_wp2_with fail
          refine (HRf.out _).mono ?_
          rintro e1 w5 ⟨rfl, hb5⟩
          replace bk2 := hide (bk2.out.keep hb5)
          replace B2 := hide (next B2.out hb5)
          clear b0 b1 b2 bf
          obtain ⟨b0, b1, b2⟩ := bk2.out.cells3
          have bf := bk2.out.fr
          clear hb5
          go_wp2_with fail
          obtain ⟨wz, hwz⟩ : ∃ wz, ((w5.setCell ⟨w.heap.size, 0, none⟩ (.int .i64 3)).setCell ⟨w.heap.size, 1, none⟩ (.string s)).setCell ⟨w.heap.size, 2, none⟩ (.int .i64 0) = wz := ⟨_, rfl⟩
          have bkwz : Blk wz w.heap.size #[.int .i64 3, .string s, .int .i64 0] 32 := by rw [← hwz]; exact bk2.out.put3 _ _ _
          have Bwz : Below w.heap.size w wz := by rw [← hwz]; exact below_put3 B2.out (Nat.le_refl _) _ _ _
          rw [hwz]
          obtain ⟨d0, d1, d2⟩ := bkwz.cells3
          refine bodyPost_ret (by simp [results, Tryd.results30, go_sem, d0, d1, d2]; try rfl) rfl ?_
          exact ⟨by rw [HN.out], Bwz⟩
  · rw [hd] at HD
    obtain ⟨k, e, u, hu⟩ := tokV_form (numTok s.data.toList)
    have HN : Hid (tokV (runTok refL s.data.toList called) = .tuple #[wdV k u 0, .int .i64 e]) := hide (by rw [hRT.out, hd, if_pos rfl, hu])
    rw [hu] at HNum
    clear hu hRT ht htl
    go_enter Tryd.func30, Tryd.ntmps30
    go_wp2_with fail
    refine (HU.out _).mono ?_
    rintro e1 w2 ⟨rfl, hb⟩
    have bk2 := hide (bk.out.keep hb)
    have B2 := hide (next B1.out hb)
    obtain ⟨b0, b1, b2⟩ := bk2.out.cells3
    have bf := bk2.out.fr
    clear hb
    go_wp2_with fail
    refine (HD.out _).mono ?_
    rintro e1 w3 ⟨rfl, rfl⟩
    go_wp2_with fail
    refine (HNum.out _).mono ?_
    rintro e1 w4 ⟨rfl, hb4⟩
    replace bk2 := hide (bk2.out.keep hb4)
    replace B2 := hide (next B2.out hb4)
    clear b0 b1 b2 bf
    obtain ⟨b0, b1, b2⟩ := bk2.out.cells3
    have bf := bk2.out.fr
    clear hb4
    go_wp2_with fail
    obtain ⟨wz, hwz⟩ : ∃ wz, ((w4.setCell ⟨w.heap.size, 0, none⟩ (.int .i64 k)).setCell ⟨w.heap.size, 1, none⟩ (.string u)).setCell ⟨w.heap.size, 2, none⟩ (.int .i64 0) = wz := ⟨_, rfl⟩
    have bkwz : Blk wz w.heap.size #[.int .i64 k, .string u, .int .i64 0] 32 := by rw [← hwz]; exact bk2.out.put3 _ _ _
    have Bwz : Below w.heap.size w wz := by rw [← hwz]; exact below_put3 B2.out (Nat.le_refl _) _ _ _
    rw [hwz]
    obtain ⟨d0, d1, d2⟩ := bkwz.cells3
    refine bodyPost_ret (by simp [results, Tryd.results30, go_sem, d0, d1, d2]; try rfl) rfl ?_
    exact ⟨by rw [HN.out], Bwz⟩
end Go.Proofs.YtcabgnikbgoikaaDoor
