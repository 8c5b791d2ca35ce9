/- What lex.wordOfRun answers, for every run: proved of the Go text. Replacing two quotes by one is taking doubled quotes as one; of no program. What lex.wordOf answers, for all bytes and states: proved of the Go text. -/
import Derived.Test.YtdlomdbmmhjppaaGreatDoorKiJ
import Derived.Test.YtdlomdbmmhjppaaGreatDoorDeJ
import Derived.Lib.ReplaceLaws
namespace Go.Proofs.YtdlomdbmmhjppaaGreatDoor
open Go.RowKit Go.Sort
set_option linter.unusedVariables false

/-- As a whole a reference's form? -/
def refL (r : List UInt8) : Bool := decide (rN (ba r) = (ba r).size)
theorem tokV_form (T : Tok) : ∃ (k e : Int) (t : ByteArray), tokV T = .tuple #[wdV k t 0, .int .i64 e] := by
  cases T with
  | bad e => exact ⟨0, e, no, rfl⟩
  | ok k t n => exact ⟨k, 0, ba t, rfl⟩
theorem any_not (l chars : List UInt8) : Lib.containsAny l chars = l.any (chars.contains ·) := by
  unfold Lib.containsAny
  induction l with
  | nil => rfl
  | cons b l ih =>
    have hge := Lib.indexAny_ge chars l
    rw [Lib.indexAny, List.any_cons]
    cases hb : chars.contains b
    · rw [if_neg (by decide), Bool.false_or, ← ih]
      by_cases hm : Lib.indexAny l chars = -1
      · rw [hm]; rfl
      · rw [if_neg (by simpa using hm)]; rw [decide_eq_decide]; omega
    · rw [if_pos rfl]; rfl
theorem plain_any {l : List UInt8} (h : ∀ c ∈ l, isRun c = true) : (!(Lib.containsAny l [36, 95])) = plainN l := by
  rw [any_not]
  unfold plainN
  induction l with
  | nil => rfl
  | cons c l ih =>
    have h1 := h c (by simp)
    rw [List.any_cons, List.all_cons, Bool.not_or, ih (fun x hx => h x (by simp [hx]))]
    congr 1
    rw [run_byte] at h1
    unfold isL isC isS dig
    have e1 : [36, 95].contains c = (c == 36 || c == 95) := by simp [List.contains, List.elem]; cases (c == 36) <;> cases (c == 95) <;> rfl
    have e36 : (c == 36) = decide (c.toNat = 36) := by rw [Bool.eq_iff_iff, beq_iff_eq, decide_eq_true_eq]; exact u8 c 36 (by decide)
    have e95 : (c == 95) = decide (c.toNat = 95) := by rw [Bool.eq_iff_iff, beq_iff_eq, decide_eq_true_eq]; exact u8 c 95 (by decide)
    rw [e1, e36, e95]
    unfold runR digR at h1
    generalize c.toNat = n at *
    rw [Bool.eq_iff_iff]
    simp at h1 ⊢
    omega
set_option maxHeartbeats 4000000 in
theorem wordOfRun8 (s : ByteArray) (hs : s.size ≤ 65535) (h0 : 0 < s.size) (hr : ∀ c ∈ s.data.toList, isRun c = true) (called : Bool) : CallIs 92 #[.string s, .bool called] (tokV (runTok refL s.data.toList called)) := by
  intro w
  have hs' : s.size ≤ 9223372036854775807 := by omega
  have hlow : ∀ c ∈ s.data.toList, c.toNat < 128 := fun c hc => run_low c (hr c hc)
  have hasc : ∀ (j : Nat) (b : UInt8), s.data.toList[j]? = some b → b.toNat < 128 := fun j b hb => hlow b (List.mem_of_getElem? hb)
  obtain ⟨rr, hrr⟩ := toList_cons s h0
  obtain ⟨t, ht⟩ : ∃ t, ba (upp s.data.toList) = t := ⟨_, rfl⟩
  have htl : Hid (t.toList = upp s.data.toList) := hide (by rw [← ht, ByteArray.toList_eq, ba_list])
  have HU : CallIs 114 #[.string s] (.string t) := fun w => by rw [← ht]; exact Tryz.strings_ToUpper_ascii s w (by omega) hasc
  have HD : CallS 113 #[.int .i32 s[0].toNat] (.bool (dig s[0])) := isDigit8 s[0].toNat
  have hw32 : wrap32 (s[0].toNat : Int) = s[0].toNat := by have := s[0].toNat_lt; unfold wrap32; omega
  have HNum := wordOfNumber8 s hs hlow
  have HC : CallIs 116 #[.string s, .string (ba [36, 95])] (.bool (Lib.containsAny s.data.toList [36, 95])) := fun w => Tryz.strings_ContainsAny_laid s (ba [36, 95]) w (by omega) (by decide) hasc (fun j b hb => by
    rw [ba_list] at hb
    have := List.mem_of_getElem? hb
    simp at this
    rcases this with rfl | rfl <;> decide)
  have HRf := isReference8 s (by unfold maxLen; omega)
  rw [show decide (rN s = s.size) = refL s.data.toList from rfl] at HRf
  have hpl := hide (plain_any hr)
  have hRT : Hid (runTok refL s.data.toList called = if dig s[0] then numTok s.data.toList else namTok refL s.data.toList called) := hide (by unfold runTok; rw [hrr]; rfl)
  clear hlow hasc hr hrr
  have bk := hide (Blk.new w #[.int .i64 0, .string no, .int .i64 0] 44)
  have B1 := hide (step (Below.refl w.heap.size w) (wdO 0 no 0))
  cases hd : dig s[0]
  · rw [hd] at HD hRT
    cases called
    · have htok : Hid (runTok refL s.data.toList false = if (upp s.data.toList == truL || upp s.data.toList == falL) then .ok 5 (upp s.data.toList) s.data.toList.length else if refL s.data.toList then .ok 3 s.data.toList s.data.toList.length else .bad 21) := hide (by rw [hRT.out, if_neg (by decide)]; unfold namTok; simp)
      cases h1 : (t.toList == [84, 82, 85, 69])
      · cases h2 : (t.toList == [70, 65, 76, 83, 69])
        · have hno : Hid ((upp s.data.toList == truL || upp s.data.toList == falL) = false) := hide (by rw [← htl.out]; unfold truL falL; rw [h1, h2]; rfl)
          have n1 : ¬ t.toList = [84, 82, 85, 69] := by simpa using h1
          have n2 : ¬ t.toList = [70, 65, 76, 83, 69] := by simpa using h2
          cases hf : refL s.data.toList
          · rw [hf] at HRf
            have HN : Hid (tokV (runTok refL s.data.toList false) = .tuple #[wdV 0 no 0, .int .i64 21]) := hide (by rw [htok.out, hno.out, hf]; rfl)
            clear htok hRT ht
            go_enter Tryz.func92, Tryz.ntmps92
            go_wp2_with fail
            refine (HU.out _).mono ?_
            rintro e1 w2 ⟨rfl, hb⟩
            have bk2 := hide (bk.out.keep hb)
            have B2 := hide (next B1.out hb)
            obtain ⟨b0, b1, b2⟩ := bk2.out.cells3
            have bf := bk2.out.fr
            clear hb
            go_wp2_with fail
            refine (HD.out _).mono ?_
            rintro e1 w3 ⟨rfl, rfl⟩
            go_wp2_with fail
            refine (HRf.out _).mono ?_
            rintro e1 w4 ⟨rfl, hb4⟩
            replace bk2 := hide (bk2.out.keep hb4)
            replace B2 := hide (next B2.out hb4)
            clear b0 b1 b2 bf
            obtain ⟨b0, b1, b2⟩ := bk2.out.cells3
            have bf := bk2.out.fr
            clear hb4
            go_wp2_with fail
            obtain ⟨wz, hwz⟩ : ∃ wz, ((w4.setCell ⟨w.heap.size, 0, none⟩ (.int .i64 0)).setCell ⟨w.heap.size, 1, none⟩ (.string no)).setCell ⟨w.heap.size, 2, none⟩ (.int .i64 0) = wz := ⟨_, rfl⟩
            have bkwz : Blk wz w.heap.size #[.int .i64 0, .string no, .int .i64 0] 44 := by rw [← hwz]; exact bk2.out.put3 _ _ _
            have Bwz : Below w.heap.size w wz := by rw [← hwz]; exact below_put3 B2.out (Nat.le_refl _) _ _ _
            rw [hwz]
            obtain ⟨d0, d1, d2⟩ := bkwz.cells3
            refine bodyPost_ret (by simp [results, Tryz.results92, go_sem, d0, d1, d2]; try rfl) rfl ?_
            exact ⟨by rw [HN.out], Bwz⟩
          · rw [hf] at HRf
            have HN : Hid (tokV (runTok refL s.data.toList false) = .tuple #[wdV 3 s 0, .int .i64 0]) := hide (by rw [htok.out, hno.out, hf]; rfl)
            clear htok hRT ht
            go_enter Tryz.func92, Tryz.ntmps92
            go_wp2_with fail
            refine (HU.out _).mono ?_
            rintro e1 w2 ⟨rfl, hb⟩
            have bk2 := hide (bk.out.keep hb)
            have B2 := hide (next B1.out hb)
            obtain ⟨b0, b1, b2⟩ := bk2.out.cells3
            have bf := bk2.out.fr
            clear hb
            go_wp2_with fail
            refine (HD.out _).mono ?_
            rintro e1 w3 ⟨rfl, rfl⟩
            go_wp2_with fail
            refine (HRf.out _).mono ?_
            rintro e1 w4 ⟨rfl, hb4⟩
            replace bk2 := hide (bk2.out.keep hb4)
            replace B2 := hide (next B2.out hb4)
            clear b0 b1 b2 bf
            obtain ⟨b0, b1, b2⟩ := bk2.out.cells3
            have bf := bk2.out.fr
            clear hb4
            go_wp2_with fail
            obtain ⟨wz, hwz⟩ : ∃ wz, ((w4.setCell ⟨w.heap.size, 0, none⟩ (.int .i64 3)).setCell ⟨w.heap.size, 1, none⟩ (.string s)).setCell ⟨w.heap.size, 2, none⟩ (.int .i64 0) = wz := ⟨_, rfl⟩
            have bkwz : Blk wz w.heap.size #[.int .i64 3, .string s, .int .i64 0] 44 := by rw [← hwz]; exact bk2.out.put3 _ _ _
            have Bwz : Below w.heap.size w wz := by rw [← hwz]; exact below_put3 B2.out (Nat.le_refl _) _ _ _
            rw [hwz]
            obtain ⟨d0, d1, d2⟩ := bkwz.cells3
            refine bodyPost_ret (by simp [results, Tryz.results92, go_sem, d0, d1, d2]; try rfl) rfl ?_
            exact ⟨by rw [HN.out], Bwz⟩
        · have HN : Hid (tokV (runTok refL s.data.toList false) = .tuple #[wdV 5 t 0, .int .i64 0]) := hide (by
            rw [htok.out, ← htl.out]; unfold truL falL; rw [h1, h2, ← ht, ByteArray.toList_eq, ba_list]; rfl)
          have n1 : ¬ t.toList = [84, 82, 85, 69] := by simpa using h1
          have n2 : t.toList = [70, 65, 76, 83, 69] := by simpa using h2
          clear htok hRT ht htl
          go_enter Tryz.func92, Tryz.ntmps92
          go_wp2_with fail
          refine (HU.out _).mono ?_
          rintro e1 w2 ⟨rfl, hb⟩
          have bk2 := hide (bk.out.keep hb)
          have B2 := hide (next B1.out hb)
          obtain ⟨b0, b1, b2⟩ := bk2.out.cells3
          have bf := bk2.out.fr
          clear hb
          go_wp2_with fail
          refine (HD.out _).mono ?_
          rintro e1 w3 ⟨rfl, rfl⟩
          go_wp2_with fail
          obtain ⟨wz, hwz⟩ : ∃ wz, ((w3.setCell ⟨w.heap.size, 0, none⟩ (.int .i64 5)).setCell ⟨w.heap.size, 1, none⟩ (.string t)).setCell ⟨w.heap.size, 2, none⟩ (.int .i64 0) = wz := ⟨_, rfl⟩
          have bkwz : Blk wz w.heap.size #[.int .i64 5, .string t, .int .i64 0] 44 := by rw [← hwz]; exact bk2.out.put3 _ _ _
          have Bwz : Below w.heap.size w wz := by rw [← hwz]; exact below_put3 B2.out (Nat.le_refl _) _ _ _
          rw [hwz]
          obtain ⟨d0, d1, d2⟩ := bkwz.cells3
          refine bodyPost_ret (by simp [results, Tryz.results92, go_sem, d0, d1, d2]; try rfl) rfl ?_
          exact ⟨by rw [HN.out], Bwz⟩
      · have HN : Hid (tokV (runTok refL s.data.toList false) = .tuple #[wdV 5 t 0, .int .i64 0]) := hide (by
          rw [htok.out, ← htl.out]; unfold truL falL; rw [h1, ← ht, ByteArray.toList_eq, ba_list]; rfl)
        have n1 : t.toList = [84, 82, 85, 69] := by simpa using h1
        clear htok hRT ht htl
        go_enter Tryz.func92, Tryz.ntmps92
        go_wp2_with fail
        refine (HU.out _).mono ?_
        rintro e1 w2 ⟨rfl, hb⟩
        have bk2 := hide (bk.out.keep hb)
        have B2 := hide (next B1.out hb)
        obtain ⟨b0, b1, b2⟩ := bk2.out.cells3
        have bf := bk2.out.fr
        clear hb
        go_wp2_with fail
        refine (HD.out _).mono ?_
        rintro e1 w3 ⟨rfl, rfl⟩
        go_wp2_with fail
        obtain ⟨wz, hwz⟩ : ∃ wz, ((w3.setCell ⟨w.heap.size, 0, none⟩ (.int .i64 5)).setCell ⟨w.heap.size, 1, none⟩ (.string t)).setCell ⟨w.heap.size, 2, none⟩ (.int .i64 0) = wz := ⟨_, rfl⟩
        have bkwz : Blk wz w.heap.size #[.int .i64 5, .string t, .int .i64 0] 44 := by rw [← hwz]; exact bk2.out.put3 _ _ _
        have Bwz : Below w.heap.size w wz := by rw [← hwz]; exact below_put3 B2.out (Nat.le_refl _) _ _ _
        rw [hwz]
        obtain ⟨d0, d1, d2⟩ := bkwz.cells3
        refine bodyPost_ret (by simp [results, Tryz.results92, go_sem, d0, d1, d2]; try rfl) rfl ?_
        exact ⟨by rw [HN.out], Bwz⟩
    · have htok : Hid (runTok refL s.data.toList true = if plainN s.data.toList then .ok 4 (upp s.data.toList) s.data.toList.length else if refL s.data.toList then .ok 3 s.data.toList s.data.toList.length else .bad 21) := hide (by rw [hRT.out, if_neg (by decide)]; unfold namTok; simp)
      cases hc : Lib.containsAny s.data.toList [36, 95]
      · have hpn : Hid (plainN s.data.toList = true) := hide (by rw [← hpl.out, hc]; rfl)
        rw [hc] at HC
        have HN : Hid (tokV (runTok refL s.data.toList true) = .tuple #[wdV 4 t 0, .int .i64 0]) := hide (by rw [htok.out, hpn.out, ← ht]; rfl)
        clear htok hRT ht htl
        go_enter Tryz.func92, Tryz.ntmps92
        go_wp2_with fail
        refine (HU.out _).mono ?_
        rintro e1 w2 ⟨rfl, hb⟩
        have bk2 := hide (bk.out.keep hb)
        have B2 := hide (next B1.out hb)
        obtain ⟨b0, b1, b2⟩ := bk2.out.cells3
        have bf := bk2.out.fr
        clear hb
        go_wp2_with fail
        refine (HD.out _).mono ?_
        rintro e1 w3 ⟨rfl, rfl⟩
        go_wp2_with fail
        refine (HC.out _).mono ?_
        rintro e1 w4 ⟨rfl, hb4⟩
        replace bk2 := hide (bk2.out.keep hb4)
        replace B2 := hide (next B2.out hb4)
        clear b0 b1 b2 bf
        obtain ⟨b0, b1, b2⟩ := bk2.out.cells3
        have bf := bk2.out.fr
        clear hb4
        go_wp2_with fail
        obtain ⟨wz, hwz⟩ : ∃ wz, ((w4.setCell ⟨w.heap.size, 0, none⟩ (.int .i64 4)).setCell ⟨w.heap.size, 1, none⟩ (.string t)).setCell ⟨w.heap.size, 2, none⟩ (.int .i64 0) = wz := ⟨_, rfl⟩
        have bkwz : Blk wz w.heap.size #[.int .i64 4, .string t, .int .i64 0] 44 := by rw [← hwz]; exact bk2.out.put3 _ _ _
        have Bwz : Below w.heap.size w wz := by rw [← hwz]; exact below_put3 B2.out (Nat.le_refl _) _ _ _
        rw [hwz]
        obtain ⟨d0, d1, d2⟩ := bkwz.cells3
        refine bodyPost_ret (by simp [results, Tryz.results92, go_sem, d0, d1, d2]; try rfl) rfl ?_
        exact ⟨by rw [HN.out], Bwz⟩
      · have hpn : Hid (plainN s.data.toList = false) := hide (by rw [← hpl.out, hc]; rfl)
        rw [hc] at HC
        cases hf : refL s.data.toList
        · rw [hf] at HRf
          have HN : Hid (tokV (runTok refL s.data.toList true) = .tuple #[wdV 0 no 0, .int .i64 21]) := hide (by rw [htok.out, hpn.out, hf]; rfl)
          clear htok hRT ht htl
          go_enter Tryz.func92, Tryz.ntmps92
          go_wp2_with fail
          refine (HU.out _).mono ?_
          rintro e1 w2 ⟨rfl, hb⟩
          have bk2 := hide (bk.out.keep hb)
          have B2 := hide (next B1.out hb)
          obtain ⟨b0, b1, b2⟩ := bk2.out.cells3
          have bf := bk2.out.fr
          clear hb
          go_wp2_with fail
          refine (HD.out _).mono ?_
          rintro e1 w3 ⟨rfl, rfl⟩
          go_wp2_with fail
          refine (HC.out _).mono ?_
          rintro e1 w4 ⟨rfl, hb4⟩
          replace bk2 := hide (bk2.out.keep hb4)
          replace B2 := hide (next B2.out hb4)
          clear b0 b1 b2 bf
          obtain ⟨b0, b1, b2⟩ := bk2.out.cells3
          have bf := bk2.out.fr
          clear hb4
          go_wp2_with fail
          refine (HRf.out _).mono ?_
          rintro e1 w5 ⟨rfl, hb5⟩
          replace bk2 := hide (bk2.out.keep hb5)
          replace B2 := hide (next B2.out hb5)
          clear b0 b1 b2 bf
          obtain ⟨b0, b1, b2⟩ := bk2.out.cells3
          have bf := bk2.out.fr
          clear hb5
          go_wp2_with fail
          obtain ⟨wz, hwz⟩ : ∃ wz, ((w5.setCell ⟨w.heap.size, 0, none⟩ (.int .i64 0)).setCell ⟨w.heap.size, 1, none⟩ (.string no)).setCell ⟨w.heap.size, 2, none⟩ (.int .i64 0) = wz := ⟨_, rfl⟩
          have bkwz : Blk wz w.heap.size #[.int .i64 0, .string no, .int .i64 0] 44 := by rw [← hwz]; exact bk2.out.put3 _ _ _
          have Bwz : Below w.heap.size w wz := by rw [← hwz]; exact below_put3 B2.out (Nat.le_refl _) _ _ _
          rw [hwz]
          obtain ⟨d0, d1, d2⟩ := bkwz.cells3
          refine bodyPost_ret (by simp [results, Tryz.results92, go_sem, d0, d1, d2]; try rfl) rfl ?_
          exact ⟨by rw [HN.out], Bwz⟩
        · rw [hf] at HRf
          have HN : Hid (tokV (runTok refL s.data.toList true) = .tuple #[wdV 3 s 0, .int .i64 0]) := hide (by rw [htok.out, hpn.out, hf]; rfl)
          clear htok hRT ht htl
          go_enter Tryz.func92, Tryz.ntmps92
          go_wp2_with fail
          refine (HU.out _).mono ?_
          rintro e1 w2 ⟨rfl, hb⟩
          have bk2 := hide (bk.out.keep hb)
          have B2 := hide (next B1.out hb)
          obtain ⟨b0, b1, b2⟩ := bk2.out.cells3
          have bf := bk2.out.fr
          clear hb
          go_wp2_with fail
          refine (HD.out _).mono ?_
          rintro e1 w3 ⟨rfl, rfl⟩
          go_wp2_with fail
          refine (HC.out _).mono ?_
          rintro e1 w4 ⟨rfl, hb4⟩
          replace bk2 := hide (bk2.out.keep hb4)
          replace B2 := hide (next B2.out hb4)
          clear b0 b1 b2 bf
          obtain ⟨b0, b1, b2⟩ := bk2.out.cells3
          have bf := bk2.out.fr
          clear hb4
          go_wp2_with fail
          refine (HRf.out _).mono ?_
          rintro e1 w5 ⟨rfl, hb5⟩
          replace bk2 := hide (bk2.out.keep hb5)
          replace B2 := hide (next B2.out hb5)
          clear b0 b1 b2 bf
          obtain ⟨b0, b1, b2⟩ := bk2.out.cells3
          have bf := bk2.out.fr
          clear hb5
          go_wp2_with fail
          obtain ⟨wz, hwz⟩ : ∃ wz, ((w5.setCell ⟨w.heap.size, 0, none⟩ (.int .i64 3)).setCell ⟨w.heap.size, 1, none⟩ (.string s)).setCell ⟨w.heap.size, 2, none⟩ (.int .i64 0) = wz := ⟨_, rfl⟩
          have bkwz : Blk wz w.heap.size #[.int .i64 3, .string s, .int .i64 0] 44 := by rw [← hwz]; exact bk2.out.put3 _ _ _
          have Bwz : Below w.heap.size w wz := by rw [← hwz]; exact below_put3 B2.out (Nat.le_refl _) _ _ _
          rw [hwz]
          obtain ⟨d0, d1, d2⟩ := bkwz.cells3
          refine bodyPost_ret (by simp [results, Tryz.results92, go_sem, d0, d1, d2]; try rfl) rfl ?_
          exact ⟨by rw [HN.out], Bwz⟩
  · rw [hd] at HD
    obtain ⟨k, e, u, hu⟩ := tokV_form (numTok s.data.toList)
    have HN : Hid (tokV (runTok refL s.data.toList called) = .tuple #[wdV k u 0, .int .i64 e]) := hide (by rw [hRT.out, hd, if_pos rfl, hu])
    rw [hu] at HNum
    clear hu hRT ht htl
    go_enter Tryz.func92, Tryz.ntmps92
    go_wp2_with fail
    refine (HU.out _).mono ?_
    rintro e1 w2 ⟨rfl, hb⟩
    have bk2 := hide (bk.out.keep hb)
    have B2 := hide (next B1.out hb)
    obtain ⟨b0, b1, b2⟩ := bk2.out.cells3
    have bf := bk2.out.fr
    clear hb
    go_wp2_with fail
    refine (HD.out _).mono ?_
    rintro e1 w3 ⟨rfl, rfl⟩
    go_wp2_with fail
    refine (HNum.out _).mono ?_
    rintro e1 w4 ⟨rfl, hb4⟩
    replace bk2 := hide (bk2.out.keep hb4)
    replace B2 := hide (next B2.out hb4)
    clear b0 b1 b2 bf
    obtain ⟨b0, b1, b2⟩ := bk2.out.cells3
    have bf := bk2.out.fr
    clear hb4
    go_wp2_with fail
    obtain ⟨wz, hwz⟩ : ∃ wz, ((w4.setCell ⟨w.heap.size, 0, none⟩ (.int .i64 k)).setCell ⟨w.heap.size, 1, none⟩ (.string u)).setCell ⟨w.heap.size, 2, none⟩ (.int .i64 0) = wz := ⟨_, rfl⟩
    have bkwz : Blk wz w.heap.size #[.int .i64 k, .string u, .int .i64 0] 44 := by rw [← hwz]; exact bk2.out.put3 _ _ _
    have Bwz : Below w.heap.size w wz := by rw [← hwz]; exact below_put3 B2.out (Nat.le_refl _) _ _ _
    rw [hwz]
    obtain ⟨d0, d1, d2⟩ := bkwz.cells3
    refine bodyPost_ret (by simp [results, Tryz.results92, go_sem, d0, d1, d2]; try rfl) rfl ?_
    exact ⟨by rw [HN.out], Bwz⟩
end Go.Proofs.YtdlomdbmmhjppaaGreatDoor
namespace Go.Proofs.YtdlomdbmmhjppaaGreatDoor
open Go.RowKit
set_option linter.unusedVariables false

theorem idx_cons (b : UInt8) (l : List UInt8) (h : [34, 34].isPrefixOf (b :: l) = false) : Lib.index (b :: l) [34, 34] = if Lib.index l [34, 34] == -1 then -1 else Lib.index l [34, 34] + 1 := by
  rw [Lib.index, h]; rfl
theorem cnt_fuel : ∀ (f : Nat) (l : List UInt8), l.length < f → ∀ f', l.length < f' → Lib.countFrom [34, 34] f l = Lib.countFrom [34, 34] f' l
  | 0, l, h, f', h' => absurd h (Nat.not_lt_zero _)
  | f + 1, l, h, 0, h' => absurd h' (Nat.not_lt_zero _)
  | f + 1, l, h, f' + 1, h' => by
    unfold Lib.countFrom
    split
    · rfl
    · next hn =>
      have hge := Lib.index_ge l [34, 34]
      have hr := Lib.index_room l [34, 34] (by simp at hn; omega)
      simp at hr
      rw [cnt_fuel f _ (by rw [List.length_drop]; simp; omega) f' (by rw [List.length_drop]; simp; omega)]
def rep (l : List UInt8) : List UInt8 := Lib.replaceK [34, 34] [34] (Lib.count l [34, 34]) l
theorem rep_none {l : List UInt8} (h : Lib.index l [34, 34] = -1) : rep l = l := by
  unfold rep Lib.count Lib.countFrom
  rw [h]; rfl
theorem rep_hit {l : List UInt8} {i : Nat} (h : Lib.index l [34, 34] = i) : rep l = l.take i ++ [34] ++ rep (l.drop (i + 2)) := by
  have hm : ¬ (Lib.index l [34, 34] == -1) = true := fun e => by have := beq_iff_eq.1 e; omega
  have hr := Lib.index_room l [34, 34] (by omega)
  simp at hr
  have hc : Lib.count l [34, 34] = Lib.count (l.drop (i + 2)) [34, 34] + 1 := by
    unfold Lib.count
    rw [Lib.countFrom, if_neg hm, h]
    simp only [Int.toNat_natCast, List.length_cons, List.length_nil, Nat.zero_add, Nat.reduceAdd]
    rw [cnt_fuel l.length _ (by rw [List.length_drop]; omega) ((l.drop (i + 2)).length + 1) (by omega)]
    omega
  unfold rep
  rw [hc, Lib.replaceK_hit _ _ _ _ i h]
  rfl
theorem rep_cons {b : UInt8} {l : List UInt8} (h : [34, 34].isPrefixOf (b :: l) = false) : rep (b :: l) = b :: rep l := by
  have hi := idx_cons b l h
  have hge := Lib.index_ge l [34, 34]
  by_cases hn : Lib.index l [34, 34] = -1
  · rw [hn] at hi
    rw [rep_none hn, rep_none (by rw [hi]; rfl)]
  · obtain ⟨i, e⟩ : ∃ i : Nat, Lib.index l [34, 34] = i := ⟨(Lib.index l [34, 34]).toNat, by omega⟩
    rw [if_neg (by simpa using hn), e] at hi
    rw [rep_hit e, rep_hit (i := i + 1) (by rw [hi]; rfl), List.take_succ_cons, show i + 1 + 2 = (i + 2) + 1 by omega, List.drop_succ_cons]
    rfl
theorem rep_und : ∀ l : List UInt8, rep l = und l
  | [] => rfl
  | [c] => by
    have h : [34, 34].isPrefixOf [c] = false := by simp [List.isPrefixOf]
    rw [rep_cons h]; rfl
  | c :: d :: r => by
    by_cases h : c = 34 ∧ d = 34
    · obtain ⟨rfl, rfl⟩ := h
      have hi : Lib.index (34 :: 34 :: r) [34, 34] = ((0 : Nat) : Int) := by rw [Lib.index, if_pos (by simp [List.isPrefixOf])]; rfl
      rw [rep_hit hi, und, if_pos ⟨rfl, rfl⟩, ← rep_und r]
      rfl
    · have h' : [34, 34].isPrefixOf (c :: d :: r) = false := by
        rw [Bool.eq_false_iff]
        intro e
        simp [List.isPrefixOf] at e
        exact h ⟨e.1.symm, e.2.symm⟩
      rw [rep_cons h', und, if_neg h, rep_und (d :: r)]
theorem replace_und (l : List UInt8) : Lib.replaceAll l [34, 34] [34] = und l := by
  rw [← rep_und]
  unfold Lib.replaceAll Lib.replace rep Lib.replaceNum
  rw [if_neg (by decide), if_pos (.inl (by decide))]
end Go.Proofs.YtdlomdbmmhjppaaGreatDoor
namespace Go.Proofs.YtdlomdbmmhjppaaGreatDoor
open Go.RowKit Go.Sort
set_option linter.unusedVariables false

set_option maxHeartbeats 1000000 in
theorem wordOf_run (s : ByteArray) (hs : s.size ≤ 65535) (h0 : 0 < s.size) (hr : ∀ c ∈ s.data.toList, isRun c = true) (called : Bool) : CallIs 63 #[.string s, .int .i64 1, .bool called] (tokV (wOf refL s.data.toList 1 called)) := by
  intro w
  have HR := wordOfRun8 s hs h0 hr called
  obtain ⟨k, e, u, hu⟩ := tokV_form (runTok refL s.data.toList called)
  have HN : Hid (tokV (wOf refL s.data.toList 1 called) = .tuple #[wdV k u 0, .int .i64 e]) := hide (by rw [← hu]; unfold wOf; rw [if_pos rfl])
  rw [hu] at HR
  clear hu hr
  have bk := hide (Blk.new w #[.int .i64 0, .string no, .int .i64 0] 44)
  have B1 := hide (step (Below.refl w.heap.size w) (wdO 0 no 0))
  go_enter Tryz.func63, Tryz.ntmps63
  go_wp2_with fail
  refine (HR.out _).mono ?_
  rintro e1 w4 ⟨rfl, hb4⟩
  have bk2 := hide (bk.out.keep hb4)
  have B2 := hide (next B1.out hb4)
  obtain ⟨b0, b1, b2⟩ := bk2.out.cells3
  have bf := bk2.out.fr
  clear hb4
  go_wp2_with fail
  obtain ⟨wz, hwz⟩ : ∃ wz, ((w4.setCell ⟨w.heap.size, 0, none⟩ (.int .i64 k)).setCell ⟨w.heap.size, 1, none⟩ (.string u)).setCell ⟨w.heap.size, 2, none⟩ (.int .i64 0) = wz := ⟨_, rfl⟩
  have bkwz : Blk wz w.heap.size #[.int .i64 k, .string u, .int .i64 0] 44 := by rw [← hwz]; exact bk2.out.put3 _ _ _
  have Bwz : Below w.heap.size w wz := by rw [← hwz]; exact below_put3 B2.out (Nat.le_refl _) _ _ _
  rw [hwz]
  obtain ⟨d0, d1, d2⟩ := bkwz.cells3
  refine bodyPost_ret (by simp [results, Tryz.results63, go_sem, d0, d1, d2]; try rfl) rfl ?_
  exact ⟨by rw [HN.out], Bwz⟩
set_option maxHeartbeats 1000000 in
theorem wordOf_open (s : ByteArray) (called : Bool) : CallIs 63 #[.string s, .int .i64 2, .bool called] (tokV (wOf refL s.data.toList 2 called)) := by
  intro w
  have HN : Hid (tokV (wOf refL s.data.toList 2 called) = .tuple #[wdV 0 no 0, .int .i64 21]) := hide rfl
  have bk := hide (Blk.new w #[.int .i64 0, .string no, .int .i64 0] 44)
  have B1 := hide (step (Below.refl w.heap.size w) (wdO 0 no 0))
  go_enter Tryz.func63, Tryz.ntmps63
  go_wp2_with fail
  go_returns
  exact ⟨by rw [HN.out], step (Below.refl w.heap.size w) _⟩
set_option maxHeartbeats 1000000 in
theorem wordOf_text (s : ByteArray) (hs : s.size ≤ 65535) (h2 : 2 ≤ s.size) (called : Bool) : CallL 63 #[.string s, .int .i64 3, .bool called] (tokV (wOf refL s.data.toList 3 called)) := by
  intro w hl
  have hs' : s.size ≤ 9223372036854775807 := by omega
  have hle : (1 : Int) ≤ (s.size : Int) - 1 := by omega
  have hle2 : (s.size : Int) - 1 ≤ s.size := by omega
  obtain ⟨n, hn⟩ : ∃ n : Nat, s.size = n + 1 := ⟨s.size - 1, by omega⟩
  have hz : (s.size : Int) - 1 = n := by omega
  obtain ⟨t, ht⟩ : ∃ t, s.extract 1 n = t := ⟨_, rfl⟩
  have htl : Hid (t.data.toList = slc s.data.toList 1 (s.data.toList.length - 1)) := hide (by rw [← ht, ba_ext s 1 n (by omega), ba_list, ← Lib.size_eq, hn]; rfl)
  have htz : t.size ≤ 65535 := by rw [← ht, ByteArray.size_extract]; omega
  obtain ⟨m, hm⟩ := (hl.alloc (wdO 0 no 0)).mx
  have HR := hide (Tryz.strings_ReplaceAll t (ba [34, 34]) (ba [34]) m (w.alloc (wdO 0 no 0)) (by omega) hm (by decide) (by
    have h1 := Lib.countB_le (ba [34, 34]) (by decide) t.size t (Nat.le_refl _)
    have h3 : (ba [34]).size = 1 := rfl
    rw [h3]; omega))
  rw [show (ba [34, 34]).data.toList = [34, 34] from rfl, show (ba [34]).data.toList = [34] from rfl, replace_und] at HR
  have HN : Hid (tokV (wOf refL s.data.toList 3 called) = .tuple #[wdV 2 (ba (und t.data.toList)) 0, .int .i64 0]) := hide (by unfold wOf; rw [if_neg (by decide), if_pos rfl, htl.out]; rfl)
  generalize und t.data.toList = U at *
  have HR' : Hid (Calls Tryz.prog 93 #[.string t, .string (ba [34, 34]), .string (ba [34])] (w.alloc (wdO 0 no 0)) fun e w' => e = .returned (.string (ba U)) ∧ Below (w.alloc (wdO 0 no 0)).heap.size (w.alloc (wdO 0 no 0)) w') := HR
  clear HR hm htl hl
  have a1 : (1 : Int) ≤ n := by omega
  have a2 : (n : Int) ≤ s.size := by omega
  have a3 : -9223372036854775808 ≤ (s.size : Int) - 1 := by omega
  have a4 : (s.size : Int) - 1 ≤ 9223372036854775807 := by omega
  have bk := hide (Blk.new w #[.int .i64 0, .string no, .int .i64 0] 44)
  have B1 := hide (step (Below.refl w.heap.size w) (wdO 0 no 0))
  go_enter Tryz.func63, Tryz.ntmps63
  go_wp2_with fail
  refine HR'.out.mono ?_
  rintro e1 w4 ⟨rfl, hb4⟩
  have bk2 := hide (bk.out.keep hb4)
  have B2 := hide (next B1.out hb4)
  obtain ⟨b0, b1, b2⟩ := bk2.out.cells3
  have bf := bk2.out.fr
  clear hb4
  go_wp2_with fail
  obtain ⟨wz, hwz⟩ : ∃ wz, ((w4.setCell ⟨w.heap.size, 0, none⟩ (.int .i64 2)).setCell ⟨w.heap.size, 1, none⟩ (.string (ba U))).setCell ⟨w.heap.size, 2, none⟩ (.int .i64 0) = wz := ⟨_, rfl⟩
  have bkwz : Blk wz w.heap.size #[.int .i64 2, .string (ba U), .int .i64 0] 44 := by rw [← hwz]; exact bk2.out.put3 _ _ _
  have Bwz : Below w.heap.size w wz := by rw [← hwz]; exact below_put3 B2.out (Nat.le_refl _) _ _ _
  rw [hwz]
  obtain ⟨d0, d1, d2⟩ := bkwz.cells3
  refine bodyPost_ret (by simp [results, Tryz.results63, go_sem, d0, d1, d2]; try rfl) rfl ?_
  exact ⟨by rw [HN.out], Bwz⟩
set_option maxHeartbeats 1000000 in
theorem wordOf_spelt6 (s : ByteArray) (h0 : 0 < s.size) (called : Bool) (hh : ((s[0].toNat : Int) == 35) = true) : CallIs 63 #[.string s, .int .i64 4, .bool called] (tokV (wOf refL s.data.toList 4 called)) := by
  intro w
  have hk : spKind s.data.toList = 6 := by
    obtain ⟨r, hr⟩ := toList_cons s h0
    have e : ((s[0].toNat : Int) == 35) = decide (s[0] = 35) := by rw [Bool.eq_iff_iff, beq_iff_eq, decide_eq_true_eq, show (35 : UInt8) = UInt8.ofNat 35 from rfl, u8 _ 35 (by decide)]; omega
    rw [e] at hh
    unfold spKind
    rw [hr]
    simp at hh
    simp [hh]
  have HN : Hid (tokV (wOf refL s.data.toList 4 called) = .tuple #[wdV 6 s 0, .int .i64 0]) := hide (by unfold wOf; rw [if_neg (by decide), if_neg (by decide), if_pos rfl, hk]; rfl)
  clear hk
  have bk := hide (Blk.new w #[.int .i64 0, .string no, .int .i64 0] 44)
  have B1 := hide (step (Below.refl w.heap.size w) (wdO 0 no 0))
  go_enter Tryz.func63, Tryz.ntmps63
  go_wp2_with fail
  go_returns
  exact ⟨by rw [HN.out], step (Below.refl w.heap.size w) _⟩
set_option maxHeartbeats 1000000 in
theorem wordOf_spelt7 (s : ByteArray) (h0 : 0 < s.size) (called : Bool) (hh : ((s[0].toNat : Int) == 35) = false) : CallIs 63 #[.string s, .int .i64 4, .bool called] (tokV (wOf refL s.data.toList 4 called)) := by
  intro w
  have hk : spKind s.data.toList = 7 := by
    obtain ⟨r, hr⟩ := toList_cons s h0
    have e : ((s[0].toNat : Int) == 35) = decide (s[0] = 35) := by rw [Bool.eq_iff_iff, beq_iff_eq, decide_eq_true_eq, show (35 : UInt8) = UInt8.ofNat 35 from rfl, u8 _ 35 (by decide)]; omega
    rw [e] at hh
    unfold spKind
    rw [hr]
    simp at hh
    simp [hh]
  have HN : Hid (tokV (wOf refL s.data.toList 4 called) = .tuple #[wdV 7 s 0, .int .i64 0]) := hide (by unfold wOf; rw [if_neg (by decide), if_neg (by decide), if_pos rfl, hk]; rfl)
  clear hk
  have bk := hide (Blk.new w #[.int .i64 0, .string no, .int .i64 0] 44)
  have B1 := hide (step (Below.refl w.heap.size w) (wdO 0 no 0))
  go_enter Tryz.func63, Tryz.ntmps63
  go_wp2_with fail
  go_returns
  exact ⟨by rw [HN.out], step (Below.refl w.heap.size w) _⟩
/-- What wordOf wants of the bytes, by the state. -/
def Fit (s : ByteArray) (st : Nat) : Prop := s.size ≤ 65535 ∧ ((st = 1 ∧ 0 < s.size ∧ ∀ c ∈ s.data.toList, isRun c = true) ∨ st = 2 ∨ (st = 3 ∧ 2 ≤ s.size) ∨ (st = 4 ∧ 0 < s.size))
theorem wordOf8 (s : ByteArray) (st : Nat) (called : Bool) (h : Fit s st) : CallL 63 #[.string s, .int .i64 st, .bool called] (tokV (wOf refL s.data.toList st called)) := by
  obtain ⟨hs, ⟨rfl, h0, hr⟩ | rfl | ⟨rfl, h2⟩ | ⟨rfl, h0⟩⟩ := h
  · exact (wordOf_run s hs h0 hr called).l
  · exact (wordOf_open s called).l
  · exact wordOf_text s hs h2 called
  · cases hh : ((s[0].toNat : Int) == 35)
    · exact (wordOf_spelt7 s h0 called hh).l
    · exact (wordOf_spelt6 s h0 called hh).l
end Go.Proofs.YtdlomdbmmhjppaaGreatDoor
