/- What lex.wordOf answers, for all bytes and states: proved of the Go text. -/
import Derived.Test.YtcabgnikbgoikaaDoorRun8
import Derived.Test.YtcabgnikbgoikaaDoorUnd8
namespace Go.Proofs.YtcabgnikbgoikaaDoor
open Go.RowKit Go.Sort
set_option linter.unusedVariables false

set_option maxHeartbeats 1000000 in
theorem wordOf_run (s : ByteArray) (hs : s.size ≤ 65535) (h0 : 0 < s.size) (hr : ∀ c ∈ s.data.toList, isRun c = true) (called : Bool) : CallIs 21 #[.string s, .int .i64 1, .bool called] (tokV (wOf refL s.data.toList 1 called)) := by
  intro w
  have HR := wordOfRun8 s hs h0 hr called
  obtain ⟨k, e, u, hu⟩ := tokV_form (runTok refL s.data.toList called)
  have HN : Hid (tokV (wOf refL s.data.toList 1 called) = .tuple #[wdV k u 0, .int .i64 e]) := hide (by rw [← hu]; unfold wOf; rw [if_pos rfl])
  rw [hu] at HR
  clear hu hr
  have bk := hide (Blk.new w #[.int .i64 0, .string no, .int .i64 0] 32)
  have B1 := hide (step (Below.refl w.heap.size w) (wdO 0 no 0))
  go_enter Tryd.func21, Tryd.ntmps21
  go_wp2_with fail
  refine (HR.out _).mono ?_
  rintro e1 w4 ⟨rfl, hb4⟩
  have bk2 := hide (bk.out.keep hb4)
  have B2 := hide (next B1.out hb4)
  obtain ⟨b0, b1, b2⟩ := bk2.out.cells3
  have bf := bk2.out.fr
  clear hb4
  go_wp2_with fail
  obtain ⟨wz, hwz⟩ : ∃ wz, ((w4.setCell ⟨w.heap.size, 0, none⟩ (.int .i64 k)).setCell ⟨w.heap.size, 1, none⟩ (.string u)).setCell ⟨w.heap.size, 2, none⟩ (.int .i64 0) = wz := ⟨_, rfl⟩
  have bkwz : Blk wz w.heap.size #[.int .i64 k, .string u, .int .i64 0] 32 := by rw [← hwz]; exact bk2.out.put3 _ _ _
  have Bwz : Below w.heap.size w wz := by rw [← hwz]; exact below_put3 B2.out (Nat.le_refl _) _ _ _
  rw [hwz]
  obtain ⟨d0, d1, d2⟩ := bkwz.cells3
  refine bodyPost_ret (by simp [results, Tryd.results21, go_sem, d0, d1, d2]; try rfl) rfl ?_
  exact ⟨by rw [HN.out], Bwz⟩
set_option maxHeartbeats 1000000 in
theorem wordOf_open (s : ByteArray) (called : Bool) : CallIs 21 #[.string s, .int .i64 2, .bool called] (tokV (wOf refL s.data.toList 2 called)) := by
  intro w
  have HN : Hid (tokV (wOf refL s.data.toList 2 called) = .tuple #[wdV 0 no 0, .int .i64 21]) := hide rfl
  have bk := hide (Blk.new w #[.int .i64 0, .string no, .int .i64 0] 32)
  have B1 := hide (step (Below.refl w.heap.size w) (wdO 0 no 0))
  go_enter Tryd.func21, Tryd.ntmps21
  go_wp2_with fail
  go_returns
  exact ⟨by rw [HN.out], step (Below.refl w.heap.size w) _⟩
set_option maxHeartbeats 1000000 in
theorem wordOf_text (s : ByteArray) (hs : s.size ≤ 65535) (h2 : 2 ≤ s.size) (called : Bool) : CallL 21 #[.string s, .int .i64 3, .bool called] (tokV (wOf refL s.data.toList 3 called)) := by
  intro w hl
  have hs' : s.size ≤ 9223372036854775807 := by omega
  have hle : (1 : Int) ≤ (s.size : Int) - 1 := by omega
  have hle2 : (s.size : Int) - 1 ≤ s.size := by omega
  obtain ⟨n, hn⟩ : ∃ n : Nat, s.size = n + 1 := ⟨s.size - 1, by omega⟩
  have hz : (s.size : Int) - 1 = n := by omega
  obtain ⟨t, ht⟩ : ∃ t, s.extract 1 n = t := ⟨_, rfl⟩
  have htl : Hid (t.data.toList = slc s.data.toList 1 (s.data.toList.length - 1)) := hide (by rw [← ht, ba_ext s 1 n (by omega), ba_list, ← Lib.size_eq, hn]; rfl)
  have htz : t.size ≤ 65535 := by rw [← ht, ByteArray.size_extract]; omega
  obtain ⟨m, hm⟩ := (hl.alloc (wdO 0 no 0)).mx
  have HR := hide (Tryd.strings_ReplaceAll t (ba [34, 34]) (ba [34]) m (w.alloc (wdO 0 no 0)) (by omega) hm (by decide) (by
    have h1 := Lib.countB_le (ba [34, 34]) (by decide) t.size t (Nat.le_refl _)
    have h3 : (ba [34]).size = 1 := rfl
    rw [h3]; omega))
  rw [show (ba [34, 34]).data.toList = [34, 34] from rfl, show (ba [34]).data.toList = [34] from rfl, replace_und] at HR
  have HN : Hid (tokV (wOf refL s.data.toList 3 called) = .tuple #[wdV 2 (ba (und t.data.toList)) 0, .int .i64 0]) := hide (by unfold wOf; rw [if_neg (by decide), if_pos rfl, htl.out]; rfl)
  generalize und t.data.toList = U at *
  have HR' : Hid (Calls Tryd.prog 31 #[.string t, .string (ba [34, 34]), .string (ba [34])] (w.alloc (wdO 0 no 0)) fun e w' => e = .returned (.string (ba U)) ∧ Below (w.alloc (wdO 0 no 0)).heap.size (w.alloc (wdO 0 no 0)) w') := HR
  clear HR hm htl hl
  have a1 : (1 : Int) ≤ n := by omega
  have a2 : (n : Int) ≤ s.size := by omega
  have a3 : -9223372036854775808 ≤ (s.size : Int) - 1 := by omega
  have a4 : (s.size : Int) - 1 ≤ 9223372036854775807 := by omega
  have bk := hide (Blk.new w #[.int .i64 0, .string no, .int .i64 0] 32)
  have B1 := hide (step (Below.refl w.heap.size w) (wdO 0 no 0))
  go_enter Tryd.func21, Tryd.ntmps21
  go_wp2_with fail
  refine HR'.out.mono ?_
  rintro e1 w4 ⟨rfl, hb4⟩
  have bk2 := hide (bk.out.keep hb4)
  have B2 := hide (next B1.out hb4)
  obtain ⟨b0, b1, b2⟩ := bk2.out.cells3
  have bf := bk2.out.fr
  clear hb4
  go_wp2_with fail
  obtain ⟨wz, hwz⟩ : ∃ wz, ((w4.setCell ⟨w.heap.size, 0, none⟩ (.int .i64 2)).setCell ⟨w.heap.size, 1, none⟩ (.string (ba U))).setCell ⟨w.heap.size, 2, none⟩ (.int .i64 0) = wz := ⟨_, rfl⟩
  have bkwz : Blk wz w.heap.size #[.int .i64 2, .string (ba U), .int .i64 0] 32 := by rw [← hwz]; exact bk2.out.put3 _ _ _
  have Bwz : Below w.heap.size w wz := by rw [← hwz]; exact below_put3 B2.out (Nat.le_refl _) _ _ _
  rw [hwz]
  obtain ⟨d0, d1, d2⟩ := bkwz.cells3
  refine bodyPost_ret (by simp [results, Tryd.results21, go_sem, d0, d1, d2]; try rfl) rfl ?_
  exact ⟨by rw [HN.out], Bwz⟩
set_option maxHeartbeats 1000000 in
theorem wordOf_spelt6 (s : ByteArray) (h0 : 0 < s.size) (called : Bool) (hh : ((s[0].toNat : Int) == 35) = true) : CallIs 21 #[.string s, .int .i64 4, .bool called] (tokV (wOf refL s.data.toList 4 called)) := by
  intro w
  have hk : spKind s.data.toList = 6 := by
    obtain ⟨r, hr⟩ := toList_cons s h0
    have e : ((s[0].toNat : Int) == 35) = decide (s[0] = 35) := by rw [Bool.eq_iff_iff, beq_iff_eq, decide_eq_true_eq, show (35 : UInt8) = UInt8.ofNat 35 from rfl, u8 _ 35 (by decide)]; omega
    rw [e] at hh
    unfold spKind
    rw [hr]
    simp at hh
    simp [hh]
  have HN : Hid (tokV (wOf refL s.data.toList 4 called) = .tuple #[wdV 6 s 0, .int .i64 0]) := hide (by unfold wOf; rw [if_neg (by decide), if_neg (by decide), if_pos rfl, hk]; rfl)
  clear hk
  have bk := hide (Blk.new w #[.int .i64 0, .string no, .int .i64 0] 32)
  have B1 := hide (step (Below.refl w.heap.size w) (wdO 0 no 0))
  go_enter Tryd.func21, Tryd.ntmps21
  go_wp2_with fail
  go_returns
  exact ⟨by rw [HN.out], step (Below.refl w.heap.size w) _⟩
set_option maxHeartbeats 1000000 in
theorem wordOf_spelt7 (s : ByteArray) (h0 : 0 < s.size) (called : Bool) (hh : ((s[0].toNat : Int) == 35) = false) : CallIs 21 #[.string s, .int .i64 4, .bool called] (tokV (wOf refL s.data.toList 4 called)) := by
  intro w
  have hk : spKind s.data.toList = 7 := by
    obtain ⟨r, hr⟩ := toList_cons s h0
    have e : ((s[0].toNat : Int) == 35) = decide (s[0] = 35) := by rw [Bool.eq_iff_iff, beq_iff_eq, decide_eq_true_eq, show (35 : UInt8) = UInt8.ofNat 35 from rfl, u8 _ 35 (by decide)]; omega
    rw [e] at hh
    unfold spKind
    rw [hr]
    simp at hh
    simp [hh]
  have HN : Hid (tokV (wOf refL s.data.toList 4 called) = .tuple #[wdV 7 s 0, .int .i64 0]) := hide (by unfold wOf; rw [if_neg (by decide), if_neg (by decide), if_pos rfl, hk]; rfl)
  clear hk
  have bk := hide (Blk.new w #[.int .i64 0, .string no, .int .i64 0] 32)
  have B1 := hide (step (Below.refl w.heap.size w) (wdO 0 no 0))
  go_enter Tryd.func21, Tryd.ntmps21
  go_wp2_with fail
  go_returns
  exact ⟨by rw [HN.out], step (Below.refl w.heap.size w) _⟩
/-- What wordOf wants of the bytes, by the state. -/
def Fit (s : ByteArray) (st : Nat) : Prop := s.size ≤ 65535 ∧ ((st = 1 ∧ 0 < s.size ∧ ∀ c ∈ s.data.toList, isRun c = true) ∨ st = 2 ∨ (st = 3 ∧ 2 ≤ s.size) ∨ (st = 4 ∧ 0 < s.size))
theorem wordOf8 (s : ByteArray) (st : Nat) (called : Bool) (h : Fit s st) : CallL 21 #[.string s, .int .i64 st, .bool called] (tokV (wOf refL s.data.toList st called)) := by
  obtain ⟨hs, ⟨rfl, h0, hr⟩ | rfl | ⟨rfl, h2⟩ | ⟨rfl, h0⟩⟩ := h
  · exact (wordOf_run s hs h0 hr called).l
  · exact (wordOf_open s called).l
  · exact wordOf_text s hs h2 called
  · cases hh : ((s[0].toNat : Int) == 35)
    · exact (wordOf_spelt7 s h0 called hh).l
    · exact (wordOf_spelt6 s h0 called hh).l
end Go.Proofs.YtcabgnikbgoikaaDoor
