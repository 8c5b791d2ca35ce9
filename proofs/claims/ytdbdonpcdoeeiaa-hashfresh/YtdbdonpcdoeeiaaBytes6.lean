/- What package hash sums of a value: its bytes in new memory, for every value. Proved of the Go text. -/
import Derived.Test.YtdbdonpcdoeeiaaNum6
namespace Go.Proofs.Ytdbdonpcdoeeiaa
open Go.RowKit Go.Sort
set_option linter.unusedVariables false

/-- One byte alone, in a new block. -/
theorem own_one {W : World} {B : Nat} (hB : B ≤ W.heap.size) (x : Int) (c : UInt8) (hx : x = (c.toNat : Int)) : (W.alloc (.cells #[.int .u8 x] 5)).ownsRow B 5 1 (.slice (some ⟨W.heap.size, 0, none⟩) 1 1) 1 (vs [c]) :=
  ⟨rfl, .inr ⟨W.heap.size, 1, #[.int .u8 x], rfl, hB, heap_alloc_new W _, Nat.le_refl _, by decide, rfl, by rw [hx]; rfl⟩⟩
theorem own_str {B : Nat} {w wr w1 : World} {v v' : Value} {c : UInt8} {s : ByteArray} (hB : B ≤ wr.heap.size) (hnx : Below B w wr)
    (hown' : w1.ownsRow B 5 1 v' (1 + s.size) (vs [c] ++ Lib.strCells s)) (hown : wr.ownsRow B 5 1 v 1 (vs [c])) (hgrow : wr.grownBy w1 v.ownBlock) :
    Own w1 B v' (c :: s.data.toList) ∧ Below B w w1 := by
  refine ⟨?_, hnx.grown hgrow hB fun j hj => (World.ownsRow.lt hown j hj).1⟩
  rw [vs_str] at hown'
  unfold Own
  have e : (c :: s.data.toList).length = 1 + s.size := by rw [List.length_cons, Nat.add_comm]; rfl
  rw [e]
  exact hown'
theorem small_byte {i : Int} (h1 : 0 ≤ i) (h2 : i < 256) : i = ((UInt8.ofNat i.toNat).toNat : Int) := by
  rw [UInt8.toNat_ofNat']
  omega
set_option maxHeartbeats 1000000 in
theorem bytes_0  : CallB 9 #[vV 0 0 no] ([0]) := by
  intro w
  obtain ⟨i0, hi, hz0, hz1, hz2⟩ := info_parts info_u8
  have HM := vmay_yes (.inl ⟨rfl, rfl, rfl⟩)
  go_enter Try.func9, Try.ntmps9
  go_wp2_with fail
  refine (HM.out _).mono ?_
  rintro e w1 ⟨rfl, hb1⟩
  have B1 := hide (next (step (Below.refl w.heap.size w) _) hb1)
  have cv := hide ((O3.new w (.int .i64 0) (.int .i64 0) (.string no) 26).keep hb1)
  have c0 := cv.out.1.1
  have c1 := cv.out.1.2.1
  have c2 := cv.out.1.2.2
  have a0 := fun o => (cv.out.alloc o).1.1
  have a1 := fun o => (cv.out.alloc o).1.2.1
  have a2 := fun o => (cv.out.alloc o).1.2.2
  have hwz : w.heap.size ≤ w1.heap.size := B1.out.size
  go_wp2_with fail
  go_ret
  exact ⟨_, rfl, (own_one hwz 0 0 rfl), step B1.out _⟩
set_option maxHeartbeats 1000000 in
theorem bytes_1 (i : Int) : CallB 9 #[vV 1 i no] (1 :: be8 i) := by
  intro w
  obtain ⟨i0, hi, hz0, hz1, hz2⟩ := info_parts info_u8
  have HM := vmay_yes (k := 1) (i := i) (t := no) (.inr (.inl ⟨rfl, rfl⟩))
  go_enter Try.func9, Try.ntmps9
  go_wp2_with fail
  refine (HM.out _).mono ?_
  rintro e w1 ⟨rfl, hb1⟩
  have B1 := hide (next (step (Below.refl w.heap.size w) _) hb1)
  have cv := hide ((O3.new w (.int .i64 1) (.int .i64 i) (.string no) 26).keep hb1)
  have c0 := cv.out.1.1
  have c1 := cv.out.1.2.1
  have c2 := cv.out.1.2.2
  have a0 := fun o => (cv.out.alloc o).1.1
  have a1 := fun o => (cv.out.alloc o).1.2.1
  have a2 := fun o => (cv.out.alloc o).1.2.2
  have hwz : w.heap.size ≤ w1.heap.size := B1.out.size
  go_wp2_with fail
  refine (number_any i _ w.heap.size _ [1] (by decide) (by simp; omega) (own_one hwz 1 1 rfl)).mono ?_
  rintro e w2 ⟨v', rfl, hown, hb2⟩
  replace hown := hide hown
  replace hb2 := hide hb2
  clear c0 c1 c2 a0 a1 a2
  go_wp2_with fail
  go_ret
  exact ⟨_, rfl, hown.out, (step B1.out _).trans hb2.out⟩
set_option maxHeartbeats 1000000 in
theorem bytes_20  : CallB 9 #[vV 2 0 no] ([2, 0]) := by
  intro w
  obtain ⟨i0, hi, hz0, hz1, hz2⟩ := info_parts info_u8
  have HM := vmay_yes (k := 2) (i := 0) (t := no) (.inr (.inr (.inl ⟨rfl, .inl rfl, rfl⟩)))
  go_enter Try.func9, Try.ntmps9
  go_wp2_with fail
  refine (HM.out _).mono ?_
  rintro e w1 ⟨rfl, hb1⟩
  have B1 := hide (next (step (Below.refl w.heap.size w) _) hb1)
  have cv := hide ((O3.new w (.int .i64 2) (.int .i64 0) (.string no) 26).keep hb1)
  have c0 := cv.out.1.1
  have c1 := cv.out.1.2.1
  have c2 := cv.out.1.2.2
  have a0 := fun o => (cv.out.alloc o).1.1
  have a1 := fun o => (cv.out.alloc o).1.2.1
  have a2 := fun o => (cv.out.alloc o).1.2.2
  have hwz : w.heap.size ≤ w1.heap.size := B1.out.size
  go_wp2_with (at_builtin; refine wpList_append_own _ rfl _ _ 28 rfl w.heap.size 5 i0 (.int .u8 0) 1 1 Try.underlying28 hi hz0 hz1 hz2 rfl (by decide) _ _ _ rfl (World.ownsRow.alloc (own_one hwz 2 2 rfl) _) ⟨w1.heap.size + 1, 0, none⟩ 1 1 [.int .u8 (0)] rfl rfl (fun j u hj => by match j, hj with | 0, hj => simp at hj; subst hj; simp [Addr.add]) (fun u hu => by simp at hu; subst hu; rfl) (by decide) (by decide) (by simp; omega) ?_)
  intro v' w3 hown' hgrow _
  have R := hide (own_snoc (L := [2]) (c := 0) rfl (by simp; omega) (step B1.out _) hown' (own_one hwz 2 2 rfl) hgrow)
  clear hown' hgrow c0 c1 c2 a0 a1 a2
  go_wp2_with fail
  go_ret
  exact ⟨_, rfl, R.out.1, R.out.2⟩
set_option maxHeartbeats 1000000 in
theorem bytes_21  : CallB 9 #[vV 2 1 no] ([2, 1]) := by
  intro w
  obtain ⟨i0, hi, hz0, hz1, hz2⟩ := info_parts info_u8
  have HM := vmay_yes (k := 2) (i := 1) (t := no) (.inr (.inr (.inl ⟨rfl, .inr rfl, rfl⟩)))
  go_enter Try.func9, Try.ntmps9
  go_wp2_with fail
  refine (HM.out _).mono ?_
  rintro e w1 ⟨rfl, hb1⟩
  have B1 := hide (next (step (Below.refl w.heap.size w) _) hb1)
  have cv := hide ((O3.new w (.int .i64 2) (.int .i64 1) (.string no) 26).keep hb1)
  have c0 := cv.out.1.1
  have c1 := cv.out.1.2.1
  have c2 := cv.out.1.2.2
  have a0 := fun o => (cv.out.alloc o).1.1
  have a1 := fun o => (cv.out.alloc o).1.2.1
  have a2 := fun o => (cv.out.alloc o).1.2.2
  have hwz : w.heap.size ≤ w1.heap.size := B1.out.size
  go_wp2_with (at_builtin; refine wpList_append_own _ rfl _ _ 28 rfl w.heap.size 5 i0 (.int .u8 0) 1 1 Try.underlying28 hi hz0 hz1 hz2 rfl (by decide) _ _ _ rfl (World.ownsRow.alloc (own_one hwz 2 2 rfl) _) ⟨w1.heap.size + 1, 0, none⟩ 1 1 [.int .u8 (1)] rfl rfl (fun j u hj => by match j, hj with | 0, hj => simp at hj; subst hj; simp [Addr.add]) (fun u hu => by simp at hu; subst hu; rfl) (by decide) (by decide) (by simp; omega) ?_)
  intro v' w3 hown' hgrow _
  have R := hide (own_snoc (L := [2]) (c := 1) rfl (by simp; omega) (step B1.out _) hown' (own_one hwz 2 2 rfl) hgrow)
  clear hown' hgrow c0 c1 c2 a0 a1 a2
  go_wp2_with fail
  go_ret
  exact ⟨_, rfl, R.out.1, R.out.2⟩
set_option maxHeartbeats 1000000 in
theorem bytes_3 (t : ByteArray) (ht : t.size ≤ 32767) : CallB 9 #[vV 3 0 t] (3 :: t.data.toList) := by
  intro w
  obtain ⟨i0, hi, hz0, hz1, hz2⟩ := info_parts info_u8
  have HM := vmay_yes (k := 3) (i := 0) (t := t) (.inr (.inr (.inr (.inl ⟨rfl, rfl, ht⟩))))
  go_enter Try.func9, Try.ntmps9
  go_wp2_with fail
  refine (HM.out _).mono ?_
  rintro e w1 ⟨rfl, hb1⟩
  have B1 := hide (next (step (Below.refl w.heap.size w) _) hb1)
  have cv := hide ((O3.new w (.int .i64 3) (.int .i64 0) (.string t) 26).keep hb1)
  have c0 := cv.out.1.1
  have c1 := cv.out.1.2.1
  have c2 := cv.out.1.2.2
  have a0 := fun o => (cv.out.alloc o).1.1
  have a1 := fun o => (cv.out.alloc o).1.2.1
  have a2 := fun o => (cv.out.alloc o).1.2.2
  have hwz : w.heap.size ≤ w1.heap.size := B1.out.size
  go_wp2_with (at_builtin; refine Lib.wpList_append_own_string _ rfl _ _ 28 9 rfl w.heap.size 5 i0 Try.underlying28 Try.underlying9 hi hz0 hz1 hz2 _ _ _ rfl (own_one hwz 3 3 rfl) t rfl (by unfold maxLen; omega) (by omega) (by simp; omega) ?_)
  intro v' w3 hown' hgrow _
  have R := hide (own_str (by simp; omega) (step B1.out _) hown' (own_one hwz 3 3 rfl) hgrow)
  clear hown' hgrow c0 c1 c2 a0 a1 a2
  go_wp2_with fail
  go_ret
  exact ⟨_, rfl, R.out.1, R.out.2⟩
set_option maxHeartbeats 1000000 in
theorem bytes_4 (i : Int) (h1 : 1 ≤ i) (h2 : i ≤ 6) : CallB 9 #[vV 4 i no] ([4, UInt8.ofNat i.toNat]) := by
  intro w
  obtain ⟨i0, hi, hz0, hz1, hz2⟩ := info_parts info_u8
  have HM := vmay_yes (k := 4) (i := i) (t := no) (.inr (.inr (.inr (.inr ⟨rfl, ⟨h1, h2⟩, rfl⟩))))
  go_enter Try.func9, Try.ntmps9
  go_wp2_with fail
  refine (HM.out _).mono ?_
  rintro e w1 ⟨rfl, hb1⟩
  have B1 := hide (next (step (Below.refl w.heap.size w) _) hb1)
  have cv := hide ((O3.new w (.int .i64 4) (.int .i64 i) (.string no) 26).keep hb1)
  have c0 := cv.out.1.1
  have c1 := cv.out.1.2.1
  have c2 := cv.out.1.2.2
  have a0 := fun o => (cv.out.alloc o).1.1
  have a1 := fun o => (cv.out.alloc o).1.2.1
  have a2 := fun o => (cv.out.alloc o).1.2.2
  have hwz : w.heap.size ≤ w1.heap.size := B1.out.size
  go_wp2_with (at_builtin; refine wpList_append_own _ rfl _ _ 28 rfl w.heap.size 5 i0 (.int .u8 0) 1 1 Try.underlying28 hi hz0 hz1 hz2 rfl (by decide) _ _ _ rfl (World.ownsRow.alloc (own_one hwz 4 4 rfl) _) ⟨w1.heap.size + 1, 0, none⟩ 1 1 [.int .u8 (i)] rfl rfl (fun j u hj => by match j, hj with | 0, hj => simp at hj; subst hj; simp [Addr.add]) (fun u hu => by simp at hu; subst hu; rfl) (by decide) (by decide) (by simp; omega) ?_)
  intro v' w3 hown' hgrow _
  have R := hide (own_snoc (L := [4]) (c := UInt8.ofNat i.toNat) (small_byte (by omega) (by omega)) (by simp; omega) (step B1.out _) hown' (own_one hwz 4 4 rfl) hgrow)
  clear hown' hgrow c0 c1 c2 a0 a1 a2
  go_wp2_with fail
  go_ret
  exact ⟨_, rfl, R.out.1, R.out.2⟩
set_option maxHeartbeats 1000000 in
theorem bytes_bad {k i : Int} {t : ByteArray} (h : ¬ Good k i t) : CallB 9 #[vV k i t] ([4, 4]) := by
  intro w
  obtain ⟨i0, hi, hz0, hz1, hz2⟩ := info_parts info_u8
  have HM := vmay_no h
  clear h
  go_enter Try.func9, Try.ntmps9
  go_wp2_with fail
  refine (HM.out _).mono ?_
  rintro e w1 ⟨rfl, hb1⟩
  have B1 := hide (next (step (Below.refl w.heap.size w) _) hb1)
  have cv := hide ((O3.new w (.int .i64 k) (.int .i64 i) (.string t) 26).keep hb1)
  have d0 := cv.out.1.1
  have d1 := cv.out.1.2.1
  have d2 := cv.out.1.2.2
  have df := cv.out.2
  have Bp := hide (below_put3 (b := w.heap.size) B1.out (Nat.le_refl _) (.int .i64 4) (.int .i64 4) (.string no))
  replace cv := hide (cv.out.put (.int .i64 4) (.int .i64 4) (.string no))
  obtain ⟨wp, hwp⟩ : ∃ wp, put3 w1 w.heap.size (.int .i64 4) (.int .i64 4) (.string no) = wp := ⟨_, rfl⟩
  rw [hwp] at Bp cv
  unfold put3 at hwp
  have c0 := cv.out.1.1
  have c1 := cv.out.1.2.1
  have c2 := cv.out.1.2.2
  have a0 := fun o => (cv.out.alloc o).1.1
  have a1 := fun o => (cv.out.alloc o).1.2.1
  have a2 := fun o => (cv.out.alloc o).1.2.2
  have hwz : w.heap.size ≤ wp.heap.size := Bp.out.size
  go_wp2_with (at_builtin; refine wpList_append_own _ rfl _ _ 28 rfl w.heap.size 5 i0 (.int .u8 0) 1 1 Try.underlying28 hi hz0 hz1 hz2 rfl (by decide) _ _ _ rfl (World.ownsRow.alloc (own_one hwz 4 4 rfl) _) ⟨wp.heap.size + 1, 0, none⟩ 1 1 [.int .u8 (4)] rfl rfl (fun j u hj => by match j, hj with | 0, hj => simp at hj; subst hj; simp [Addr.add]) (fun u hu => by simp at hu; subst hu; rfl) (by decide) (by decide) (by simp; omega) ?_)
  intro v' w3 hown' hgrow _
  have R := hide (own_snoc (L := [4]) (c := 4) rfl (by simp; omega) (step Bp.out _) hown' (own_one hwz 4 4 rfl) hgrow)
  clear hown' hgrow c0 c1 c2 a0 a1 a2
  go_wp2_with fail
  go_ret
  exact ⟨_, rfl, R.out.1, R.out.2⟩
theorem bytes_any (k i : Int) (t : ByteArray) : CallB 9 #[vV k i t] (bsOf k i t) := by
  by_cases h : Good k i t
  · rw [bsOf_good h]
    rcases h with ⟨rfl, rfl, rfl⟩ | ⟨rfl, rfl⟩ | ⟨rfl, rfl | rfl, rfl⟩ | ⟨rfl, rfl, ht⟩ | ⟨rfl, ⟨h1, h2⟩, rfl⟩
    · exact bytes_0
    · exact bytes_1 i
    · exact bytes_20
    · exact bytes_21
    · exact bytes_3 t ht
    · exact bytes_4 i h1 h2
  · rw [bsOf_bad h]
    exact bytes_bad h
end Go.Proofs.Ytdbdonpcdoeeiaa
