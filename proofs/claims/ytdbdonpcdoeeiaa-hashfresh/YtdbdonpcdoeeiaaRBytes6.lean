/- What the reference sums of a value: the same bytes, for every value. Proved of the Go text. -/
import Derived.Test.YtdbdonpcdoeeiaaBytes6
namespace Go.Proofs.Ytdbdonpcdoeeiaa
open Go.RowKit Go.Sort
set_option linter.unusedVariables false

set_option maxHeartbeats 400000 in
theorem rerr_is (e : Int) : CallIs 18 #[.int .i64 e] (vV 4 e no) := by
  intro w
  go_enter Try.func18, Try.ntmps18
  go_wp2_with fail
  go_returns
  exact ⟨rfl, by go_grown⟩
theorem rbyte_0 (i : Int) : IntKind.u64.wrap i / 72057594037927936 % 256 = ((byteAt i 56).toNat : Int) := by rw [← byte_0, IntKind.wrap_u64]; omega
theorem rbyte_1 (i : Int) : IntKind.u64.wrap i / 281474976710656 % 256 = ((byteAt i 48).toNat : Int) := by rw [← byte_1, IntKind.wrap_u64]; omega
theorem rbyte_2 (i : Int) : IntKind.u64.wrap i / 1099511627776 % 256 = ((byteAt i 40).toNat : Int) := by rw [← byte_2, IntKind.wrap_u64]; omega
theorem rbyte_3 (i : Int) : IntKind.u64.wrap i / 4294967296 % 256 = ((byteAt i 32).toNat : Int) := by rw [← byte_3, IntKind.wrap_u64]; omega
theorem rbyte_4 (i : Int) : IntKind.u64.wrap i / 16777216 % 256 = ((byteAt i 24).toNat : Int) := by rw [← byte_4, IntKind.wrap_u64]; omega
theorem rbyte_5 (i : Int) : IntKind.u64.wrap i / 65536 % 256 = ((byteAt i 16).toNat : Int) := by rw [← byte_5, IntKind.wrap_u64]; omega
theorem rbyte_6 (i : Int) : IntKind.u64.wrap i / 256 % 256 = ((byteAt i 8).toNat : Int) := by rw [← byte_6, IntKind.wrap_u64]; omega
theorem rbyte_7 (i : Int) : IntKind.u64.wrap i % 256 = ((byteAt i 0).toNat : Int) := by rw [← byte_7, IntKind.wrap_u64]; omega
set_option maxHeartbeats 4000000 in
theorem rbytes_1 (i : Int) : CallB 10 #[vV 1 i no] (1 :: be8 i) := by
  intro w
  obtain ⟨i0, hi, hz0, hz1, hz2⟩ := info_parts info_u8
  have HM := rmay_yes (k := 1) (i := i) (t := no) (.inr (.inl ⟨rfl, rfl⟩))
  go_enter Try.func10, Try.ntmps10
  go_wp2_with fail
  refine (HM.out _).mono ?_
  rintro e w1 ⟨rfl, hb1⟩
  have B1 := hide (next (step (Below.refl w.heap.size w) _) hb1)
  have cv := hide ((O3.new w (.int .i64 1) (.int .i64 i) (.string no) 26).keep hb1)
  have c0 := cv.out.1.1
  have a0 := fun o => (cv.out.alloc o).1.1
  have hwz : w.heap.size ≤ w1.heap.size := B1.out.size
  have hlt := cv.out.lt
  go_wp2_with fail
  clear c0 a0
  go_loopw [3, 4] (fun v sh wr => ∃ j : Nat, j ≤ 8 ∧ sh = .int .i64 (56 - 8 * (j : Int)) ∧ Hid (Own wr w1.heap.size v (1 :: (be8 i).take j)) ∧ Hid (Below w1.heap.size w1 wr)) (fun _ sh _ => (intOf sh + 8).toNat)
  case atStart => exact ⟨0, by omega, rfl, hide (own_one (Nat.le_refl _) 1 1 rfl), hide (step (Below.refl _ _) _)⟩
  case round =>
    obtain ⟨j, hj, rfl, hown, hbel⟩ := hrel
    have hwr : w1.heap.size ≤ wr.heap.size := hbel.out.size
    have c1 := (cv.out.keep hbel.out).1.2.1
    have hcase : j = 0 ∨ j = 1 ∨ j = 2 ∨ j = 3 ∨ j = 4 ∨ j = 5 ∨ j = 6 ∨ j = 7 ∨ j = 8 := by omega
    rcases hcase with rfl | rfl | rfl | rfl | rfl | rfl | rfl | rfl | rfl
    · rw [show ((56 : Int) - 8 * ((0 : Nat) : Int)) = 56 from rfl]
      obtain ⟨M, hM⟩ : ∃ M, M = 1 :: (be8 i).take 0 := ⟨_, rfl⟩
      rw [← hM] at hown
      have hlen : M.length ≤ 9 := by rw [hM, List.length_cons, List.length_take, be8_len]; omega
      replace hM := hide hM
      go_wp2_with (at_builtin; refine wpList_append_own _ rfl _ _ 28 rfl w1.heap.size 5 i0 (.int .u8 0) 1 1 Try.underlying28 hi hz0 hz1 hz2 rfl (by decide) _ _ _ rfl (World.ownsRow.alloc hown.out _) ⟨wr.heap.size, 0, none⟩ 1 1 [.int .u8 (IntKind.u64.wrap i / 72057594037927936 % 256)] rfl rfl (fun j u hj => by match j, hj with | 0, hj => simp at hj; subst hj; simp [Addr.add]) (fun u hu => by simp at hu; subst hu; rfl) (by unfold maxLen; omega) (by omega) (by simp; omega) ?_)
      intro v' w2 hown' hgrow _
      have R := hide (own_snoc (rbyte_0 i) hwr hbel.out hown' hown.out hgrow)
      clear hown' hgrow hown c1
      go_wp2
      go_roundw
      case rel => exact ⟨1, by omega, rfl, by have := R.out.1; rw [hM.out] at this; exact hide this, hide R.out.2⟩
      case measure => simp [intOf]
    · rw [show ((56 : Int) - 8 * ((1 : Nat) : Int)) = 48 from rfl]
      obtain ⟨M, hM⟩ : ∃ M, M = 1 :: (be8 i).take 1 := ⟨_, rfl⟩
      rw [← hM] at hown
      have hlen : M.length ≤ 9 := by rw [hM, List.length_cons, List.length_take, be8_len]; omega
      replace hM := hide hM
      go_wp2_with (at_builtin; refine wpList_append_own _ rfl _ _ 28 rfl w1.heap.size 5 i0 (.int .u8 0) 1 1 Try.underlying28 hi hz0 hz1 hz2 rfl (by decide) _ _ _ rfl (World.ownsRow.alloc hown.out _) ⟨wr.heap.size, 0, none⟩ 1 1 [.int .u8 (IntKind.u64.wrap i / 281474976710656 % 256)] rfl rfl (fun j u hj => by match j, hj with | 0, hj => simp at hj; subst hj; simp [Addr.add]) (fun u hu => by simp at hu; subst hu; rfl) (by unfold maxLen; omega) (by omega) (by simp; omega) ?_)
      intro v' w2 hown' hgrow _
      have R := hide (own_snoc (rbyte_1 i) hwr hbel.out hown' hown.out hgrow)
      clear hown' hgrow hown c1
      go_wp2
      go_roundw
      case rel => exact ⟨2, by omega, rfl, by have := R.out.1; rw [hM.out] at this; exact hide this, hide R.out.2⟩
      case measure => simp [intOf]
    · rw [show ((56 : Int) - 8 * ((2 : Nat) : Int)) = 40 from rfl]
      obtain ⟨M, hM⟩ : ∃ M, M = 1 :: (be8 i).take 2 := ⟨_, rfl⟩
      rw [← hM] at hown
      have hlen : M.length ≤ 9 := by rw [hM, List.length_cons, List.length_take, be8_len]; omega
      replace hM := hide hM
      go_wp2_with (at_builtin; refine wpList_append_own _ rfl _ _ 28 rfl w1.heap.size 5 i0 (.int .u8 0) 1 1 Try.underlying28 hi hz0 hz1 hz2 rfl (by decide) _ _ _ rfl (World.ownsRow.alloc hown.out _) ⟨wr.heap.size, 0, none⟩ 1 1 [.int .u8 (IntKind.u64.wrap i / 1099511627776 % 256)] rfl rfl (fun j u hj => by match j, hj with | 0, hj => simp at hj; subst hj; simp [Addr.add]) (fun u hu => by simp at hu; subst hu; rfl) (by unfold maxLen; omega) (by omega) (by simp; omega) ?_)
      intro v' w2 hown' hgrow _
      have R := hide (own_snoc (rbyte_2 i) hwr hbel.out hown' hown.out hgrow)
      clear hown' hgrow hown c1
      go_wp2
      go_roundw
      case rel => exact ⟨3, by omega, rfl, by have := R.out.1; rw [hM.out] at this; exact hide this, hide R.out.2⟩
      case measure => simp [intOf]
    · rw [show ((56 : Int) - 8 * ((3 : Nat) : Int)) = 32 from rfl]
      obtain ⟨M, hM⟩ : ∃ M, M = 1 :: (be8 i).take 3 := ⟨_, rfl⟩
      rw [← hM] at hown
      have hlen : M.length ≤ 9 := by rw [hM, List.length_cons, List.length_take, be8_len]; omega
      replace hM := hide hM
      go_wp2_with (at_builtin; refine wpList_append_own _ rfl _ _ 28 rfl w1.heap.size 5 i0 (.int .u8 0) 1 1 Try.underlying28 hi hz0 hz1 hz2 rfl (by decide) _ _ _ rfl (World.ownsRow.alloc hown.out _) ⟨wr.heap.size, 0, none⟩ 1 1 [.int .u8 (IntKind.u64.wrap i / 4294967296 % 256)] rfl rfl (fun j u hj => by match j, hj with | 0, hj => simp at hj; subst hj; simp [Addr.add]) (fun u hu => by simp at hu; subst hu; rfl) (by unfold maxLen; omega) (by omega) (by simp; omega) ?_)
      intro v' w2 hown' hgrow _
      have R := hide (own_snoc (rbyte_3 i) hwr hbel.out hown' hown.out hgrow)
      clear hown' hgrow hown c1
      go_wp2
      go_roundw
      case rel => exact ⟨4, by omega, rfl, by have := R.out.1; rw [hM.out] at this; exact hide this, hide R.out.2⟩
      case measure => simp [intOf]
    · rw [show ((56 : Int) - 8 * ((4 : Nat) : Int)) = 24 from rfl]
      obtain ⟨M, hM⟩ : ∃ M, M = 1 :: (be8 i).take 4 := ⟨_, rfl⟩
      rw [← hM] at hown
      have hlen : M.length ≤ 9 := by rw [hM, List.length_cons, List.length_take, be8_len]; omega
      replace hM := hide hM
      go_wp2_with (at_builtin; refine wpList_append_own _ rfl _ _ 28 rfl w1.heap.size 5 i0 (.int .u8 0) 1 1 Try.underlying28 hi hz0 hz1 hz2 rfl (by decide) _ _ _ rfl (World.ownsRow.alloc hown.out _) ⟨wr.heap.size, 0, none⟩ 1 1 [.int .u8 (IntKind.u64.wrap i / 16777216 % 256)] rfl rfl (fun j u hj => by match j, hj with | 0, hj => simp at hj; subst hj; simp [Addr.add]) (fun u hu => by simp at hu; subst hu; rfl) (by unfold maxLen; omega) (by omega) (by simp; omega) ?_)
      intro v' w2 hown' hgrow _
      have R := hide (own_snoc (rbyte_4 i) hwr hbel.out hown' hown.out hgrow)
      clear hown' hgrow hown c1
      go_wp2
      go_roundw
      case rel => exact ⟨5, by omega, rfl, by have := R.out.1; rw [hM.out] at this; exact hide this, hide R.out.2⟩
      case measure => simp [intOf]
    · rw [show ((56 : Int) - 8 * ((5 : Nat) : Int)) = 16 from rfl]
      obtain ⟨M, hM⟩ : ∃ M, M = 1 :: (be8 i).take 5 := ⟨_, rfl⟩
      rw [← hM] at hown
      have hlen : M.length ≤ 9 := by rw [hM, List.length_cons, List.length_take, be8_len]; omega
      replace hM := hide hM
      go_wp2_with (at_builtin; refine wpList_append_own _ rfl _ _ 28 rfl w1.heap.size 5 i0 (.int .u8 0) 1 1 Try.underlying28 hi hz0 hz1 hz2 rfl (by decide) _ _ _ rfl (World.ownsRow.alloc hown.out _) ⟨wr.heap.size, 0, none⟩ 1 1 [.int .u8 (IntKind.u64.wrap i / 65536 % 256)] rfl rfl (fun j u hj => by match j, hj with | 0, hj => simp at hj; subst hj; simp [Addr.add]) (fun u hu => by simp at hu; subst hu; rfl) (by unfold maxLen; omega) (by omega) (by simp; omega) ?_)
      intro v' w2 hown' hgrow _
      have R := hide (own_snoc (rbyte_5 i) hwr hbel.out hown' hown.out hgrow)
      clear hown' hgrow hown c1
      go_wp2
      go_roundw
      case rel => exact ⟨6, by omega, rfl, by have := R.out.1; rw [hM.out] at this; exact hide this, hide R.out.2⟩
      case measure => simp [intOf]
    · rw [show ((56 : Int) - 8 * ((6 : Nat) : Int)) = 8 from rfl]
      obtain ⟨M, hM⟩ : ∃ M, M = 1 :: (be8 i).take 6 := ⟨_, rfl⟩
      rw [← hM] at hown
      have hlen : M.length ≤ 9 := by rw [hM, List.length_cons, List.length_take, be8_len]; omega
      replace hM := hide hM
      go_wp2_with (at_builtin; refine wpList_append_own _ rfl _ _ 28 rfl w1.heap.size 5 i0 (.int .u8 0) 1 1 Try.underlying28 hi hz0 hz1 hz2 rfl (by decide) _ _ _ rfl (World.ownsRow.alloc hown.out _) ⟨wr.heap.size, 0, none⟩ 1 1 [.int .u8 (IntKind.u64.wrap i / 256 % 256)] rfl rfl (fun j u hj => by match j, hj with | 0, hj => simp at hj; subst hj; simp [Addr.add]) (fun u hu => by simp at hu; subst hu; rfl) (by unfold maxLen; omega) (by omega) (by simp; omega) ?_)
      intro v' w2 hown' hgrow _
      have R := hide (own_snoc (rbyte_6 i) hwr hbel.out hown' hown.out hgrow)
      clear hown' hgrow hown c1
      go_wp2
      go_roundw
      case rel => exact ⟨7, by omega, rfl, by have := R.out.1; rw [hM.out] at this; exact hide this, hide R.out.2⟩
      case measure => simp [intOf]
    · rw [show ((56 : Int) - 8 * ((7 : Nat) : Int)) = 0 from rfl]
      obtain ⟨M, hM⟩ : ∃ M, M = 1 :: (be8 i).take 7 := ⟨_, rfl⟩
      rw [← hM] at hown
      have hlen : M.length ≤ 9 := by rw [hM, List.length_cons, List.length_take, be8_len]; omega
      replace hM := hide hM
      go_wp2_with (at_builtin; refine wpList_append_own _ rfl _ _ 28 rfl w1.heap.size 5 i0 (.int .u8 0) 1 1 Try.underlying28 hi hz0 hz1 hz2 rfl (by decide) _ _ _ rfl (World.ownsRow.alloc hown.out _) ⟨wr.heap.size, 0, none⟩ 1 1 [.int .u8 (IntKind.u64.wrap i % 256)] rfl rfl (fun j u hj => by match j, hj with | 0, hj => simp at hj; subst hj; simp [Addr.add]) (fun u hu => by simp at hu; subst hu; rfl) (by unfold maxLen; omega) (by omega) (by simp; omega) ?_)
      intro v' w2 hown' hgrow _
      have R := hide (own_snoc (rbyte_7 i) hwr hbel.out hown' hown.out hgrow)
      clear hown' hgrow hown c1
      go_wp2
      go_roundw
      case rel => exact ⟨8, by omega, rfl, by have := R.out.1; rw [hM.out] at this; exact hide this, hide R.out.2⟩
      case measure => simp [intOf]
    · rw [show ((56 : Int) - 8 * ((8 : Nat) : Int)) = -8 from rfl]
      go_wp2_with fail
      go_ret
      exact ⟨_, rfl, hown.out.low hwz, next B1.out hbel.out⟩
set_option maxHeartbeats 1000000 in
theorem rbytes_0  : CallB 10 #[vV 0 0 no] ([0]) := by
  intro w
  obtain ⟨i0, hi, hz0, hz1, hz2⟩ := info_parts info_u8
  have HM := rmay_yes (.inl ⟨rfl, rfl, rfl⟩)
  go_enter Try.func10, Try.ntmps10
  go_wp2_with fail
  refine (HM.out _).mono ?_
  rintro e w1 ⟨rfl, hb1⟩
  have B1 := hide (next (step (Below.refl w.heap.size w) _) hb1)
  have cv := hide ((O3.new w (.int .i64 0) (.int .i64 0) (.string no) 26).keep hb1)
  have c0 := cv.out.1.1
  have c1 := cv.out.1.2.1
  have c2 := cv.out.1.2.2
  have a0 := fun o => (cv.out.alloc o).1.1
  have a1 := fun o => (cv.out.alloc o).1.2.1
  have a2 := fun o => (cv.out.alloc o).1.2.2
  have hwz : w.heap.size ≤ w1.heap.size := B1.out.size
  go_wp2_with fail
  go_ret
  exact ⟨_, rfl, (own_one hwz 0 0 rfl), step B1.out _⟩
set_option maxHeartbeats 1000000 in
theorem rbytes_20  : CallB 10 #[vV 2 0 no] ([2, 0]) := by
  intro w
  obtain ⟨i0, hi, hz0, hz1, hz2⟩ := info_parts info_u8
  have HM := rmay_yes (k := 2) (i := 0) (t := no) (.inr (.inr (.inl ⟨rfl, .inl rfl, rfl⟩)))
  go_enter Try.func10, Try.ntmps10
  go_wp2_with fail
  refine (HM.out _).mono ?_
  rintro e w1 ⟨rfl, hb1⟩
  have B1 := hide (next (step (Below.refl w.heap.size w) _) hb1)
  have cv := hide ((O3.new w (.int .i64 2) (.int .i64 0) (.string no) 26).keep hb1)
  have c0 := cv.out.1.1
  have c1 := cv.out.1.2.1
  have c2 := cv.out.1.2.2
  have a0 := fun o => (cv.out.alloc o).1.1
  have a1 := fun o => (cv.out.alloc o).1.2.1
  have a2 := fun o => (cv.out.alloc o).1.2.2
  have hwz : w.heap.size ≤ w1.heap.size := B1.out.size
  go_wp2_with (at_builtin; refine wpList_append_own _ rfl _ _ 28 rfl w.heap.size 5 i0 (.int .u8 0) 1 1 Try.underlying28 hi hz0 hz1 hz2 rfl (by decide) _ _ _ rfl (World.ownsRow.alloc (own_one hwz 2 2 rfl) _) ⟨w1.heap.size + 1, 0, none⟩ 1 1 [.int .u8 (0)] rfl rfl (fun j u hj => by match j, hj with | 0, hj => simp at hj; subst hj; simp [Addr.add]) (fun u hu => by simp at hu; subst hu; rfl) (by decide) (by decide) (by simp; omega) ?_)
  intro v' w3 hown' hgrow _
  have R := hide (own_snoc (L := [2]) (c := 0) rfl (by simp; omega) (step B1.out _) hown' (own_one hwz 2 2 rfl) hgrow)
  clear hown' hgrow c0 c1 c2 a0 a1 a2
  go_wp2_with fail
  go_ret
  exact ⟨_, rfl, R.out.1, R.out.2⟩
set_option maxHeartbeats 1000000 in
theorem rbytes_21  : CallB 10 #[vV 2 1 no] ([2, 1]) := by
  intro w
  obtain ⟨i0, hi, hz0, hz1, hz2⟩ := info_parts info_u8
  have HM := rmay_yes (k := 2) (i := 1) (t := no) (.inr (.inr (.inl ⟨rfl, .inr rfl, rfl⟩)))
  go_enter Try.func10, Try.ntmps10
  go_wp2_with fail
  refine (HM.out _).mono ?_
  rintro e w1 ⟨rfl, hb1⟩
  have B1 := hide (next (step (Below.refl w.heap.size w) _) hb1)
  have cv := hide ((O3.new w (.int .i64 2) (.int .i64 1) (.string no) 26).keep hb1)
  have c0 := cv.out.1.1
  have c1 := cv.out.1.2.1
  have c2 := cv.out.1.2.2
  have a0 := fun o => (cv.out.alloc o).1.1
  have a1 := fun o => (cv.out.alloc o).1.2.1
  have a2 := fun o => (cv.out.alloc o).1.2.2
  have hwz : w.heap.size ≤ w1.heap.size := B1.out.size
  go_wp2_with (at_builtin; refine wpList_append_own _ rfl _ _ 28 rfl w.heap.size 5 i0 (.int .u8 0) 1 1 Try.underlying28 hi hz0 hz1 hz2 rfl (by decide) _ _ _ rfl (World.ownsRow.alloc (own_one hwz 2 2 rfl) _) ⟨w1.heap.size + 1, 0, none⟩ 1 1 [.int .u8 (1)] rfl rfl (fun j u hj => by match j, hj with | 0, hj => simp at hj; subst hj; simp [Addr.add]) (fun u hu => by simp at hu; subst hu; rfl) (by decide) (by decide) (by simp; omega) ?_)
  intro v' w3 hown' hgrow _
  have R := hide (own_snoc (L := [2]) (c := 1) rfl (by simp; omega) (step B1.out _) hown' (own_one hwz 2 2 rfl) hgrow)
  clear hown' hgrow c0 c1 c2 a0 a1 a2
  go_wp2_with fail
  go_ret
  exact ⟨_, rfl, R.out.1, R.out.2⟩
set_option maxHeartbeats 1000000 in
theorem rbytes_3 (t : ByteArray) (ht : t.size ≤ 32767) : CallB 10 #[vV 3 0 t] (3 :: t.data.toList) := by
  intro w
  obtain ⟨i0, hi, hz0, hz1, hz2⟩ := info_parts info_u8
  have HM := rmay_yes (k := 3) (i := 0) (t := t) (.inr (.inr (.inr (.inl ⟨rfl, rfl, ht⟩))))
  go_enter Try.func10, Try.ntmps10
  go_wp2_with fail
  refine (HM.out _).mono ?_
  rintro e w1 ⟨rfl, hb1⟩
  have B1 := hide (next (step (Below.refl w.heap.size w) _) hb1)
  have cv := hide ((O3.new w (.int .i64 3) (.int .i64 0) (.string t) 26).keep hb1)
  have c0 := cv.out.1.1
  have c1 := cv.out.1.2.1
  have c2 := cv.out.1.2.2
  have a0 := fun o => (cv.out.alloc o).1.1
  have a1 := fun o => (cv.out.alloc o).1.2.1
  have a2 := fun o => (cv.out.alloc o).1.2.2
  have hwz : w.heap.size ≤ w1.heap.size := B1.out.size
  go_wp2_with (at_builtin; refine Lib.wpList_append_own_string _ rfl _ _ 28 9 rfl w.heap.size 5 i0 Try.underlying28 Try.underlying9 hi hz0 hz1 hz2 _ _ _ rfl (own_one hwz 3 3 rfl) t rfl (by unfold maxLen; omega) (by omega) (by simp; omega) ?_)
  intro v' w3 hown' hgrow _
  have R := hide (own_str (by simp; omega) (step B1.out _) hown' (own_one hwz 3 3 rfl) hgrow)
  clear hown' hgrow c0 c1 c2 a0 a1 a2
  go_wp2_with fail
  go_ret
  exact ⟨_, rfl, R.out.1, R.out.2⟩
set_option maxHeartbeats 1000000 in
theorem rbytes_4 (i : Int) (h1 : 1 ≤ i) (h2 : i ≤ 6) : CallB 10 #[vV 4 i no] ([4, UInt8.ofNat i.toNat]) := by
  intro w
  obtain ⟨i0, hi, hz0, hz1, hz2⟩ := info_parts info_u8
  have HM := rmay_yes (k := 4) (i := i) (t := no) (.inr (.inr (.inr (.inr ⟨rfl, ⟨h1, h2⟩, rfl⟩))))
  go_enter Try.func10, Try.ntmps10
  go_wp2_with fail
  refine (HM.out _).mono ?_
  rintro e w1 ⟨rfl, hb1⟩
  have B1 := hide (next (step (Below.refl w.heap.size w) _) hb1)
  have cv := hide ((O3.new w (.int .i64 4) (.int .i64 i) (.string no) 26).keep hb1)
  have c0 := cv.out.1.1
  have c1 := cv.out.1.2.1
  have c2 := cv.out.1.2.2
  have a0 := fun o => (cv.out.alloc o).1.1
  have a1 := fun o => (cv.out.alloc o).1.2.1
  have a2 := fun o => (cv.out.alloc o).1.2.2
  have hwz : w.heap.size ≤ w1.heap.size := B1.out.size
  go_wp2_with (at_builtin; refine wpList_append_own _ rfl _ _ 28 rfl w.heap.size 5 i0 (.int .u8 0) 1 1 Try.underlying28 hi hz0 hz1 hz2 rfl (by decide) _ _ _ rfl (World.ownsRow.alloc (own_one hwz 4 4 rfl) _) ⟨w1.heap.size + 1, 0, none⟩ 1 1 [.int .u8 (i)] rfl rfl (fun j u hj => by match j, hj with | 0, hj => simp at hj; subst hj; simp [Addr.add]) (fun u hu => by simp at hu; subst hu; rfl) (by decide) (by decide) (by simp; omega) ?_)
  intro v' w3 hown' hgrow _
  have R := hide (own_snoc (L := [4]) (c := UInt8.ofNat i.toNat) (small_byte (by omega) (by omega)) (by simp; omega) (step B1.out _) hown' (own_one hwz 4 4 rfl) hgrow)
  clear hown' hgrow c0 c1 c2 a0 a1 a2
  go_wp2_with fail
  go_ret
  exact ⟨_, rfl, R.out.1, R.out.2⟩
set_option maxHeartbeats 1000000 in
theorem rbytes_bad {k i : Int} {t : ByteArray} (h : ¬ Good k i t) : CallB 10 #[vV k i t] ([4, 4]) := by
  intro w
  obtain ⟨i0, hi, hz0, hz1, hz2⟩ := info_parts info_u8
  have HM := rmay_no h
  clear h
  have HE := rerr_is 4
  go_enter Try.func10, Try.ntmps10
  go_wp2_with fail
  refine (HM.out _).mono ?_
  rintro e w1 ⟨rfl, hb1⟩
  have B1 := hide (next (step (Below.refl w.heap.size w) _) hb1)
  have cv := hide ((O3.new w (.int .i64 k) (.int .i64 i) (.string t) 26).keep hb1)
  go_wp2_with fail
  refine (HE.out _).mono ?_
  rintro e w2 ⟨rfl, hb2⟩
  replace B1 := hide (next B1.out hb2)
  replace cv := hide (cv.out.keep hb2)
  have d0 := cv.out.1.1
  have d1 := cv.out.1.2.1
  have d2 := cv.out.1.2.2
  have df := cv.out.2
  have Bp := hide (below_put3 (b := w.heap.size) B1.out (Nat.le_refl _) (.int .i64 4) (.int .i64 4) (.string no))
  replace cv := hide (cv.out.put (.int .i64 4) (.int .i64 4) (.string no))
  obtain ⟨wp, hwp⟩ : ∃ wp, put3 w2 w.heap.size (.int .i64 4) (.int .i64 4) (.string no) = wp := ⟨_, rfl⟩
  rw [hwp] at Bp cv
  unfold put3 at hwp
  have c0 := cv.out.1.1
  have c1 := cv.out.1.2.1
  have c2 := cv.out.1.2.2
  have a0 := fun o => (cv.out.alloc o).1.1
  have a1 := fun o => (cv.out.alloc o).1.2.1
  have a2 := fun o => (cv.out.alloc o).1.2.2
  have hwz : w.heap.size ≤ wp.heap.size := Bp.out.size
  go_wp2_with (at_builtin; refine wpList_append_own _ rfl _ _ 28 rfl w.heap.size 5 i0 (.int .u8 0) 1 1 Try.underlying28 hi hz0 hz1 hz2 rfl (by decide) _ _ _ rfl (World.ownsRow.alloc (own_one hwz 4 4 rfl) _) ⟨wp.heap.size + 1, 0, none⟩ 1 1 [.int .u8 (4)] rfl rfl (fun j u hj => by match j, hj with | 0, hj => simp at hj; subst hj; simp [Addr.add]) (fun u hu => by simp at hu; subst hu; rfl) (by decide) (by decide) (by simp; omega) ?_)
  intro v' w3 hown' hgrow _
  have R := hide (own_snoc (L := [4]) (c := 4) rfl (by simp; omega) (step Bp.out _) hown' (own_one hwz 4 4 rfl) hgrow)
  clear hown' hgrow c0 c1 c2 a0 a1 a2
  go_wp2_with fail
  go_ret
  exact ⟨_, rfl, R.out.1, R.out.2⟩
theorem rbytes_any (k i : Int) (t : ByteArray) : CallB 10 #[vV k i t] (bsOf k i t) := by
  by_cases h : Good k i t
  · rw [bsOf_good h]
    rcases h with ⟨rfl, rfl, rfl⟩ | ⟨rfl, rfl⟩ | ⟨rfl, rfl | rfl, rfl⟩ | ⟨rfl, rfl, ht⟩ | ⟨rfl, ⟨h1, h2⟩, rfl⟩
    · exact rbytes_0
    · exact rbytes_1 i
    · exact rbytes_20
    · exact rbytes_21
    · exact rbytes_3 t ht
    · exact rbytes_4 i h1 h2
  · rw [bsOf_bad h]
    exact rbytes_bad h
end Go.Proofs.Ytdbdonpcdoeeiaa
