/- The fixed calls ahead of each law of package value answer as the document fixes them. Proved of the Go text. -/
import Derived.Test.YtlgmcabnbmbocaaDoorTexts4
namespace Go.Proofs.YtlgmcabnbmbocaaDoor
open Go.RowKit Go.Sort
set_option linter.unusedVariables false

abbrev m7T : ByteArray := { data := #[45, 55] }
abbrev o7T : ByteArray := { data := #[48, 55] }
abbrev t5T : ByteArray := { data := #[53] }
abbrev q1T : ByteArray := { data := #[39, 61, 49] }
abbrev p1T : ByteArray := { data := #[61, 49] }
theorem num5 : numeral 5 = t5T := by refine data_eq ?_; rw [numeral_data, show (5 : Int) = ((5 : Nat) : Int) from rfl, itoa_pos, dec_small (by decide)]; rfl
theorem b1 : CallIs 13 #[vV 3 0 m7T] (iiV (-7) 0) := vnum_text m7T (-7) (sound_good (good_text (by decide +kernel))) (same_is fun w => read_neg m7T ⟨#[55]⟩ w (by decide +kernel) (by decide +kernel) (by decide +kernel) (by decide +kernel) (by decide +kernel) (by decide +kernel))
theorem b2 : CallT 11 #[vV 1 5 no] (siV t5T 0) := vtxt_int 5 t5T (sound_good (good_int 5)) (num5 ▸ text_is 5 (by decide) (by decide))
theorem b3 : CallIs 14 #[vV 1 5 no] (biV true 0) := vtru_true 1 5 no rfl rfl rfl (sound_good (good_int 5))
theorem b4 : CallIs 12 #[.string q1T] (vbV 3 0 p1T true) := vlit_quote q1T p1T _ _ _ (by decide +kernel) (by decide +kernel) (by decide +kernel) (by decide +kernel) (by decide +kernel) (textv_good (by decide +kernel))
theorem b5 : CallIs 12 #[.string p1T] (vbV 0 0 no false) := vlit_eq p1T (by decide +kernel) (by decide +kernel) (by decide +kernel)
theorem b6 : CallIs 13 #[vV 3 0 o7T] (iiV 0 4) := vnum_bad o7T 0 12 rfl (sound_good (good_text (by decide +kernel))) (read_of o7T (by decide +kernel) (by decide +kernel))
theorem b7 : CallIs 10 #[vV 1 5 no] (.bool true) := vmay_yes (good_int 5)
theorem b8 : CallIs 10 #[vV 9 0 no] (.bool false) := vmay_no (by unfold Good; omega)
theorem b9 : CallIs 9 #[vV 4 7 no] (.string e7T) := vshow_cycle 4 7 no (vsame_yes 4 7 no) etext7
theorem b10 : CallIs 15 #[vV 1 5 no, vV 3 0 no] (.int .i64 (-1)) := vcmp_good (good_int 5) (good_text (by decide +kernel)) (sound_good (good_int 5)) (sound_good (good_text (by decide +kernel)))
theorem b11 : CallIs 16 #[vV 1 5 no, vV 1 5 no] (.bool true) := vsame_yes 1 5 no
theorem b12 : CallIs 16 #[vV 1 5 no, vV 3 0 p1T] (.bool false) := vsame_k rfl
set_option maxHeartbeats 4000000 in
set_option maxRecDepth 100000 in
theorem begun_is  : CallT 7 #[] (.bool true) := by
  intro w ht
  have HT := hide ht
  clear ht
  have H1 := b1
  have H2 := b2
  have H3 := b3
  have H4 := b4
  have H5 := b5
  have H6 := b6
  have H7 := b7
  have H8 := b8
  have H9 := b9
  have H10 := b10
  have H11 := b11
  have H12 := b12
  go_enter Tryd.func7, Tryd.ntmps7
  try simp only [List.append]
  go_wp2_with fail
  refine (H1.out _).mono ?_
  rintro e w1 ⟨rfl, hb1⟩
  have B1 := hide (next (step (Below.refl w.heap.size w) _) hb1)
  have c5 := hide ((O3.new w (.int .i64 1) (.int .i64 5) (.string no) 26).keep hb1)
  have c5w100 := c5.out.1.1
  have c5w101 := c5.out.1.2.1
  have c5w102 := c5.out.1.2.2
  go_wp2_with fail
  refine (H2.out _ (tab_below HT.out (B1.out))).mono ?_
  rintro e w2 ⟨rfl, hb2⟩
  clear c5w100
  clear c5w101
  clear c5w102
  have B2 := hide (next (B1.out) hb2)
  replace c5 := hide (c5.out.keep hb2)
  have c5w200 := c5.out.1.1
  have c5w201 := c5.out.1.2.1
  have c5w202 := c5.out.1.2.2
  go_wp2_with fail
  refine (H3.out _).mono ?_
  rintro e w3 ⟨rfl, hb3⟩
  clear c5w200
  clear c5w201
  clear c5w202
  have B3 := hide (next (B2.out) hb3)
  replace c5 := hide (c5.out.keep hb3)
  go_wp2_with fail
  refine (H4.out _).mono ?_
  rintro e w4 ⟨rfl, hb4⟩
  have B4 := hide (next (B3.out) hb4)
  replace c5 := hide (c5.out.keep hb4)
  go_wp2_with fail
  refine (H5.out _).mono ?_
  rintro e w5 ⟨rfl, hb5⟩
  have B5 := hide (next (step (B4.out) _) hb5)
  replace c5 := hide ((c5.out.alloc _).keep hb5)
  have cq := hide ((O3.new w4 (.int .i64 3) (.int .i64 0) (.string p1T) 26).keep hb5)
  go_wp2_with fail
  refine (H6.out _).mono ?_
  rintro e w6 ⟨rfl, hb6⟩
  have B6 := hide (next (step (B5.out) _) hb6)
  replace c5 := hide ((c5.out.alloc _).keep hb6)
  replace cq := hide ((cq.out.alloc _).keep hb6)
  have cz := hide ((O3.new w5 (.int .i64 0) (.int .i64 0) (.string no) 26).keep hb6)
  have c5w600 := c5.out.1.1
  have c5w601 := c5.out.1.2.1
  have c5w602 := c5.out.1.2.2
  have cqw600 := cq.out.1.1
  have cqw601 := cq.out.1.2.1
  have cqw602 := cq.out.1.2.2
  go_wp2_with fail
  refine (H7.out _).mono ?_
  rintro e w7 ⟨rfl, hb7⟩
  clear c5w600
  clear c5w601
  clear c5w602
  clear cqw600
  clear cqw601
  clear cqw602
  have B7 := hide (next (B6.out) hb7)
  replace c5 := hide (c5.out.keep hb7)
  replace cq := hide (cq.out.keep hb7)
  replace cz := hide (cz.out.keep hb7)
  go_wp2_with fail
  refine (H8.out _).mono ?_
  rintro e w8 ⟨rfl, hb8⟩
  have B8 := hide (next (B7.out) hb8)
  replace c5 := hide (c5.out.keep hb8)
  replace cq := hide (cq.out.keep hb8)
  replace cz := hide (cz.out.keep hb8)
  go_wp2_with fail
  refine (H9.out _).mono ?_
  rintro e w9 ⟨rfl, hb9⟩
  have B9 := hide (next (B8.out) hb9)
  replace c5 := hide (c5.out.keep hb9)
  replace cq := hide (cq.out.keep hb9)
  replace cz := hide (cz.out.keep hb9)
  have c5w900 := c5.out.1.1
  have c5w901 := c5.out.1.2.1
  have c5w902 := c5.out.1.2.2
  go_wp2_with fail
  refine (H10.out _).mono ?_
  rintro e w10 ⟨rfl, hb10⟩
  clear c5w900
  clear c5w901
  clear c5w902
  have B10 := hide (next (B9.out) hb10)
  replace c5 := hide (c5.out.keep hb10)
  replace cq := hide (cq.out.keep hb10)
  replace cz := hide (cz.out.keep hb10)
  have c5w1000 := c5.out.1.1
  have c5w1001 := c5.out.1.2.1
  have c5w1002 := c5.out.1.2.2
  go_wp2_with fail
  refine (H11.out _).mono ?_
  rintro e w11 ⟨rfl, hb11⟩
  clear c5w1000
  clear c5w1001
  clear c5w1002
  have B11 := hide (next (B10.out) hb11)
  replace c5 := hide (c5.out.keep hb11)
  replace cq := hide (cq.out.keep hb11)
  replace cz := hide (cz.out.keep hb11)
  have c5w1100 := c5.out.1.1
  have c5w1101 := c5.out.1.2.1
  have c5w1102 := c5.out.1.2.2
  have cqw1100 := cq.out.1.1
  have cqw1101 := cq.out.1.2.1
  have cqw1102 := cq.out.1.2.2
  go_wp2_with fail
  refine (H12.out _).mono ?_
  rintro e w12 ⟨rfl, hb12⟩
  clear c5w1100
  clear c5w1101
  clear c5w1102
  clear cqw1100
  clear cqw1101
  clear cqw1102
  have B12 := hide (next (B11.out) hb12)
  replace c5 := hide (c5.out.keep hb12)
  replace cq := hide (cq.out.keep hb12)
  replace cz := hide (cz.out.keep hb12)
  go_wp2_with fail
  go_ret
  exact ⟨rfl, B12.out⟩
end Go.Proofs.YtlgmcabnbmbocaaDoor
