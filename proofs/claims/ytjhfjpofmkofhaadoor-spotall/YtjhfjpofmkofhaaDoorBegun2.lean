/- The fixed calls ahead of each law answer as the document fixes them: proved of the Go text, given that strconv's table of powers is as its text lays it. -/
import Derived.Test.YtjhfjpofmkofhaaDoorArea
namespace Go.Proofs.YtjhfjpofmkofhaaDoor
open Go.RowKit
set_option linter.unusedVariables false

theorem itoa_10 : Lib.itoa 10 = [49, 48] := by
  rw [show (10 : Int) = ((10 : Nat) : Int) from rfl, itoa_pos, dec_big (by decide), dec_small (by decide)]; rfl
theorem aa10 : refB 9 26 false false = ⟨#[65, 65, 49, 48]⟩ := by
  have h : numeral 10 = ⟨#[49, 48]⟩ := by unfold numeral; rw [itoa_10]
  unfold refB
  rw [show ((9 : Nat) : Int) + 1 = 10 from rfl, h]
  decide +kernel
abbrev t1 : ByteArray := { data := #[36, 97, 98, 36, 49, 50, 43, 49] }
abbrev t2 : ByteArray := { data := #[90, 90, 54, 53, 53, 51, 54] }
abbrev t3 : ByteArray := { data := #[98, 50, 58, 36, 65, 36, 49] }
abbrev t3k : ByteArray := { data := #[58, 36, 65, 36, 49] }
abbrev t3u : ByteArray := { data := #[36, 65, 36, 49] }
abbrev t4 : ByteArray := { data := #[98, 55] }
abbrev t5 : ByteArray := { data := #[65, 49, 58, 65, 65, 65, 49] }
abbrev t5k : ByteArray := { data := #[58, 65, 65, 65, 49] }
abbrev t5u : ByteArray := { data := #[65, 65, 65, 49] }
theorem begun1 (w : World) (ht : Tab w) : Calls Tryd.prog 10 #[spotV 9 26] w fun e w' => e = .returned (.tuple #[.string { data := #[65, 65, 49, 48] }, .int .i64 0]) ∧ Below w.heap.size w w' := by
  have := text_yes 9 26 w (by decide) (by decide) ht
  rw [aa10] at this
  exact this
theorem begun2 (w : World) : Calls Tryd.prog 14 #[.string t1] w fun e w' => e = .returned (.tuple #[refV 11 27 true true, .int .i64 6, .int .i64 0]) ∧ Below w.heap.size w w' := by
  have := readRef_any t1 w (by decide +kernel)
  rw [show rR t1 = 11 by decide +kernel, show rC t1 = 27 by decide +kernel, show rP t1 = true by decide +kernel, show rQ t1 = true by decide +kernel, show rN t1 = 6 by decide +kernel, show rE t1 = 0 by decide +kernel] at this
  exact this.mono fun e w' ⟨h, h'⟩ => ⟨h, h' ▸ (Below.refl _ _).alloc (Nat.le_refl _) _⟩
theorem begun3 (w : World) : Calls Tryd.prog 13 #[.string t2] w fun e w' => e = .returned (.tuple #[spotV 65535 701, .int .i64 0]) ∧ Below w.heap.size w w' := by
  have := read_good t2 w (by decide +kernel) (by decide +kernel)
  rwa [show rR t2 = 65535 by decide +kernel, show rC t2 = 701 by decide +kernel, show rE t2 = 0 by decide +kernel] at this
theorem begun4 (w : World) : Calls Tryd.prog 17 #[.string t3] w fun e w' => e = .returned (.tuple #[areaV 0 0 1 1, .int .i64 0]) ∧ Below w.heap.size w w' := by
  refine area_two t3 w (by decide +kernel) t3k 0 0 0 true true (by decide +kernel) (by decide +kernel) (by decide +kernel) (hide fun w => ?_) (by decide +kernel) (by decide +kernel) (by decide +kernel) 0 0 1 1 0 (hide fun w => ?_)
  · have := corner_good t3k t3u w (by decide +kernel) (by decide +kernel) (by decide +kernel) (by decide +kernel) (by decide +kernel)
    rwa [show rR t3u = 0 by decide +kernel, show rC t3u = 0 by decide +kernel, show rP t3u = true by decide +kernel, show rQ t3u = true by decide +kernel, show rE t3u = 0 by decide +kernel] at this
  · have := between_yes 1 1 0 0 false false true true w (by decide) (by decide) (by decide) (by decide) (by decide) (by decide) (by decide) (by decide) (by decide)
    rwa [show rR t3 = 1 by decide +kernel, show rC t3 = 1 by decide +kernel, show rP t3 = false by decide +kernel, show rQ t3 = false by decide +kernel]
theorem begun5 (w : World) : Calls Tryd.prog 13 #[.string t4] w fun e w' => e = .returned (.tuple #[spotV 0 0, .int .i64 20]) ∧ Below w.heap.size w w' :=
  read_bad t4 w (by decide +kernel) (by decide +kernel)
theorem begun6 (w : World) : Calls Tryd.prog 17 #[.string t5] w fun e w' => e = .returned (.tuple #[areaV 0 0 0 0, .int .i64 10]) ∧ Below w.heap.size w w' := by
  refine area_two_off2 t5 w (by decide +kernel) t5k 0 0 10 false false (by decide +kernel) (by decide +kernel) (by decide +kernel) (hide fun w => ?_) (by decide +kernel) (by decide +kernel) (by decide +kernel)
  have := corner_good t5k t5u w (by decide +kernel) (by decide +kernel) (by decide +kernel) (by decide +kernel) (by decide +kernel)
  rwa [show rR t5u = 0 by decide +kernel, show rC t5u = 0 by decide +kernel, show rP t5u = false by decide +kernel, show rQ t5u = false by decide +kernel, show rE t5u = 10 by decide +kernel] at this

set_option maxHeartbeats 2000000 in
theorem begun_any (w : World) (ht : Tab w) :
    Calls Tryd.prog 8 #[] w fun e w' => e = .returned (.bool true) ∧ Below w.heap.size w w' := by
  have m1 : mayB 65535 701 = true := by decide
  have m2 : mayB 65536 0 = false := by decide
  have HT := hide (begun1 w ht)
  have H2 := hide begun2
  have H3 := hide begun3
  have H4 := hide begun4
  have H5 := hide begun5
  have H6 := hide begun6
  clear ht
  go_enter Tryd.func8, Tryd.ntmps8
  try simp only [List.append]
  go_wp2_with fail
  refine HT.out.mono ?_
  rintro e w1 ⟨rfl, hb1⟩
  go_wp2_with fail
  refine (H2.out _).mono ?_
  rintro e w2 ⟨rfl, hb2⟩
  go_wp2_with fail
  refine (H3.out _).mono ?_
  rintro e w3 ⟨rfl, hb3⟩
  have cr := hide ((C4.new w2 (.int .i64 11) (.int .i64 27) (.bool true) (.bool true) 28).keep hb3)
  go_wp2_with fail
  refine (H4.out _).mono ?_
  rintro e w4 ⟨rfl, hb4⟩
  have ca := hide ((C2.new w3 (.int .i64 65535) (.int .i64 701) 26).keep hb4)
  replace cr := hide ((cr.out.alloc _).keep hb4)
  go_wp2_with fail
  refine (H5.out _).mono ?_
  rintro e w5 ⟨rfl, hb5⟩
  have cx := hide ((C4.new w4 (.int .i64 0) (.int .i64 0) (.int .i64 1) (.int .i64 1) 46).keep hb5)
  replace cr := hide ((cr.out.alloc _).keep hb5)
  replace ca := hide ((ca.out.alloc _).keep hb5)
  go_wp2_with fail
  refine (H6.out _).mono ?_
  rintro e w6 ⟨rfl, hb6⟩
  obtain ⟨r0, r1, r2, r3⟩ := ((cr.out.alloc _).keep hb6).any
  obtain ⟨a0, a1⟩ := ((ca.out.alloc _).keep hb6).any
  obtain ⟨x0, x1, x2, x3⟩ := ((cx.out.alloc _).keep hb6).any
  go_wp2_with (go_at_call 12; refine (may_any _ _ _).mono ?_; rintro e w' ⟨rfl, rfl⟩)
  go_ret
  exact ⟨rfl, step (step (step (next (step (next (step (next (step (next (step (next hb1 hb2) _) hb3) _) hb4) _) hb5) _) hb6) _) _) _⟩
end Go.Proofs.YtjhfjpofmkofhaaDoor
