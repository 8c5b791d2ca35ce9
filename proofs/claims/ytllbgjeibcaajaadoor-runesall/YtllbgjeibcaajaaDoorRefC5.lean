/- What the reference's begins, Find, Code and Char answer, for every text and number: proved of the Go text. -/
import Derived.Test.YtllbgjeibcaajaaDoorRefL5
import Derived.Test.YtllbgjeibcaajaaDoorFoundDefs
import Derived.Test.YtllbgjeibcaajaaDoorTimes5
namespace Go.Proofs.YtllbgjeibcaajaaDoor
open Go.RowKit Go.Sort
set_option linter.unusedVariables false

theorem rbegins_any (s what : ByteArray) (a : Nat) (ha : a ≤ s.size) : CallIs 25 #[.string (s.extract a s.size), .string what] (.bool (occ s what a)) := by
  intro w
  cases ho : occ s what a with
  | true =>
    obtain ⟨b1, b2⟩ := begins_yes s what a ha ho
    generalize s.extract a s.size = r at *
    have b3 : (r.size : Int) ≥ what.size := by omega
    go_enter Tryd.func25, Tryd.ntmps25
    go_wp2_with fail
    go_ret
    exact ⟨ret_bool (by first | rfl | assumption), Below.refl _ _⟩
  | false =>
    obtain b1 | ⟨b1, b2⟩ := begins_no s what a ha ho
    · generalize s.extract a s.size = r at *
      have b3 : ¬ (r.size : Int) ≥ what.size := by omega
      go_enter Tryd.func25, Tryd.ntmps25
      go_wp2_with fail
      go_ret
      exact ⟨ret_bool (by first | rfl | assumption), Below.refl _ _⟩
    · generalize s.extract a s.size = r at *
      have b3 : (r.size : Int) ≥ what.size := by omega
      go_enter Tryd.func25, Tryd.ntmps25
      go_wp2_with fail
      go_ret
      exact ⟨ret_bool (by first | rfl | assumption), Below.refl _ _⟩
theorem rcode_no : CallIs 16 #[.string no] (.tuple #[.int .i64 0, .int .i64 1]) := by
  intro w
  go_enter Tryd.func16, Tryd.ntmps16
  go_wp2_with fail
  go_ret2
  exact ⟨rfl, Below.refl _ _⟩
theorem rcode_yes (s : ByteArray) (hs : s.size ≤ 200000) (h : 0 < s.size) : CallIs 16 #[.string s] (.tuple #[.int .i64 (nr s 0), .int .i64 0]) := by
  intro w
  have HR := rune_any s 0 h hs
  have a1 := toList_ne h
  have a2 := full2 h
  have a3 := full3 h
  generalize nr s 0 = x at *
  generalize wd s 0 = y at *
  go_enter Tryd.func16, Tryd.ntmps16
  go_wp2_with fail
  refine (HR.out _).mono ?_
  rintro e w1 ⟨rfl, hb⟩
  go_wp2_with fail
  go_ret2
  exact ⟨rfl, hb⟩
theorem rfind_no (what s : ByteArray) (f : Int) (hs : s.size ≤ 200000) (h : f < 1 ∨ f > (rc s 0 : Int) + 1) : CallIs 15 #[.string what, .string s, .int .i64 f] (.tuple #[.int .i64 0, .int .i64 1]) := by
  intro w
  have HS := starts_any s hs
  by_cases h1 : f < 1
  · clear h
    go_enter Tryd.func15, Tryd.ntmps15
    go_wp2_with fail
    refine (HS.out _).mono ?_
    rintro e w1 ⟨g, c, rfl, hg, hc, hP, hb⟩
    go_wp2_with fail
    go_ret2
    exact ⟨rfl, hb⟩
  · have h2 : f > (rc s 0 : Int) + 1 := by omega
    clear h
    go_enter Tryd.func15, Tryd.ntmps15
    go_wp2_with fail
    refine (HS.out _).mono ?_
    rintro e w1 ⟨g, c, rfl, hg, hc, hP, hb⟩
    go_wp2_with fail
    go_ret2
    exact ⟨rfl, hb⟩
set_option maxHeartbeats 1000000 in
theorem rfind_yes (what s : ByteArray) (f : Nat) (hs : s.size ≤ 200000) (h1 : 1 ≤ f) (h2 : f ≤ rc s 0 + 1) : CallIs 15 #[.string what, .string s, .int .i64 f] (findV (fnd s what (rc s 0 + 2 - f) f)) := by
  intro w
  have HS := starts_any s hs
  have hr := rc_size s
  generalize hF : fnd s what (rc s 0 + 2 - f) f = F
  replace hF := hide hF
  have a1 : ¬ (f : Int) < 1 := by omega
  have a2 : ¬ (f : Int) > (rc s 0 : Int) + 1 := by omega
  replace hr := hide hr
  go_enter Tryd.func15, Tryd.ntmps15
  go_wp2_with fail
  refine (HS.out _).mono ?_
  rintro e w1 ⟨g, c, rfl, hg, hc, hP, hb⟩
  replace hP := hide hP
  replace hb := hide hb
  go_wp2_with fail
  clear a1 a2
  go_loopw [9] (fun pv wr => ∃ m : Nat, f ≤ m + 1 ∧ m ≤ rc s 0 + 1 ∧ pv = .int .i64 ((m : Int) + 1) ∧ Hid (fnd s what (rc s 0 + 1 - m) (m + 1) = F) ∧ Hid (Places s g wr) ∧ Hid (Below w.heap.size w wr)) (fun pv _ => rc s 0 + 2 - (intOf pv).toNat)
  case atStart => exact ⟨f - 1, by omega, by omega, by rw [show ((f - 1 : Nat) : Int) + 1 = f by omega], hide (by rw [show rc s 0 + 1 - (f - 1) = rc s 0 + 2 - f by omega, show f - 1 + 1 = f by omega]; exact hF.out), hP, hb⟩
  case round =>
    clear hP hb hF
    obtain ⟨m, hm1, hm2, rfl, hF, hP, hB⟩ := hrel
    have hrs := hr.out
    by_cases hlt : m ≤ rc s 0
    · have c1 := hP.out m hlt
      have hle := sk_le s m 0 (Nat.zero_le _)
      have HG := rbegins_any s what (sk s m 0) hle
      have b1 : (m : Int) + 1 ≤ (rc s 0 : Int) + 1 := by omega
      have b2 : (m : Int) < (rc s 0 : Int) + 1 := by omega
      have wm := hide (w_in m (by omega))
      have wm2 : Hid (wrap64 ((m : Int) + 1 + 1) = (m : Int) + 1 + 1) := hide (IntWalk.wrap64_in _ ⟨by omega, by omega⟩)
      have hst : Hid (fnd s what (rc s 0 + 1 - m) (m + 1) = if occ s what (sk s m 0) then some (m + 1) else fnd s what (rc s 0 + 1 - (m + 1)) (m + 1 + 1)) := by
        rw [show rc s 0 + 1 - m = (rc s 0 + 1 - (m + 1)) + 1 by omega, fnd]
        exact hide rfl
      generalize sk s m 0 = x at *
      have wm' := wm.out
      cases ho : occ s what x with
      | true =>
        rw [ho] at HG hst
        have hres : Hid (F = some (m + 1)) := by rw [← hF.out, hst.out]; exact hide rfl
        replace hrs := hide hrs
        go_wp2_with fail
        refine (HG.out _).mono ?_
        rintro e w2 ⟨rfl, hb2⟩
        go_wp2_with fail
        go_ret2
        exact ⟨by rw [hres.out]; rfl, next hB.out hb2⟩
      | false =>
        rw [ho] at HG hst
        have hres : Hid (fnd s what (rc s 0 + 1 - (m + 1)) (m + 1 + 1) = F) := by rw [← hF.out, hst.out]; exact hide rfl
        have wm2' := wm2.out
        replace hrs := hide hrs
        go_wp2_with fail
        refine (HG.out _).mono ?_
        rintro e w2 ⟨rfl, hb2⟩
        have hB2 := hide (next hB.out hb2)
        have hP2 := hide (hP.out.keep hb2)
        clear hb2
        go_wp2_with fail
        go_roundw
        case rel => exact ⟨m + 1, by clear wm' wm2'; omega, by clear wm' wm2'; omega, by rw [wm2.out, Int.natCast_add]; rfl, hres, hP2, hB2⟩
        case measure => rw [wm2.out]; clear wm' wm2'; simp [intOf]; omega
    · obtain rfl : m = rc s 0 + 1 := by omega
      have hres : Hid (F = none) := by rw [← hF.out, Nat.sub_self]; exact hide rfl
      have b1 : ¬ ((rc s 0 + 1 : Nat) : Int) + 1 ≤ (rc s 0 : Int) + 1 := by omega
      clear hrs
      go_wp2_with fail
      go_ret2
      exact ⟨by rw [hres.out]; rfl, hB.out⟩
end Go.Proofs.YtllbgjeibcaajaaDoor
