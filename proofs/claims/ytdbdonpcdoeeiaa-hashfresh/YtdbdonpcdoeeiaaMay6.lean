/- Which values package value, the reference and the law say there are: those of the document, for every kind, number and text. Proved of the Go text. -/
import Derived.Test.YtdbdonpcdoeeiaaKit6
namespace Go.Proofs.Ytdbdonpcdoeeiaa
open Go.RowKit Go.Sort
set_option linter.unusedVariables false

set_option maxHeartbeats 1000000 in
theorem vmay_yes {k i : Int} {t : ByteArray} (h : Good k i t) : CallIs 15 #[vV k i t] (.bool true) := by
  intro w
  rcases h with ⟨rfl, rfl, rfl⟩ | ⟨rfl, rfl⟩ | ⟨rfl, rfl | rfl, rfl⟩ | ⟨rfl, rfl, ht⟩ | ⟨rfl, ⟨h1, h2⟩, rfl⟩
  · go_enter Try.func15, Try.ntmps15
    go_wp2
    go_ret
    exact ⟨rfl, by go_grown⟩
  · go_enter Try.func15, Try.ntmps15
    go_wp2
    go_ret
    exact ⟨rfl, by go_grown⟩
  · go_enter Try.func15, Try.ntmps15
    go_wp2
    go_ret
    exact ⟨rfl, by go_grown⟩
  · go_enter Try.func15, Try.ntmps15
    go_wp2
    go_ret
    exact ⟨rfl, by go_grown⟩
  · have hz : (t.size : Int) ≤ 32767 := by omega
    go_enter Try.func15, Try.ntmps15
    go_wp2
    go_ret
    exact ⟨rfl, by go_grown⟩
  · go_enter Try.func15, Try.ntmps15
    go_wp2
    go_ret
    exact ⟨rfl, by go_grown⟩
set_option maxHeartbeats 2000000 in
theorem vmay_no {k i : Int} {t : ByteArray} (h : ¬ Good k i t) : CallIs 15 #[vV k i t] (.bool false) := by
  intro w
  unfold Good at h
  by_cases k0 : k = 0
  · subst k0
    by_cases hi : i = 0
    · subst hi
      have ht : ¬ t = no := fun e => h (.inl ⟨rfl, rfl, e⟩)
      have f1 := full1 ht
      have f2 := full2 ht
      have f3 := full3 ht
      clear ht h
      go_enter Try.func15, Try.ntmps15
      go_wp2
      go_ret
      exact ⟨rfl, by go_grown⟩
    · have hi1 : (i == 0) = false := beq_eq_false_iff_ne.2 hi
      clear h
      go_enter Try.func15, Try.ntmps15
      go_wp2
      go_ret
      exact ⟨rfl, by go_grown⟩
  by_cases k1 : k = 1
  · subst k1
    have ht : ¬ t = no := fun e => h (.inr (.inl ⟨rfl, e⟩))
    have f1 := full1 ht
    have f2 := full2 ht
    have f3 := full3 ht
    clear ht h
    clear k0
    go_enter Try.func15, Try.ntmps15
    go_wp2
    go_ret
    exact ⟨rfl, by go_grown⟩
  by_cases k2 : k = 2
  · subst k2
    clear k0 k1
    by_cases hi : i = 0
    · subst hi
      have ht : ¬ t = no := fun e => h (.inr (.inr (.inl ⟨rfl, .inl rfl, e⟩)))
      have f1 := full1 ht
      have f2 := full2 ht
      have f3 := full3 ht
      clear ht h
      go_enter Try.func15, Try.ntmps15
      go_wp2
      go_ret
      exact ⟨rfl, by go_grown⟩
    by_cases hj : i = 1
    · subst hj
      have ht : ¬ t = no := fun e => h (.inr (.inr (.inl ⟨rfl, .inr rfl, e⟩)))
      have f1 := full1 ht
      have f2 := full2 ht
      have f3 := full3 ht
      clear ht h
      clear hi
      go_enter Try.func15, Try.ntmps15
      go_wp2
      go_ret
      exact ⟨rfl, by go_grown⟩
    · have hi1 : (i == 0) = false := beq_eq_false_iff_ne.2 hi
      have hj1 : (i == 1) = false := beq_eq_false_iff_ne.2 hj
      clear h
      go_enter Try.func15, Try.ntmps15
      go_wp2
      go_ret
      exact ⟨rfl, by go_grown⟩
  by_cases k3 : k = 3
  · subst k3
    clear k0 k1 k2
    by_cases hi : i = 0
    · subst hi
      have hz : ¬ (t.size : Int) ≤ 32767 := fun e => h (.inr (.inr (.inr (.inl ⟨rfl, rfl, by omega⟩))))
      clear h
      go_enter Try.func15, Try.ntmps15
      go_wp2
      go_ret
      exact ⟨rfl, by go_grown⟩
    · have hi1 : (i == 0) = false := beq_eq_false_iff_ne.2 hi
      clear h
      go_enter Try.func15, Try.ntmps15
      go_wp2
      go_ret
      exact ⟨rfl, by go_grown⟩
  by_cases k4 : k = 4
  · subst k4
    clear k0 k1 k2 k3
    by_cases hi : 1 ≤ i
    · by_cases hj : i ≤ 6
      · have ht : ¬ t = no := fun e => h (.inr (.inr (.inr (.inr ⟨rfl, ⟨hi, hj⟩, e⟩))))
        have f1 := full1 ht
        have f2 := full2 ht
        have f3 := full3 ht
        clear ht h
        go_enter Try.func15, Try.ntmps15
        go_wp2
        go_ret
        exact ⟨rfl, by go_grown⟩
      · clear h
        go_enter Try.func15, Try.ntmps15
        go_wp2
        go_ret
        exact ⟨rfl, by go_grown⟩
    · clear h
      go_enter Try.func15, Try.ntmps15
      go_wp2
      go_ret
      exact ⟨rfl, by go_grown⟩
  have q0 : (k == 0) = false := beq_eq_false_iff_ne.2 k0
  have q1 : (k == 1) = false := beq_eq_false_iff_ne.2 k1
  have q2 : (k == 2) = false := beq_eq_false_iff_ne.2 k2
  have q3 : (k == 3) = false := beq_eq_false_iff_ne.2 k3
  have q4 : (k == 4) = false := beq_eq_false_iff_ne.2 k4
  clear h
  go_enter Try.func15, Try.ntmps15
  go_wp2
  go_ret
  exact ⟨rfl, by go_grown⟩
set_option maxHeartbeats 1000000 in
theorem rmay_yes {k i : Int} {t : ByteArray} (h : Good k i t) : CallIs 17 #[vV k i t] (.bool true) := by
  intro w
  rcases h with ⟨rfl, rfl, rfl⟩ | ⟨rfl, rfl⟩ | ⟨rfl, rfl | rfl, rfl⟩ | ⟨rfl, rfl, ht⟩ | ⟨rfl, ⟨h1, h2⟩, rfl⟩
  · go_enter Try.func17, Try.ntmps17
    go_wp2
    go_ret
    exact ⟨rfl, by go_grown⟩
  · go_enter Try.func17, Try.ntmps17
    go_wp2
    go_ret
    exact ⟨rfl, by go_grown⟩
  · go_enter Try.func17, Try.ntmps17
    go_wp2
    go_ret
    exact ⟨rfl, by go_grown⟩
  · go_enter Try.func17, Try.ntmps17
    go_wp2
    go_ret
    exact ⟨rfl, by go_grown⟩
  · have hz : (t.size : Int) ≤ 32767 := by omega
    go_enter Try.func17, Try.ntmps17
    go_wp2
    go_ret
    exact ⟨rfl, by go_grown⟩
  · go_enter Try.func17, Try.ntmps17
    go_wp2
    go_ret
    exact ⟨rfl, by go_grown⟩
set_option maxHeartbeats 2000000 in
theorem rmay_no {k i : Int} {t : ByteArray} (h : ¬ Good k i t) : CallIs 17 #[vV k i t] (.bool false) := by
  intro w
  unfold Good at h
  by_cases k0 : k = 0
  · subst k0
    by_cases hi : i = 0
    · subst hi
      have ht : ¬ t = no := fun e => h (.inl ⟨rfl, rfl, e⟩)
      have f1 := full1 ht
      have f2 := full2 ht
      have f3 := full3 ht
      clear ht h
      go_enter Try.func17, Try.ntmps17
      go_wp2
      go_ret
      exact ⟨rfl, by go_grown⟩
    · have hi1 : (i == 0) = false := beq_eq_false_iff_ne.2 hi
      clear h
      go_enter Try.func17, Try.ntmps17
      go_wp2
      go_ret
      exact ⟨rfl, by go_grown⟩
  by_cases k1 : k = 1
  · subst k1
    have ht : ¬ t = no := fun e => h (.inr (.inl ⟨rfl, e⟩))
    have f1 := full1 ht
    have f2 := full2 ht
    have f3 := full3 ht
    clear ht h
    clear k0
    go_enter Try.func17, Try.ntmps17
    go_wp2
    go_ret
    exact ⟨rfl, by go_grown⟩
  by_cases k2 : k = 2
  · subst k2
    clear k0 k1
    by_cases hi : i = 0
    · subst hi
      have ht : ¬ t = no := fun e => h (.inr (.inr (.inl ⟨rfl, .inl rfl, e⟩)))
      have f1 := full1 ht
      have f2 := full2 ht
      have f3 := full3 ht
      clear ht h
      go_enter Try.func17, Try.ntmps17
      go_wp2
      go_ret
      exact ⟨rfl, by go_grown⟩
    by_cases hj : i = 1
    · subst hj
      have ht : ¬ t = no := fun e => h (.inr (.inr (.inl ⟨rfl, .inr rfl, e⟩)))
      have f1 := full1 ht
      have f2 := full2 ht
      have f3 := full3 ht
      clear ht h
      clear hi
      go_enter Try.func17, Try.ntmps17
      go_wp2
      go_ret
      exact ⟨rfl, by go_grown⟩
    · have hi1 : (i == 0) = false := beq_eq_false_iff_ne.2 hi
      have hj1 : (i == 1) = false := beq_eq_false_iff_ne.2 hj
      clear h
      go_enter Try.func17, Try.ntmps17
      go_wp2
      go_ret
      exact ⟨rfl, by go_grown⟩
  by_cases k3 : k = 3
  · subst k3
    clear k0 k1 k2
    by_cases hi : i = 0
    · subst hi
      have hz : ¬ (t.size : Int) ≤ 32767 := fun e => h (.inr (.inr (.inr (.inl ⟨rfl, rfl, by omega⟩))))
      clear h
      go_enter Try.func17, Try.ntmps17
      go_wp2
      go_ret
      exact ⟨rfl, by go_grown⟩
    · have hi1 : (i == 0) = false := beq_eq_false_iff_ne.2 hi
      clear h
      go_enter Try.func17, Try.ntmps17
      go_wp2
      go_ret
      exact ⟨rfl, by go_grown⟩
  by_cases k4 : k = 4
  · subst k4
    clear k0 k1 k2 k3
    by_cases hi : 1 ≤ i
    · by_cases hj : i ≤ 6
      · have ht : ¬ t = no := fun e => h (.inr (.inr (.inr (.inr ⟨rfl, ⟨hi, hj⟩, e⟩))))
        have f1 := full1 ht
        have f2 := full2 ht
        have f3 := full3 ht
        clear ht h
        go_enter Try.func17, Try.ntmps17
        go_wp2
        go_ret
        exact ⟨rfl, by go_grown⟩
      · clear h
        go_enter Try.func17, Try.ntmps17
        go_wp2
        go_ret
        exact ⟨rfl, by go_grown⟩
    · clear h
      go_enter Try.func17, Try.ntmps17
      go_wp2
      go_ret
      exact ⟨rfl, by go_grown⟩
  have q0 : (k == 0) = false := beq_eq_false_iff_ne.2 k0
  have q1 : (k == 1) = false := beq_eq_false_iff_ne.2 k1
  have q2 : (k == 2) = false := beq_eq_false_iff_ne.2 k2
  have q3 : (k == 3) = false := beq_eq_false_iff_ne.2 k3
  have q4 : (k == 4) = false := beq_eq_false_iff_ne.2 k4
  clear h
  go_enter Try.func17, Try.ntmps17
  go_wp2
  go_ret
  exact ⟨rfl, by go_grown⟩
set_option maxHeartbeats 1000000 in
theorem lmay_yes {k i : Int} {t : ByteArray} (h : Good k i t) : CallIs 13 #[vV k i t] (.bool true) := by
  intro w
  rcases h with ⟨rfl, rfl, rfl⟩ | ⟨rfl, rfl⟩ | ⟨rfl, rfl | rfl, rfl⟩ | ⟨rfl, rfl, ht⟩ | ⟨rfl, ⟨h1, h2⟩, rfl⟩
  · go_enter Try.func13, Try.ntmps13
    go_wp2
    go_ret
    exact ⟨rfl, by go_grown⟩
  · go_enter Try.func13, Try.ntmps13
    go_wp2
    go_ret
    exact ⟨rfl, by go_grown⟩
  · go_enter Try.func13, Try.ntmps13
    go_wp2
    go_ret
    exact ⟨rfl, by go_grown⟩
  · go_enter Try.func13, Try.ntmps13
    go_wp2
    go_ret
    exact ⟨rfl, by go_grown⟩
  · have hz : (t.size : Int) ≤ 32767 := by omega
    go_enter Try.func13, Try.ntmps13
    go_wp2
    go_ret
    exact ⟨rfl, by go_grown⟩
  · go_enter Try.func13, Try.ntmps13
    go_wp2
    go_ret
    exact ⟨rfl, by go_grown⟩
set_option maxHeartbeats 2000000 in
theorem lmay_no {k i : Int} {t : ByteArray} (h : ¬ Good k i t) : CallIs 13 #[vV k i t] (.bool false) := by
  intro w
  unfold Good at h
  by_cases k0 : k = 0
  · subst k0
    by_cases hi : i = 0
    · subst hi
      have ht : ¬ t = no := fun e => h (.inl ⟨rfl, rfl, e⟩)
      have f1 := full1 ht
      have f2 := full2 ht
      have f3 := full3 ht
      clear ht h
      go_enter Try.func13, Try.ntmps13
      go_wp2
      go_ret
      exact ⟨rfl, by go_grown⟩
    · have hi1 : (i == 0) = false := beq_eq_false_iff_ne.2 hi
      clear h
      go_enter Try.func13, Try.ntmps13
      go_wp2
      go_ret
      exact ⟨rfl, by go_grown⟩
  by_cases k1 : k = 1
  · subst k1
    have ht : ¬ t = no := fun e => h (.inr (.inl ⟨rfl, e⟩))
    have f1 := full1 ht
    have f2 := full2 ht
    have f3 := full3 ht
    clear ht h
    clear k0
    go_enter Try.func13, Try.ntmps13
    go_wp2
    go_ret
    exact ⟨rfl, by go_grown⟩
  by_cases k2 : k = 2
  · subst k2
    clear k0 k1
    by_cases hi : i = 0
    · subst hi
      have ht : ¬ t = no := fun e => h (.inr (.inr (.inl ⟨rfl, .inl rfl, e⟩)))
      have f1 := full1 ht
      have f2 := full2 ht
      have f3 := full3 ht
      clear ht h
      go_enter Try.func13, Try.ntmps13
      go_wp2
      go_ret
      exact ⟨rfl, by go_grown⟩
    by_cases hj : i = 1
    · subst hj
      have ht : ¬ t = no := fun e => h (.inr (.inr (.inl ⟨rfl, .inr rfl, e⟩)))
      have f1 := full1 ht
      have f2 := full2 ht
      have f3 := full3 ht
      clear ht h
      clear hi
      go_enter Try.func13, Try.ntmps13
      go_wp2
      go_ret
      exact ⟨rfl, by go_grown⟩
    · have hi1 : (i == 0) = false := beq_eq_false_iff_ne.2 hi
      have hj1 : (i == 1) = false := beq_eq_false_iff_ne.2 hj
      clear h
      go_enter Try.func13, Try.ntmps13
      go_wp2
      go_ret
      exact ⟨rfl, by go_grown⟩
  by_cases k3 : k = 3
  · subst k3
    clear k0 k1 k2
    by_cases hi : i = 0
    · subst hi
      have hz : ¬ (t.size : Int) ≤ 32767 := fun e => h (.inr (.inr (.inr (.inl ⟨rfl, rfl, by omega⟩))))
      clear h
      go_enter Try.func13, Try.ntmps13
      go_wp2
      go_ret
      exact ⟨rfl, by go_grown⟩
    · have hi1 : (i == 0) = false := beq_eq_false_iff_ne.2 hi
      clear h
      go_enter Try.func13, Try.ntmps13
      go_wp2
      go_ret
      exact ⟨rfl, by go_grown⟩
  by_cases k4 : k = 4
  · subst k4
    clear k0 k1 k2 k3
    by_cases hi : 1 ≤ i
    · by_cases hj : i ≤ 6
      · have ht : ¬ t = no := fun e => h (.inr (.inr (.inr (.inr ⟨rfl, ⟨hi, hj⟩, e⟩))))
        have f1 := full1 ht
        have f2 := full2 ht
        have f3 := full3 ht
        clear ht h
        go_enter Try.func13, Try.ntmps13
        go_wp2
        go_ret
        exact ⟨rfl, by go_grown⟩
      · clear h
        go_enter Try.func13, Try.ntmps13
        go_wp2
        go_ret
        exact ⟨rfl, by go_grown⟩
    · clear h
      go_enter Try.func13, Try.ntmps13
      go_wp2
      go_ret
      exact ⟨rfl, by go_grown⟩
  have q0 : (k == 0) = false := beq_eq_false_iff_ne.2 k0
  have q1 : (k == 1) = false := beq_eq_false_iff_ne.2 k1
  have q2 : (k == 2) = false := beq_eq_false_iff_ne.2 k2
  have q3 : (k == 3) = false := beq_eq_false_iff_ne.2 k3
  have q4 : (k == 4) = false := beq_eq_false_iff_ne.2 k4
  clear h
  go_enter Try.func13, Try.ntmps13
  go_wp2
  go_ret
  exact ⟨rfl, by go_grown⟩
end Go.Proofs.Ytdbdonpcdoeeiaa
