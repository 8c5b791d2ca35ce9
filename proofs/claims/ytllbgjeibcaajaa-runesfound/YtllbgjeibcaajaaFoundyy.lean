/- RunesFound: where a text is found the rest begins with it, and at no rune ahead of it from there on: the law returns true, for every input. Proved of the Go text. -/
import Derived.Test.YtllbgjeibcaajaaFoundDefs
import Derived.Deep.QuietTactic
namespace Go.Proofs.Ytllbgjeibcaajaa
open Go.RowKit Go.Sort
set_option linter.unusedVariables false
set_option maxHeartbeats 2000000 in
set_option maxRecDepth 100000 in
theorem found_no00 (s what : ByteArray) (c1 : ¬ s.size > 500) (c2 : ¬ what.size > 500) (hz : s.size ≤ 500) (n b a : Nat) (hn : n ≤ 255) (hb : n % (rc s 0 + 2) = b) (ha : a = b + 1) (h1 : a = rc s 0 + 2) (w : World) (hT : Tab w) :
    Calls Try.prog 5 #[.string what, .string s, .int .u8 n] w fun e w' => e = .returned (.bool true) ∧ Below w.heap.size w w' := by
  have HB := begun_any
  replace hT := hide hT
  have HL := len_any s (by omega)
  have hr := rc_size s
  have r1 : Hid ((n : Int).tmod ((rc s 0 : Int) + 2) = b) := hide (by rw [rem2_is, hb])
  have HF := (find_no what s (a : Int) (by omega) (.inr (by omega))).t
  clear hb
  generalize rc s 0 = r at *
  have g1 := hide (two_ne r)
  have g2 := hide (two_beq r)
  have G3 : Hid (wrap64 ((r : Int) + 2) = (r : Int) + 2) := hide (IntWalk.wrap64_in _ ⟨by omega, by omega⟩)
  have G0 : Hid (wrap64 (n : Int) = n) := hide (IntWalk.wrap64_in _ ⟨by omega, by omega⟩)
  have g4 : Hid ((b : Int) + 1 = (a : Int)) := hide (by omega)
  have G4 : Hid (wrap64 (a : Int) = (a : Int)) := hide (IntWalk.wrap64_in _ ⟨by omega, by omega⟩)
  have G5 : Hid (wrap64 ((r : Int) + 1) = (r : Int) + 1) := hide (IntWalk.wrap64_in _ ⟨by omega, by omega⟩)
  have k1 : ¬ (s.size : Int) > 500 := by omega
  have k2 : ¬ (what.size : Int) > 500 := by omega
  have k5 : Hid ((a : Int) > (r : Int) + 1) := hide (by omega)
  replace hr := hide hr
  replace h1 := hide h1
  replace hz := hide hz
  replace hn := hide hn
  replace ha := hide ha
  clear c1 c2
  go_enter Try.func5, Try.ntmps5
  go_wp2_with fail
  refine (HB.out _ hT.out).mono ?_
  rintro e w1 ⟨rfl, hb1⟩
  have hT1 := hide (hT.out.keep hb1)
  go_wp2_with fail
  refine (HL.out _).mono ?_
  rintro e w2 ⟨rfl, hb2⟩
  have hT2 := hide (hT1.out.keep hb2)
  have hB2 := hide (next hb1 hb2)
  clear hb1 hb2 hT hT1 HB HL
  have g1 := g1.out
  have g2 := g2.out
  have g3 := G3.out
  have g0 := G0.out
  have g4 := g4.out
  have g4w := G4.out
  have g5 := G5.out
  have r1 := r1.out
  go_wp2_with fail
  refine (HF.out _ hT2.out).mono ?_
  rintro e w3 ⟨rfl, hb3⟩
  have hB3 := hide (next hB2.out hb3)
  clear hb3 hT2 hB2 HF g1 g2 g4 r1
  have k5 := k5.out
  go_wp2_with fail
  go_ret
  exact ⟨rfl, hB3.out⟩
set_option maxHeartbeats 2000000 in
set_option maxRecDepth 100000 in
theorem found_some00 (s what : ByteArray) (c1 : ¬ s.size > 500) (c2 : ¬ what.size > 500) (hz : s.size ≤ 500) (n b a : Nat) (hn : n ≤ 255) (hb : n % (rc s 0 + 2) = b) (ha : a = b + 1) (h1 : a ≤ rc s 0 + 1) (q : Nat) (hF : fnd s what (rc s 0 + 2 - a) a = some q) (w : World) (hT : Tab w) :
    Calls Try.prog 5 #[.string what, .string s, .int .u8 n] w fun e w' => e = .returned (.bool true) ∧ Below w.heap.size w w' := by
  have HB := begun_any
  replace hT := hide hT
  have HL := len_any s (by omega)
  have hr := rc_size s
  have r1 : Hid ((n : Int).tmod ((rc s 0 : Int) + 2) = b) := hide (by rw [rem2_is, hb])
  have HF := find_yes what s a (by omega) (by omega) h1
  rw [hF] at HF
  unfold findV at HF
  obtain ⟨f1, f2, f3, f4⟩ := fnd_some s what _ _ _ hF
  replace f3 := hide f3
  replace f4 := hide f4
  clear hF
  have HRt : Hid (∀ p : Nat, 1 ≤ p → p ≤ rc s 0 + 1 → ∃ x, x ≤ s.size ∧ x = sk s (p - 1) 0 ∧ CallIs 12 #[.string s, .int .i64 ((rc s 0 : Int) + 1 - p)] (.tuple #[.string (s.extract x s.size), .int .i64 0])) := hide fun p h1 h2 => ⟨_, sk_le s _ 0 (Nat.zero_le _), rfl, right_at s hz p h1 h2⟩
  clear hb
  generalize rc s 0 = r at *
  have g1 := hide (two_ne r)
  have g2 := hide (two_beq r)
  have G3 : Hid (wrap64 ((r : Int) + 2) = (r : Int) + 2) := hide (IntWalk.wrap64_in _ ⟨by omega, by omega⟩)
  have G0 : Hid (wrap64 (n : Int) = n) := hide (IntWalk.wrap64_in _ ⟨by omega, by omega⟩)
  have g4 : Hid ((b : Int) + 1 = (a : Int)) := hide (by omega)
  have G4 : Hid (wrap64 (a : Int) = (a : Int)) := hide (IntWalk.wrap64_in _ ⟨by omega, by omega⟩)
  have G5 : Hid (wrap64 ((r : Int) + 1) = (r : Int) + 1) := hide (IntWalk.wrap64_in _ ⟨by omega, by omega⟩)
  have k1 : ¬ (s.size : Int) > 500 := by omega
  have k2 : ¬ (what.size : Int) > 500 := by omega
  have k5 : Hid (¬ (a : Int) > (r : Int) + 1) := hide (by omega)
  replace hr := hide hr
  replace h1 := hide h1
  replace hz := hide hz
  replace hn := hide hn
  replace ha := hide ha
  clear c1 c2
  replace f1 := hide f1
  replace f2 := hide f2
  go_enter Try.func5, Try.ntmps5
  go_wp2_with fail
  refine (HB.out _ hT.out).mono ?_
  rintro e w1 ⟨rfl, hb1⟩
  have hT1 := hide (hT.out.keep hb1)
  go_wp2_with fail
  refine (HL.out _).mono ?_
  rintro e w2 ⟨rfl, hb2⟩
  have hT2 := hide (hT1.out.keep hb2)
  have hB2 := hide (next hb1 hb2)
  clear hb1 hb2 hT hT1 HB HL
  have g1 := g1.out
  have g2 := g2.out
  have g3 := G3.out
  have g0 := G0.out
  have g4 := g4.out
  have g4w := G4.out
  have g5 := G5.out
  have r1 := r1.out
  go_wp2_with fail
  refine (HF.out _ hT2.out).mono ?_
  rintro e w3 ⟨rfl, hb3⟩
  have hB3 := hide (next hB2.out hb3)
  clear hb3 hT2 hB2 HF g1 g2 g4 r1
  have k5 := k5.out
  go_wp2_with fail
  try simp only [g5]
  go_loopw [12, 13, 14, 15] (fun pv _ _ _ wr => ∃ p : Nat, a ≤ p ∧ p ≤ q + 1 ∧ pv = .int .i64 p ∧ Hid (Below w.heap.size w wr)) (fun pv _ _ _ _ => q + 1 - (intOf pv).toNat)
  case atStart => exact ⟨a, Nat.le_refl _, by clear g0 g3 g4w g5 k5; have := h1.out; have := f1.out; omega, rfl, hB3⟩
  case round =>
    clear hB3 k5 g0 g3 g4w g5
    obtain ⟨p, hp1, hp2, rfl, hB⟩ := hrel
    have u1 := hr.out
    have u2 := hz.out
    have u3 := h1.out
    have u4 := ha.out
    have u5 := f1.out
    have u6 := f2.out
    by_cases hlt : p ≤ q
    · obtain ⟨x, hx1, hx2, HR⟩ := HRt.out p (by omega) (by omega)
      have m1 : (p : Int) ≤ (q : Int) := by omega
      have m2 : Hid (wrap64 ((p : Int) + 1) = (p : Int) + 1) := hide (IntWalk.wrap64_in _ ⟨by omega, by omega⟩)
      have m3 : Hid (wrap64 ((r : Int) + 1 - p) = (r : Int) + 1 - p) := hide (IntWalk.wrap64_in _ ⟨by omega, by omega⟩)
      by_cases he : p = q
      · have hoc := f3.out
        rw [← he, ← hx2] at hoc
        obtain ⟨b1, b2⟩ := begins_yes s what x hx1 hoc
        have b3 : ((s.extract x s.size).size : Int) ≥ what.size := by omega
        have m4 : ((p : Int) == (q : Int)) = true := by rw [he]; simp
        replace he := hide he
        clear hoc
        have hy1 := hide u1
        have hp0 := hide hp1
        clear hx1 hx2 u1 u2 u3 u4 u5 u6
        generalize s.extract x s.size = rest at *
        have m2' := m2.out
        have m3' := m3.out
        have g0 := G0.out
        have g3 := G3.out
        have g4w := G4.out
        have g5 := G5.out
        go_wp2_with fail
        refine (HR.out _).mono ?_
        rintro e w' ⟨rfl, hb⟩
        have hB' := hide (next hB.out hb)
        clear hb hB
        go_wp2_with fail
        go_roundw
        case rel => exact ⟨p + 1, by clear m2' m3' g0 g3 g4w g5; omega, by clear m2' m3' g0 g3 g4w g5; omega, by first | (rw [Int.natCast_add]; rfl) | (rw [m2.out, Int.natCast_add]; rfl), hB'⟩
        case measure => (try rw [m2.out]); clear m2' m3' g0 g3 g4w g5; simp [intOf]; omega
      · have hoc := f4.out p hp1 (by omega)
        rw [← hx2] at hoc
        have m4 : ((p : Int) == (q : Int)) = false := by rw [beq_eq_false_iff_ne]; omega
        obtain b1 | ⟨b1, b2⟩ := begins_no s what x hx1 hoc
        · have b3 : ¬ ((s.extract x s.size).size : Int) ≥ what.size := by omega
          clear hoc
          have hy1 := hide u1
          have hp0 := hide hp1
          clear hx1 hx2 u1 u2 u3 u4 u5 u6
          generalize s.extract x s.size = rest at *
          have m2' := m2.out
          have m3' := m3.out
          have g0 := G0.out
          have g3 := G3.out
          have g4w := G4.out
          have g5 := G5.out
          go_wp2_with fail
          refine (HR.out _).mono ?_
          rintro e w' ⟨rfl, hb⟩
          have hB' := hide (next hB.out hb)
          clear hb hB
          go_wp2_with fail
          go_roundw
          case rel => exact ⟨p + 1, by clear m2' m3' g0 g3 g4w g5; omega, by clear m2' m3' g0 g3 g4w g5; omega, by first | (rw [Int.natCast_add]; rfl) | (rw [m2.out, Int.natCast_add]; rfl), hB'⟩
          case measure => (try rw [m2.out]); clear m2' m3' g0 g3 g4w g5; simp [intOf]; omega
        · have b3 : ((s.extract x s.size).size : Int) ≥ what.size := by omega
          clear hoc
          have hy1 := hide u1
          have hp0 := hide hp1
          clear hx1 hx2 u1 u2 u3 u4 u5 u6
          generalize s.extract x s.size = rest at *
          have m2' := m2.out
          have m3' := m3.out
          have g0 := G0.out
          have g3 := G3.out
          have g4w := G4.out
          have g5 := G5.out
          go_wp2_with fail
          refine (HR.out _).mono ?_
          rintro e w' ⟨rfl, hb⟩
          have hB' := hide (next hB.out hb)
          clear hb hB
          go_wp2_with fail
          go_roundw
          case rel => exact ⟨p + 1, by clear m2' m3' g0 g3 g4w g5; omega, by clear m2' m3' g0 g3 g4w g5; omega, by first | (rw [Int.natCast_add]; rfl) | (rw [m2.out, Int.natCast_add]; rfl), hB'⟩
          case measure => (try rw [m2.out]); clear m2' m3' g0 g3 g4w g5; simp [intOf]; omega
    · have m1 : ¬ (p : Int) ≤ (q : Int) := by omega
      have m2 : (q : Int) ≥ a := by omega
      clear u1 u2 u3 u4
      have g0 := G0.out
      have g3 := G3.out
      have g4w := G4.out
      have g5 := G5.out
      go_wp2_with fail
      go_ret
      exact ⟨rfl, hB.out⟩
set_option maxHeartbeats 2000000 in
set_option maxRecDepth 100000 in
theorem found_none00 (s what : ByteArray) (c1 : ¬ s.size > 500) (c2 : ¬ what.size > 500) (hz : s.size ≤ 500) (n b a : Nat) (hn : n ≤ 255) (hb : n % (rc s 0 + 2) = b) (ha : a = b + 1) (h1 : a ≤ rc s 0 + 1) (hF : fnd s what (rc s 0 + 2 - a) a = none) (w : World) (hT : Tab w) :
    Calls Try.prog 5 #[.string what, .string s, .int .u8 n] w fun e w' => e = .returned (.bool true) ∧ Below w.heap.size w w' := by
  have HB := begun_any
  replace hT := hide hT
  have HL := len_any s (by omega)
  have hr := rc_size s
  have r1 : Hid ((n : Int).tmod ((rc s 0 : Int) + 2) = b) := hide (by rw [rem2_is, hb])
  have HF := find_yes what s a (by omega) (by omega) h1
  rw [hF] at HF
  unfold findV at HF
  have f4 := hide (fnd_nowhere s what _ _ hF)
  clear hF
  have HRt : Hid (∀ p : Nat, 1 ≤ p → p ≤ rc s 0 + 1 → ∃ x, x ≤ s.size ∧ x = sk s (p - 1) 0 ∧ CallIs 12 #[.string s, .int .i64 ((rc s 0 : Int) + 1 - p)] (.tuple #[.string (s.extract x s.size), .int .i64 0])) := hide fun p h1 h2 => ⟨_, sk_le s _ 0 (Nat.zero_le _), rfl, right_at s hz p h1 h2⟩
  clear hb
  generalize rc s 0 = r at *
  have g1 := hide (two_ne r)
  have g2 := hide (two_beq r)
  have G3 : Hid (wrap64 ((r : Int) + 2) = (r : Int) + 2) := hide (IntWalk.wrap64_in _ ⟨by omega, by omega⟩)
  have G0 : Hid (wrap64 (n : Int) = n) := hide (IntWalk.wrap64_in _ ⟨by omega, by omega⟩)
  have g4 : Hid ((b : Int) + 1 = (a : Int)) := hide (by omega)
  have G4 : Hid (wrap64 (a : Int) = (a : Int)) := hide (IntWalk.wrap64_in _ ⟨by omega, by omega⟩)
  have G5 : Hid (wrap64 ((r : Int) + 1) = (r : Int) + 1) := hide (IntWalk.wrap64_in _ ⟨by omega, by omega⟩)
  have k1 : ¬ (s.size : Int) > 500 := by omega
  have k2 : ¬ (what.size : Int) > 500 := by omega
  have k5 : Hid (¬ (a : Int) > (r : Int) + 1) := hide (by omega)
  replace hr := hide hr
  replace h1 := hide h1
  replace hz := hide hz
  replace hn := hide hn
  replace ha := hide ha
  clear c1 c2
  go_enter Try.func5, Try.ntmps5
  go_wp2_with fail
  refine (HB.out _ hT.out).mono ?_
  rintro e w1 ⟨rfl, hb1⟩
  have hT1 := hide (hT.out.keep hb1)
  go_wp2_with fail
  refine (HL.out _).mono ?_
  rintro e w2 ⟨rfl, hb2⟩
  have hT2 := hide (hT1.out.keep hb2)
  have hB2 := hide (next hb1 hb2)
  clear hb1 hb2 hT hT1 HB HL
  have g1 := g1.out
  have g2 := g2.out
  have g3 := G3.out
  have g0 := G0.out
  have g4 := g4.out
  have g4w := G4.out
  have g5 := G5.out
  have r1 := r1.out
  go_wp2_with fail
  refine (HF.out _ hT2.out).mono ?_
  rintro e w3 ⟨rfl, hb3⟩
  have hB3 := hide (next hB2.out hb3)
  clear hb3 hT2 hB2 HF g1 g2 g4 r1
  have k5 := k5.out
  go_wp2_with fail
  try simp only [g5]
  go_loopw [12, 13, 14, 15] (fun pv _ _ _ wr => ∃ p : Nat, a ≤ p ∧ p ≤ r + 1 + 1 ∧ pv = .int .i64 p ∧ Hid (Below w.heap.size w wr)) (fun pv _ _ _ _ => r + 1 + 1 - (intOf pv).toNat)
  case atStart => exact ⟨a, Nat.le_refl _, by clear g0 g3 g4w g5 k5; have := h1.out; omega, rfl, hB3⟩
  case round =>
    clear hB3 k5 g0 g3 g4w g5
    obtain ⟨p, hp1, hp2, rfl, hB⟩ := hrel
    have u1 := hr.out
    have u2 := hz.out
    have u3 := h1.out
    have u4 := ha.out
    by_cases hlt : p ≤ r + 1
    · obtain ⟨x, hx1, hx2, HR⟩ := HRt.out p (by omega) (by omega)
      have m1 : (p : Int) ≤ ((r : Int) + 1) := by omega
      have m2 : Hid (wrap64 ((p : Int) + 1) = (p : Int) + 1) := hide (IntWalk.wrap64_in _ ⟨by omega, by omega⟩)
      have m3 : Hid (wrap64 ((r : Int) + 1 - p) = (r : Int) + 1 - p) := hide (IntWalk.wrap64_in _ ⟨by omega, by omega⟩)
      have hoc := f4.out p hp1 (by omega)
      rw [← hx2] at hoc
      obtain b1 | ⟨b1, b2⟩ := begins_no s what x hx1 hoc
      · have b3 : ¬ ((s.extract x s.size).size : Int) ≥ what.size := by omega
        clear hoc
        have hy1 := hide u1
        have hp0 := hide hp1
        clear hx1 hx2 u1 u2 u3 u4
        generalize s.extract x s.size = rest at *
        have m2' := m2.out
        have m3' := m3.out
        have g0 := G0.out
        have g3 := G3.out
        have g4w := G4.out
        have g5 := G5.out
        go_wp2_with fail
        refine (HR.out _).mono ?_
        rintro e w' ⟨rfl, hb⟩
        have hB' := hide (next hB.out hb)
        clear hb hB
        go_wp2_with fail
        go_roundw
        case rel => exact ⟨p + 1, by clear m2' m3' g0 g3 g4w g5; omega, by clear m2' m3' g0 g3 g4w g5; omega, by first | (rw [Int.natCast_add]; rfl) | (rw [m2.out, Int.natCast_add]; rfl), hB'⟩
        case measure => (try rw [m2.out]); clear m2' m3' g0 g3 g4w g5; simp [intOf]; omega
      · have b3 : ((s.extract x s.size).size : Int) ≥ what.size := by omega
        clear hoc
        have hy1 := hide u1
        have hp0 := hide hp1
        clear hx1 hx2 u1 u2 u3 u4
        generalize s.extract x s.size = rest at *
        have m2' := m2.out
        have m3' := m3.out
        have g0 := G0.out
        have g3 := G3.out
        have g4w := G4.out
        have g5 := G5.out
        go_wp2_with fail
        refine (HR.out _).mono ?_
        rintro e w' ⟨rfl, hb⟩
        have hB' := hide (next hB.out hb)
        clear hb hB
        go_wp2_with fail
        go_roundw
        case rel => exact ⟨p + 1, by clear m2' m3' g0 g3 g4w g5; omega, by clear m2' m3' g0 g3 g4w g5; omega, by first | (rw [Int.natCast_add]; rfl) | (rw [m2.out, Int.natCast_add]; rfl), hB'⟩
        case measure => (try rw [m2.out]); clear m2' m3' g0 g3 g4w g5; simp [intOf]; omega
    · have m1 : ¬ (p : Int) ≤ ((r : Int) + 1) := by omega
      clear u1 u2 u3 u4
      have g0 := G0.out
      have g3 := G3.out
      have g4w := G4.out
      have g5 := G5.out
      go_wp2_with fail
      go_ret
      exact ⟨rfl, hB.out⟩
end Go.Proofs.Ytllbgjeibcaajaa
