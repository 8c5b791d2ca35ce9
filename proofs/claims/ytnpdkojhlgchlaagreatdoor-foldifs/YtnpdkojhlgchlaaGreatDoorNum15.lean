/- What a value is as a number, by package value, for every value that may be. Proved of the Go text. -/
import Derived.Test.YtnpdkojhlgchlaaGreatDoorMk15
import Derived.Test.YtnpdkojhlgchlaaGreatDoorBaJ
namespace Go.Proofs.YtnpdkojhlgchlaaGreatDoor
open Go.RowKit Go.Sort
set_option linter.unusedVariables false

theorem below_drewN {B : Nat} {a w : World} (h : Below B a w) (n : Nat) : Below B a (w.drewN n) := ⟨h.os, h.tape, h.output, h.size, h.block⟩
abbrev tT : ByteArray := { data := #[84, 82, 85, 69] }
abbrev tF : ByteArray := { data := #[70, 65, 76, 83, 69] }
set_option maxHeartbeats 1000000 in
theorem vnum_plain {k i : Int} {t : ByteArray} (k' i' : Int) (t' : ByteArray) (q3 : (k' == 3) = false) (q4 : (k' == 4) = false) (HS : CallIs 160 #[vV k i t] (vV k' i' t')) : CallIs 95 #[vV k i t] (.tuple #[.int .i64 i', .int .i64 0]) := by
  intro w
  go_enter Tryz.func95, Tryz.ntmps95
  try simp only [List.append]
  go_wp2_with fail
  refine (HS.out _).mono ?_
  rintro e w1 ⟨rfl, hb1⟩
  have B1 := hide (next (step (Below.refl w.heap.size w) _) hb1)
  have cv := hide ((O3.new w (.int .i64 k) (.int .i64 i) (.string t) 31).keep hb1)
  have cvw100 := cv.out.1.1
  have cvw101 := cv.out.1.2.1
  have cvw102 := cv.out.1.2.2
  have cvw10f := cv.out.2
  have B1p := hide (below_put3 (b := w.heap.size) (B1.out) (by omega) (.int .i64 k') (.int .i64 i') (.string t'))
  replace cv := hide (cv.out.put (.int .i64 k') (.int .i64 i') (.string t'))
  obtain ⟨w1p, hw1p⟩ : ∃ w1p, put3 w1 (w.heap.size) (.int .i64 k') (.int .i64 i') (.string t') = w1p := ⟨_, rfl⟩
  rw [hw1p] at B1p cv
  unfold put3 at hw1p
  have cvw1p00 := cv.out.1.1
  have cvw1p01 := cv.out.1.2.1
  have cvw1p02 := cv.out.1.2.2
  go_wp2_with fail
  go_ret2
  exact ⟨rfl, B1p.out⟩
set_option maxHeartbeats 1000000 in
theorem vnum_err {k i : Int} {t : ByteArray} (e : Int) (HS : CallIs 160 #[vV k i t] (vV 4 e no)) : CallIs 95 #[vV k i t] (.tuple #[.int .i64 0, .int .i64 e]) := by
  intro w
  go_enter Tryz.func95, Tryz.ntmps95
  try simp only [List.append]
  go_wp2_with fail
  refine (HS.out _).mono ?_
  rintro e w1 ⟨rfl, hb1⟩
  have B1 := hide (next (step (Below.refl w.heap.size w) _) hb1)
  have cv := hide ((O3.new w (.int .i64 k) (.int .i64 i) (.string t) 31).keep hb1)
  have cvw100 := cv.out.1.1
  have cvw101 := cv.out.1.2.1
  have cvw102 := cv.out.1.2.2
  have cvw10f := cv.out.2
  have B1p := hide (below_put3 (b := w.heap.size) (B1.out) (by omega) (.int .i64 4) (.int .i64 e) (.string no))
  replace cv := hide (cv.out.put (.int .i64 4) (.int .i64 e) (.string no))
  obtain ⟨w1p, hw1p⟩ : ∃ w1p, put3 w1 (w.heap.size) (.int .i64 4) (.int .i64 e) (.string no) = w1p := ⟨_, rfl⟩
  rw [hw1p] at B1p cv
  unfold put3 at hw1p
  have cvw1p00 := cv.out.1.1
  have cvw1p01 := cv.out.1.2.1
  have cvw1p02 := cv.out.1.2.2
  go_wp2_with fail
  go_quiet (fail)
  go_wp2_with fail
  go_ret2
  exact ⟨rfl, below_drewN (B1p.out) _⟩
set_option maxHeartbeats 1000000 in
theorem vnum_text {k i : Int} {t : ByteArray} (t' : ByteArray) (n : Int) (HS : CallIs 160 #[vV k i t] (vV 3 0 t')) (HR : CallIs 161 #[.string t'] (.tuple #[.int .i64 n, .int .i64 0])) : CallIs 95 #[vV k i t] (.tuple #[.int .i64 n, .int .i64 0]) := by
  intro w
  go_enter Tryz.func95, Tryz.ntmps95
  try simp only [List.append]
  go_wp2_with fail
  refine (HS.out _).mono ?_
  rintro e w1 ⟨rfl, hb1⟩
  have B1 := hide (next (step (Below.refl w.heap.size w) _) hb1)
  have cv := hide ((O3.new w (.int .i64 k) (.int .i64 i) (.string t) 31).keep hb1)
  have cvw100 := cv.out.1.1
  have cvw101 := cv.out.1.2.1
  have cvw102 := cv.out.1.2.2
  have cvw10f := cv.out.2
  have B1p := hide (below_put3 (b := w.heap.size) (B1.out) (by omega) (.int .i64 3) (.int .i64 0) (.string t'))
  replace cv := hide (cv.out.put (.int .i64 3) (.int .i64 0) (.string t'))
  obtain ⟨w1p, hw1p⟩ : ∃ w1p, put3 w1 (w.heap.size) (.int .i64 3) (.int .i64 0) (.string t') = w1p := ⟨_, rfl⟩
  rw [hw1p] at B1p cv
  unfold put3 at hw1p
  have cvw1p00 := cv.out.1.1
  have cvw1p01 := cv.out.1.2.1
  have cvw1p02 := cv.out.1.2.2
  go_wp2_with fail
  refine (HR.out _).mono ?_
  rintro e w2 ⟨rfl, hb2⟩
  clear cvw100
  clear cvw101
  clear cvw102
  clear cvw10f
  clear cvw1p00
  clear cvw1p01
  clear cvw1p02
  have B2 := hide (next (B1p.out) hb2)
  replace cv := hide (cv.out.keep hb2)
  have cvw200 := cv.out.1.1
  have cvw201 := cv.out.1.2.1
  have cvw202 := cv.out.1.2.2
  go_wp2_with fail
  go_ret2
  exact ⟨rfl, B2.out⟩
set_option maxHeartbeats 1000000 in
theorem vnum_bad {k i : Int} {t : ByteArray} (t' : ByteArray) (n x : Int) (hx : (x != 0) = true) (HS : CallIs 160 #[vV k i t] (vV 3 0 t')) (HR : CallIs 161 #[.string t'] (.tuple #[.int .i64 n, .int .i64 x])) : CallIs 95 #[vV k i t] (.tuple #[.int .i64 0, .int .i64 4]) := by
  intro w
  go_enter Tryz.func95, Tryz.ntmps95
  try simp only [List.append]
  go_wp2_with fail
  refine (HS.out _).mono ?_
  rintro e w1 ⟨rfl, hb1⟩
  have B1 := hide (next (step (Below.refl w.heap.size w) _) hb1)
  have cv := hide ((O3.new w (.int .i64 k) (.int .i64 i) (.string t) 31).keep hb1)
  have cvw100 := cv.out.1.1
  have cvw101 := cv.out.1.2.1
  have cvw102 := cv.out.1.2.2
  have cvw10f := cv.out.2
  have B1p := hide (below_put3 (b := w.heap.size) (B1.out) (by omega) (.int .i64 3) (.int .i64 0) (.string t'))
  replace cv := hide (cv.out.put (.int .i64 3) (.int .i64 0) (.string t'))
  obtain ⟨w1p, hw1p⟩ : ∃ w1p, put3 w1 (w.heap.size) (.int .i64 3) (.int .i64 0) (.string t') = w1p := ⟨_, rfl⟩
  rw [hw1p] at B1p cv
  unfold put3 at hw1p
  have cvw1p00 := cv.out.1.1
  have cvw1p01 := cv.out.1.2.1
  have cvw1p02 := cv.out.1.2.2
  go_wp2_with fail
  refine (HR.out _).mono ?_
  rintro e w2 ⟨rfl, hb2⟩
  clear cvw100
  clear cvw101
  clear cvw102
  clear cvw10f
  clear cvw1p00
  clear cvw1p01
  clear cvw1p02
  have B2 := hide (next (B1p.out) hb2)
  replace cv := hide (cv.out.keep hb2)
  have cvw200 := cv.out.1.1
  have cvw201 := cv.out.1.2.1
  have cvw202 := cv.out.1.2.2
  go_wp2_with fail
  go_ret2
  exact ⟨rfl, B2.out⟩
theorem read_ex (s : ByteArray) (hs : s.size ≤ 32767) : ∃ n e : Int, CallIs 161 #[.string s] (.tuple #[.int .i64 n, .int .i64 e]) ∧ (e = 0 → -9223372036854775808 ≤ n ∧ n ≤ 9223372036854775807) := by
  have hm : s.size ≤ maxLen := by unfold maxLen; omega
  cases h : formB s with
  | false => exact ⟨0, _, fun w => (read_bad s w hm h).mono fun e w' ⟨h1, h2⟩ => ⟨h1, by subst h2; exact Below.refl _ _⟩, fun h => by cases h⟩
  | true =>
    have hp := form_size s h
    cases h1 : ((s[0].toNat : Int) == 45) with
    | true =>
      by_cases hv : val (s.extract 1 s.size).data.toList ≤ 9223372036854775808
      · exact ⟨_, _, fun w => (read_neg s _ w hm h hp rfl h1 hv).mono fun e w' ⟨g1, g2⟩ => ⟨g1, by subst g2; exact Below.refl _ _⟩, fun _ => by omega⟩
      · exact ⟨_, _, fun w => (read_negover s _ w hm h hp rfl h1 (by omega)).mono fun e w' ⟨g1, g2⟩ => ⟨g1, by subst g2; exact Below.refl _ _⟩, fun h => by cases h⟩
    | false =>
      by_cases hv : val s.data.toList ≤ 9223372036854775807
      · exact ⟨_, _, fun w => (read_pos s w hm h hp h1 hv).mono fun e w' ⟨g1, g2⟩ => ⟨g1, by subst g2; exact Below.refl _ _⟩, fun _ => by omega⟩
      · exact ⟨_, _, fun w => (read_posover s w hm h hp h1 (by omega)).mono fun e w' ⟨g1, g2⟩ => ⟨g1, by subst g2; exact Below.refl _ _⟩, fun h => by cases h⟩
theorem num_ex (x : Va) (hx : VaOk x) : ∃ p : Int × Int, CallIs 95 #[x.v] (.tuple #[.int .i64 p.1, .int .i64 p.2]) ∧ (p.2 = 0 → -9223372036854775808 ≤ p.1 ∧ p.1 ≤ 9223372036854775807) ∧ (x.k = 1 → p = (x.i, 0)) := by
  obtain ⟨k, i, t⟩ := x
  obtain ⟨hg, h1, h2⟩ := hx
  simp only at hg h1 h2
  have hs := sound_good hg
  rcases hg with ⟨rfl, rfl, rfl⟩ | ⟨rfl, rfl⟩ | ⟨rfl, _, rfl⟩ | ⟨rfl, rfl, ht⟩ | ⟨rfl, _, rfl⟩
  · exact ⟨(0, 0), vnum_plain 0 0 no rfl rfl hs, fun _ => by omega, fun h => by cases h⟩
  · exact ⟨(i, 0), vnum_plain 1 i no rfl rfl hs, fun _ => ⟨h1, h2⟩, fun _ => rfl⟩
  · exact ⟨(i, 0), vnum_plain 2 i no rfl rfl hs, fun _ => ⟨h1, h2⟩, fun h => by cases h⟩
  · obtain ⟨n, e, hr, hb⟩ := read_ex t ht
    by_cases he : e = 0
    · subst he
      exact ⟨(n, 0), vnum_text t n hs hr, fun _ => hb rfl, fun h => by cases h⟩
    · exact ⟨(0, 4), vnum_bad t n e (by simp [he]) hs hr, (fun h => by cases h), (fun h => by cases h)⟩
  · exact ⟨(0, i), vnum_err i hs, fun _ => by omega, fun h => by cases h⟩
/-- A value as a number, and the error. -/
def NmbIs (nm : Va → Int × Int) : Prop := ∀ x, VaOk x → CallIs 95 #[x.v] (.tuple #[.int .i64 (nm x).1, .int .i64 (nm x).2]) ∧ ((nm x).2 = 0 → -9223372036854775808 ≤ (nm x).1 ∧ (nm x).1 ≤ 9223372036854775807) ∧ (x.k = 1 → nm x = (x.i, 0))
theorem nmb_ex : ∃ nm, NmbIs nm := ⟨fun x => Classical.epsilon fun p => CallIs 95 #[x.v] (.tuple #[.int .i64 p.1, .int .i64 p.2]) ∧ (p.2 = 0 → -9223372036854775808 ≤ p.1 ∧ p.1 ≤ 9223372036854775807) ∧ (x.k = 1 → p = (x.i, 0)), fun x hx => Classical.epsilon_spec (p := fun p => CallIs 95 #[x.v] (.tuple #[.int .i64 p.1, .int .i64 p.2]) ∧ (p.2 = 0 → -9223372036854775808 ≤ p.1 ∧ p.1 ≤ 9223372036854775807) ∧ (x.k = 1 → p = (x.i, 0))) (num_ex x hx)⟩
end Go.Proofs.YtnpdkojhlgchlaaGreatDoor
