/- What spot.Text, spot.Read, readCorner and between answer, for every place, text and corners: proved of the Go text. -/
import Derived.Test.YtjhfjpofmkofhaaDoorReadRef
namespace Go.Proofs.YtjhfjpofmkofhaaDoor
open Go.RowKit
set_option linter.unusedVariables false

set_option maxHeartbeats 400000 in
theorem text_no (r c : Int) (w : World) (h : mayB r c = false) :
    Calls Tryd.prog 10 #[spotV r c] w fun e w' => e = .returned (.tuple #[.string ⟨#[]⟩, .int .i64 10]) ∧ Below w.heap.size w w' := by
  go_enter Tryd.func10, Tryd.ntmps10
  go_wp2_with (go_at_call 11; refine (refText_no _ _ _ _ _ h).mono ?_; rintro e w' ⟨rfl, hb⟩)
  go_ret2
  exact ⟨rfl, ((Below.refl _ _).alloc (Nat.le_refl _) _).trans (hb.mono (by simp))⟩
set_option maxHeartbeats 400000 in
theorem text_yes (r c : Nat) (w : World) (h1 : r < 65536) (h2 : c < 702) (ht : Tab w) :
    Calls Tryd.prog 10 #[spotV r c] w fun e w' => e = .returned (.tuple #[.string (refB r c false false), .int .i64 0]) ∧ Below w.heap.size w w' := by
  have HT := hide (refText_yes r c false false (w.alloc (spotO r c)) h1 h2 (tab_below ht ((Below.refl _ _).alloc (Nat.le_refl _) _)))
  clear ht
  go_enter Tryd.func10, Tryd.ntmps10
  go_wp2_with (go_at_call 11; refine HT.out.mono ?_; rintro e w' ⟨rfl, hb⟩)
  go_ret2
  exact ⟨rfl, ((Below.refl _ _).alloc (Nat.le_refl _) _).trans (hb.mono (by simp))⟩

/-- A text that is no place's. -/
def rdBad (s : ByteArray) : Bool := rE s == 20 || (rN s != s.size || !plainL s.data.toList)
theorem rE_cases (s : ByteArray) : rE s = 20 ∨ rE s = 10 ∨ rE s = 0 := by unfold rE; split; exact .inl rfl; split; exact .inr (.inl rfl); exact .inr (.inr rfl)
theorem rN_le (s : ByteArray) : rN s ≤ s.size := by unfold rN; split; omega; exact (cut_le s).2.2.2
set_option maxHeartbeats 1000000 in
theorem read_bad (s : ByteArray) (w : World) (hs : s.size ≤ maxLen) (h : rdBad s = true) :
    Calls Tryd.prog 13 #[.string s] w fun e w' => e = .returned (.tuple #[spotV 0 0, .int .i64 20]) ∧ Below w.heap.size w w' := by
  have HR := hide (fun w => readRef_any s w hs)
  have HP := hide (fun w => isPlain_any s w hs)
  have hs' : s.size ≤ 9223372036854775807 := hs
  have hn := rN_le s
  have HH := hide h
  unfold rdBad at HH
  clear h hs
  generalize rE s = e at *
  generalize rN s = n at *
  generalize rR s = r at *
  generalize rC s = c at *
  generalize rP s = p at *
  generalize rQ s = q at *
  generalize plainL s.data.toList = b at *
  cases h1 : (e == 20)
  · by_cases h2 : n = s.size
    · subst h2
      have hb : b = false := by have := HH.out; rw [h1] at this; simpa using this
      subst hb
      clear HH
      go_enter Tryd.func13, Tryd.ntmps13
      go_wp2_with fail
      refine (HR.out _).mono ?_
      rintro e w' ⟨rfl, rfl⟩
      go_wp2_with (go_at_call 29; refine (HP.out _).mono ?_; rintro e w' ⟨rfl, rfl⟩)
      go_returns
      exact ⟨rfl, by go_grown⟩
    · have h3 : ((n : Int) != s.size) = true := by rw [bne_iff_ne]; omega
      clear HH
      go_enter Tryd.func13, Tryd.ntmps13
      go_wp2_with fail
      refine (HR.out _).mono ?_
      rintro e w' ⟨rfl, rfl⟩
      go_wp2_with fail
      go_returns
      exact ⟨rfl, by go_grown⟩
  · clear HH
    go_enter Tryd.func13, Tryd.ntmps13
    go_wp2_with fail
    refine (HR.out _).mono ?_
    rintro e w' ⟨rfl, rfl⟩
    go_wp2_with fail
    go_returns
    exact ⟨rfl, by go_grown⟩
set_option maxHeartbeats 1000000 in
theorem read_good (s : ByteArray) (w : World) (hs : s.size ≤ maxLen) (h : rdBad s = false) :
    Calls Tryd.prog 13 #[.string s] w fun e w' => e = .returned (.tuple #[spotV (rR s) (rC s), .int .i64 (rE s)]) ∧ Below w.heap.size w w' := by
  have HR := hide (fun w => readRef_any s w hs)
  have HP := hide (fun w => isPlain_any s w hs)
  have hs' : s.size ≤ 9223372036854775807 := hs
  unfold rdBad at h
  simp only [Bool.or_eq_false_iff] at h
  obtain ⟨h1, h2, h3⟩ := h
  have hn : rN s = s.size := by simpa using h2
  have hb : plainL s.data.toList = true := by simpa using h3
  rw [hn] at HR
  rw [hb] at HP
  clear hs h2 h3 hn hb
  generalize rE s = e at *
  generalize rR s = r at *
  generalize rC s = c at *
  generalize rP s = p at *
  generalize rQ s = q at *
  go_enter Tryd.func13, Tryd.ntmps13
  go_wp2_with fail
  refine (HR.out _).mono ?_
  rintro e w' ⟨rfl, rfl⟩
  go_wp2_with (go_at_call 29; refine (HP.out _).mono ?_; rintro e w' ⟨rfl, rfl⟩)
  go_returns
  exact ⟨rfl, by go_grown⟩

theorem below_drewN {B : Nat} {a w : World} (h : Below B a w) (n : Nat) : Below B a (w.drewN n) := ⟨h.os, h.tape, h.output, h.size, h.block⟩
theorem prod_bound (x y : Int) (hx : 0 ≤ x) (hx' : x ≤ 65536) (hy : 0 ≤ y) (hy' : y ≤ 702) : 0 ≤ x * y ∧ x * y ≤ 46006272 :=
  ⟨Int.mul_nonneg hx hy, Int.le_trans (Int.mul_le_mul hx' hy' hy (by decide)) (by decide)⟩
set_option maxHeartbeats 1000000 in
theorem between_yes (a b c d : Int) (p q p' q' : Bool) (w : World) (ha : 0 ≤ a) (ha' : a < 65536) (hb : 0 ≤ b) (hb' : b < 702) (hc : 0 ≤ c) (hc' : c < 65536) (hd : 0 ≤ d) (hd' : d < 702)
    (h : (max a c - min a c + 1) * (max b d - min b d + 1) ≤ 4096) :
    Calls Tryd.prog 37 #[refV a b p q, refV c d p' q'] w fun e w' => e = .returned (.tuple #[areaV (min a c) (min b d) (max a c) (max b d), .int .i64 0]) ∧ Below w.heap.size w w' := by
  obtain ⟨n1, n2⟩ := prod_bound (max a c - min a c + 1) (max b d - min b d + 1) (by omega) (by omega) (by omega) (by omega)
  have m1 : 0 ≤ max a c - min a c ∧ max a c - min a c < 65536 := by omega
  have m2 : 0 ≤ max b d - min b d ∧ max b d - min b d < 702 := by omega
  obtain ⟨m1, m1'⟩ := m1
  obtain ⟨m2, m2'⟩ := m2
  go_enter Tryd.func37, Tryd.ntmps37
  go_wp2_with fail
  go_quiet (fail)
  go_wp2_with fail
  go_returns
  refine ⟨rfl, ?_⟩
  go_grown
  refine below_drewN ?_ _
  go_grown
set_option maxHeartbeats 1000000 in
theorem between_no (a b c d : Int) (p q p' q' : Bool) (w : World) (ha : 0 ≤ a) (ha' : a < 65536) (hb : 0 ≤ b) (hb' : b < 702) (hc : 0 ≤ c) (hc' : c < 65536) (hd : 0 ≤ d) (hd' : d < 702)
    (h : 4096 < (max a c - min a c + 1) * (max b d - min b d + 1)) :
    Calls Tryd.prog 37 #[refV a b p q, refV c d p' q'] w fun e w' => e = .returned (.tuple #[areaV 0 0 0 0, .int .i64 11]) ∧ Below w.heap.size w w' := by
  obtain ⟨n1, n2⟩ := prod_bound (max a c - min a c + 1) (max b d - min b d + 1) (by omega) (by omega) (by omega) (by omega)
  have m1 : 0 ≤ max a c - min a c ∧ max a c - min a c < 65536 := by omega
  have m2 : 0 ≤ max b d - min b d ∧ max b d - min b d < 702 := by omega
  obtain ⟨m1, m1'⟩ := m1
  obtain ⟨m2, m2'⟩ := m2
  go_enter Tryd.func37, Tryd.ntmps37
  go_wp2_with fail
  go_quiet (fail)
  go_wp2_with fail
  go_returns
  refine ⟨rfl, ?_⟩
  go_grown
  refine below_drewN ?_ _
  go_grown
end Go.Proofs.YtjhfjpofmkofhaaDoor
