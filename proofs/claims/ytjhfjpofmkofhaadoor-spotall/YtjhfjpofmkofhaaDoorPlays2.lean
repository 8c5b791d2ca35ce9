/- The law's single call, of every kind, answers true: package spot and the reference answer alike. -/
import Derived.Test.YtjhfjpofmkofhaaDoorFrame2
import Derived.Test.YtjhfjpofmkofhaaDoorR2Ref
import Derived.Test.YtjhfjpofmkofhaaDoorR2Cmp
import Derived.Test.YtjhfjpofmkofhaaDoorR2Rd
import Derived.Test.YtjhfjpofmkofhaaDoorR2Agree
import Derived.Test.YtjhfjpofmkofhaaDoorDollars
namespace Go.Proofs.YtjhfjpofmkofhaaDoor
open Go.RowKit Go.Sort
set_option linter.unusedVariables false

abbrev opV (k a b c d r x : Int) (p q : Bool) (s : ByteArray) : Value := .agg #[.int .i64 k, .int .i64 a, .int .i64 b, .int .i64 c, .int .i64 d, .int .i64 r, .int .i64 x, .bool p, .bool q, .string s]
abbrev opO (k a b c d r x : Int) (p q : Bool) (s : ByteArray) : Obj := .cells #[.int .i64 k, .int .i64 a, .int .i64 b, .int .i64 c, .int .i64 d, .int .i64 r, .int .i64 x, .bool p, .bool q, .string s] 30
theorem cells10 (w : World) (k a b c d r x : Int) (p q : Bool) (s : ByteArray) :
    (w.alloc (opO k a b c d r x p q s)).cell? ⟨w.heap.size, 1, none⟩ = some (.int .i64 a) ∧ (w.alloc (opO k a b c d r x p q s)).cell? ⟨w.heap.size, 2, none⟩ = some (.int .i64 b) ∧ (w.alloc (opO k a b c d r x p q s)).cell? ⟨w.heap.size, 3, none⟩ = some (.int .i64 c) ∧ (w.alloc (opO k a b c d r x p q s)).cell? ⟨w.heap.size, 4, none⟩ = some (.int .i64 d) ∧
    (w.alloc (opO k a b c d r x p q s)).cell? ⟨w.heap.size, 5, none⟩ = some (.int .i64 r) ∧ (w.alloc (opO k a b c d r x p q s)).cell? ⟨w.heap.size, 6, none⟩ = some (.int .i64 x) ∧ (w.alloc (opO k a b c d r x p q s)).cell? ⟨w.heap.size, 7, none⟩ = some (.bool p) ∧ (w.alloc (opO k a b c d r x p q s)).cell? ⟨w.heap.size, 8, none⟩ = some (.bool q) ∧ (w.alloc (opO k a b c d r x p q s)).cell? ⟨w.heap.size, 9, none⟩ = some (.string s) := by
  refine ⟨?_, ?_, ?_, ?_, ?_, ?_, ?_, ?_, ?_⟩ <;> go_simp

set_option maxHeartbeats 1000000 in
set_option maxRecDepth 100000 in
theorem plays_other (k a b c d r x : Int) (p q : Bool) (s : ByteArray) (w : World) (h1 : (k == 1) = false) (h2 : (k == 2) = false) (h3 : (k == 3) = false) (h4 : (k == 4) = false) (h5 : (k == 5) = false) (h6 : (k == 6) = false) (h7 : (k == 7) = false) :
    Calls Tryd.prog 9 #[opV k a b c d r x p q s] w fun e w' => e = .returned (.bool true) ∧ Below w.heap.size w w' := by
  go_enter Tryd.func9, Tryd.ntmps9
  try simp only [List.append]
  go_wp2_with fail
  go_ret
  exact ⟨rfl, by go_grown⟩

set_option maxHeartbeats 1000000 in
set_option maxRecDepth 100000 in
theorem plays_1 (a b c d r x : Int) (p q : Bool) (s : ByteArray) (v : Bool) (w : World)
    (H1 : Hid (∀ w, Calls Tryd.prog 12 #[spotV a b] w fun e w' => e = .returned (.bool v) ∧ Below w.heap.size w w'))
    (H2 : Hid (∀ w, Calls Tryd.prog 19 #[spotV a b] w fun e w' => e = .returned (.bool v) ∧ Below w.heap.size w w')) :
    Calls Tryd.prog 9 #[opV 1 a b c d r x p q s] w fun e w' => e = .returned (.bool true) ∧ Below w.heap.size w w' := by
  obtain ⟨c1, c2, c3, c4, c5, c6, c7, c8, c9⟩ := cells10 w 1 a b c d r x p q s
  have m1 := cell_regrown c1
  have m2 := cell_regrown c2
  clear c1 c2 c3 c4 c5 c6 c7 c8 c9
  have k1 := fun d' os => Calls.regrown_of (H1.out (grow (redrawn (w.alloc (opO 1 a b c d r x p q s)) d') os))
  have k2 := fun d' os => Calls.regrown_of (H2.out (grow (redrawn (w.alloc (opO 1 a b c d r x p q s)) d') os))
  go_enter Tryd.func9, Tryd.ntmps9
  try simp only [List.append]
  go_wp2_with fail
  refine wp_region_quiet_below (by kernel_rfl) (by kernel_rfl) ?_
  repeat (go_big_quiet_step (first | (with_reducible exact k1 _ _) | (with_reducible exact k2 _ _)))
  refine wpQuiet_nil ?_
  intro _ hw'
  obtain ⟨⟨dq, osq⟩, hw''⟩ := hw'
  subst hw''
  go_wp2_with fail
  go_ret
  exact ⟨rfl, next (step (Below.refl w.heap.size w) _) (below_regrown _ dq osq)⟩

set_option maxHeartbeats 1000000 in
set_option maxRecDepth 100000 in
theorem plays_7 (a b c d r x : Int) (p q : Bool) (s : ByteArray) (v : Int) (w : World)
    (H1 : Hid (∀ w, Calls Tryd.prog 18 #[spotV a b, spotV c d] w fun e w' => e = .returned (.int .i64 v) ∧ Below w.heap.size w w'))
    (H2 : Hid (∀ w, Calls Tryd.prog 25 #[spotV a b, spotV c d] w fun e w' => e = .returned (.int .i64 v) ∧ Below w.heap.size w w')) :
    Calls Tryd.prog 9 #[opV 7 a b c d r x p q s] w fun e w' => e = .returned (.bool true) ∧ Below w.heap.size w w' := by
  obtain ⟨c1, c2, c3, c4, c5, c6, c7, c8, c9⟩ := cells10 w 7 a b c d r x p q s
  have m1 := cell_regrown c1
  have m2 := cell_regrown c2
  have m3 := cell_regrown c3
  have m4 := cell_regrown c4
  clear c1 c2 c3 c4 c5 c6 c7 c8 c9
  have k1 := fun d' os => Calls.regrown_of (H1.out (grow (redrawn (w.alloc (opO 7 a b c d r x p q s)) d') os))
  have k2 := fun d' os => Calls.regrown_of (H2.out (grow (redrawn (w.alloc (opO 7 a b c d r x p q s)) d') os))
  go_enter Tryd.func9, Tryd.ntmps9
  try simp only [List.append]
  go_wp2_with fail
  refine wp_region_quiet_below (by kernel_rfl) (by kernel_rfl) ?_
  repeat (go_big_quiet_step (first | (with_reducible exact k1 _ _) | (with_reducible exact k2 _ _)))
  refine wpQuiet_nil ?_
  intro _ hw'
  obtain ⟨⟨dq, osq⟩, hw''⟩ := hw'
  subst hw''
  go_wp2_with fail
  go_ret
  exact ⟨rfl, next (step (Below.refl w.heap.size w) _) (below_regrown _ dq osq)⟩

set_option maxHeartbeats 1000000 in
set_option maxRecDepth 100000 in
theorem plays_2 (a b c d r x : Int) (p q : Bool) (s : ByteArray) (t : ByteArray) (v : Int) (w : World) (zt : t.size ≤ 24)
    (H1 : Hid (∀ w1, Below w.heap.size w w1 → Calls Tryd.prog 10 #[spotV a b] w1 fun e w' => e = .returned (.tuple #[.string t, .int .i64 v]) ∧ Below w1.heap.size w1 w'))
    (H2 : Hid (∀ w, Calls Tryd.prog 20 #[spotV a b] w fun e w' => e = .returned (.tuple #[.string t, .int .i64 v]) ∧ Below w.heap.size w w')) :
    Calls Tryd.prog 9 #[opV 2 a b c d r x p q s] w fun e w' => e = .returned (.bool true) ∧ Below w.heap.size w w' := by
  obtain ⟨c1, c2, c3, c4, c5, c6, c7, c8, c9⟩ := cells10 w 2 a b c d r x p q s
  go_enter Tryd.func9, Tryd.ntmps9
  try simp only [List.append]
  go_wp2_with fail
  refine (H1.out _ (step (Below.refl w.heap.size w) _)).mono ?_
  rintro e w1 ⟨rfl, hb1⟩
  have n1 := keep1 hb1 c1
  have n2 := keep1 hb1 c2
  clear c1 c2 c3 c4 c5 c6 c7 c8 c9
  have B1 := hide (next (step (Below.refl w.heap.size w) _) hb1)
  clear hb1
  go_wp2_with fail
  refine (H2.out _).mono ?_
  rintro e w2 ⟨rfl, hb2⟩
  go_wp2_with fail
  go_ret
  exact ⟨rfl, next B1.out hb2⟩

set_option maxHeartbeats 1000000 in
set_option maxRecDepth 100000 in
theorem plays_4 (a b c d r x : Int) (p q : Bool) (s : ByteArray) (t : ByteArray) (v : Int) (w : World) (zt : t.size ≤ 24)
    (H1 : Hid (∀ w1, Below w.heap.size w w1 → Calls Tryd.prog 11 #[refV r x p q] w1 fun e w' => e = .returned (.tuple #[.string t, .int .i64 v]) ∧ Below w1.heap.size w1 w'))
    (H2 : Hid (∀ w, Calls Tryd.prog 22 #[refV r x p q] w fun e w' => e = .returned (.tuple #[.string t, .int .i64 v]) ∧ Below w.heap.size w w')) :
    Calls Tryd.prog 9 #[opV 4 a b c d r x p q s] w fun e w' => e = .returned (.bool true) ∧ Below w.heap.size w w' := by
  obtain ⟨c1, c2, c3, c4, c5, c6, c7, c8, c9⟩ := cells10 w 4 a b c d r x p q s
  go_enter Tryd.func9, Tryd.ntmps9
  try simp only [List.append]
  go_wp2_with fail
  refine (H1.out _ (step (Below.refl w.heap.size w) _)).mono ?_
  rintro e w1 ⟨rfl, hb1⟩
  have n5 := keep1 hb1 c5
  have n6 := keep1 hb1 c6
  have n7 := keep1 hb1 c7
  have n8 := keep1 hb1 c8
  clear c1 c2 c3 c4 c5 c6 c7 c8 c9
  have B1 := hide (next (step (Below.refl w.heap.size w) _) hb1)
  clear hb1
  go_wp2_with fail
  refine (H2.out _).mono ?_
  rintro e w2 ⟨rfl, hb2⟩
  go_wp2_with fail
  go_ret
  exact ⟨rfl, next B1.out hb2⟩

set_option maxHeartbeats 1000000 in
set_option maxRecDepth 100000 in
theorem plays_3 (a b c d r x : Int) (p q : Bool) (s : ByteArray) (u0 u1 v : Int) (w : World)
    (H1 : Hid (∀ w, Calls Tryd.prog 13 #[.string s] w fun e w' => e = .returned (.tuple #[spotV u0 u1, .int .i64 v]) ∧ Below w.heap.size w w'))
    (H2 : Hid (∀ w, Calls Tryd.prog 21 #[.string s] w fun e w' => e = .returned (.tuple #[spotV u0 u1, .int .i64 v]) ∧ Below w.heap.size w w')) :
    Calls Tryd.prog 9 #[opV 3 a b c d r x p q s] w fun e w' => e = .returned (.bool true) ∧ Below w.heap.size w w' := by
  obtain ⟨c1, c2, c3, c4, c5, c6, c7, c8, c9⟩ := cells10 w 3 a b c d r x p q s
  go_enter Tryd.func9, Tryd.ntmps9
  try simp only [List.append]
  go_wp2_with fail
  refine (H1.out _).mono ?_
  rintro e w1 ⟨rfl, hb1⟩
  have n9 := keep1 hb1 c9
  clear c1 c2 c3 c4 c5 c6 c7 c8 c9
  have n9' := fun o => keep1 ((Below.refl w1.heap.size w1).alloc (Nat.le_refl _) o) n9
  have B1 := hide (next (step (Below.refl w.heap.size w) _) hb1)
  clear hb1
  go_wp2_with fail
  refine (H2.out _).mono ?_
  rintro e w2 ⟨rfl, hb2⟩
  have B2 := hide (next (step B1.out _) hb2)
  obtain ⟨i0, i1⟩ := ((C2.new w1 (.int .i64 u0) (.int .i64 u1) 26).keep hb2).any
  clear hb2
  go_wp2_with fail
  go_ret
  exact ⟨rfl, step B2.out _⟩

set_option maxHeartbeats 1000000 in
set_option maxRecDepth 100000 in
theorem plays_5 (a b c d r x : Int) (p q : Bool) (s : ByteArray) (u0 u1 v m : Int) (u2 u3 : Bool) (w : World)
    (H1 : Hid (∀ w, Calls Tryd.prog 14 #[.string s] w fun e w' => e = .returned (.tuple #[refV u0 u1 u2 u3, .int .i64 m, .int .i64 v]) ∧ Below w.heap.size w w'))
    (H2 : Hid (∀ w, Calls Tryd.prog 23 #[.string s] w fun e w' => e = .returned (.tuple #[refV u0 u1 u2 u3, .int .i64 m, .int .i64 v]) ∧ Below w.heap.size w w')) :
    Calls Tryd.prog 9 #[opV 5 a b c d r x p q s] w fun e w' => e = .returned (.bool true) ∧ Below w.heap.size w w' := by
  obtain ⟨c1, c2, c3, c4, c5, c6, c7, c8, c9⟩ := cells10 w 5 a b c d r x p q s
  go_enter Tryd.func9, Tryd.ntmps9
  try simp only [List.append]
  go_wp2_with fail
  refine (H1.out _).mono ?_
  rintro e w1 ⟨rfl, hb1⟩
  have n9 := keep1 hb1 c9
  clear c1 c2 c3 c4 c5 c6 c7 c8 c9
  have n9' := fun o => keep1 ((Below.refl w1.heap.size w1).alloc (Nat.le_refl _) o) n9
  have B1 := hide (next (step (Below.refl w.heap.size w) _) hb1)
  clear hb1
  go_wp2_with fail
  refine (H2.out _).mono ?_
  rintro e w2 ⟨rfl, hb2⟩
  have B2 := hide (next (step B1.out _) hb2)
  obtain ⟨i0, i1, i2, i3⟩ := ((C4.new w1 (.int .i64 u0) (.int .i64 u1) (.bool u2) (.bool u3) 28).keep hb2).any
  clear hb2
  go_wp2_with fail
  go_ret
  exact ⟨rfl, step B2.out _⟩

set_option maxHeartbeats 1000000 in
set_option maxRecDepth 100000 in
theorem plays_6 (a b c d r x : Int) (p q : Bool) (s : ByteArray) (u0 u1 u2 u3 v : Int) (w : World)
    (H1 : Hid (∀ w, Calls Tryd.prog 17 #[.string s] w fun e w' => e = .returned (.tuple #[areaV u0 u1 u2 u3, .int .i64 v]) ∧ Below w.heap.size w w'))
    (H2 : Hid (∀ w, Calls Tryd.prog 24 #[.string s] w fun e w' => e = .returned (.tuple #[areaV u0 u1 u2 u3, .int .i64 v]) ∧ Below w.heap.size w w')) :
    Calls Tryd.prog 9 #[opV 6 a b c d r x p q s] w fun e w' => e = .returned (.bool true) ∧ Below w.heap.size w w' := by
  obtain ⟨c1, c2, c3, c4, c5, c6, c7, c8, c9⟩ := cells10 w 6 a b c d r x p q s
  go_enter Tryd.func9, Tryd.ntmps9
  try simp only [List.append]
  go_wp2_with fail
  refine (H1.out _).mono ?_
  rintro e w1 ⟨rfl, hb1⟩
  have n9 := keep1 hb1 c9
  clear c1 c2 c3 c4 c5 c6 c7 c8 c9
  have n9' := fun o => keep1 ((Below.refl w1.heap.size w1).alloc (Nat.le_refl _) o) n9
  have B1 := hide (next (step (Below.refl w.heap.size w) _) hb1)
  clear hb1
  go_wp2_with fail
  refine (H2.out _).mono ?_
  rintro e w2 ⟨rfl, hb2⟩
  have B2 := hide (next (step B1.out _) hb2)
  obtain ⟨i0, i1, i2, i3⟩ := ((C4.new w1 (.int .i64 u0) (.int .i64 u1) (.int .i64 u2) (.int .i64 u3) 46).keep hb2).any
  clear hb2
  go_wp2_with fail
  go_ret
  exact ⟨rfl, step B2.out _⟩

theorem may_cases (a b : Int) (h : mayB a b = true) : ∃ r c : Nat, a = r ∧ b = c ∧ r < 65536 ∧ c < 702 := by
  simp [mayB] at h
  exact ⟨a.toNat, b.toNat, by omega, by omega, by omega, by omega⟩
theorem plays_any (k a b c d r x : Int) (p q : Bool) (s : ByteArray) (w : World) (hs : s.size ≤ maxLen) (ht : Tab w) :
    Calls Tryd.prog 9 #[opV k a b c d r x p q s] w fun e w' => e = .returned (.bool true) ∧ Below w.heap.size w w' := by
  by_cases h1 : k = 1
  · subst h1
    exact plays_1 a b c d r x p q s (mayB a b) w (hide fun w => (may_any a b w).mono fun e w' ⟨h, h'⟩ => ⟨h, h' ▸ (Below.refl _ _).alloc (Nat.le_refl _) _⟩) (hide fun w => (refMay_any a b w).mono fun e w' ⟨h, h'⟩ => ⟨h, h' ▸ (Below.refl _ _).alloc (Nat.le_refl _) _⟩)
  by_cases h2 : k = 2
  · subst h2
    cases hm : mayB a b
    · exact plays_2 a b c d r x p q s ⟨#[]⟩ 10 w (by decide) (hide fun w1 _ => text_no a b w1 hm) (hide fun w => textR_no a b w hm)
    · obtain ⟨u, v, rfl, rfl, g1, g2⟩ := may_cases a b hm
      exact plays_2 _ _ c d r x p q s (refB u v false false) 0 w (refB_bounds u v false false g1 g2).2 (hide fun w1 hb => text_yes u v w1 g1 g2 (tab_below ht hb)) (hide fun w => textR_yes u v w g1 g2)
  by_cases h3 : k = 3
  · subst h3
    have hr := fun w => readR_any s w hs
    cases hb : rdBad s
    · rw [hb] at hr
      exact plays_3 a b c d r x p q s (rR s) (rC s) (rE s) w (hide fun w => read_good s w hs hb) (hide fun w => hr w)
    · rw [hb] at hr
      exact plays_3 a b c d r x p q s 0 0 20 w (hide fun w => read_bad s w hs hb) (hide fun w => hr w)
  by_cases h4 : k = 4
  · subst h4
    cases hm : mayB r x
    · exact plays_4 a b c d r x p q s ⟨#[]⟩ 10 w (by decide) (hide fun w1 _ => refText_no r x p q w1 hm) (hide fun w => refTextR_no r x p q w hm)
    · obtain ⟨u, v, rfl, rfl, g1, g2⟩ := may_cases r x hm
      exact plays_4 a b c d _ _ p q s (refB u v p q) 0 w (refB_bounds u v p q g1 g2).2 (hide fun w1 hb => refText_yes u v p q w1 g1 g2 (tab_below ht hb)) (hide fun w => refTextR_yes u v p q w g1 g2)
  by_cases h5 : k = 5
  · subst h5
    exact plays_5 a b c d r x p q s (rR s) (rC s) (rE s) (rN s) (rP s) (rQ s) w (hide fun w => (readRef_any s w hs).mono fun e w' ⟨h, h'⟩ => ⟨h, h' ▸ (Below.refl _ _).alloc (Nat.le_refl _) _⟩) (hide fun w => refR_any s w hs)
  by_cases h6 : k = 6
  · subst h6
    obtain ⟨u0, u1, u2, u3, v, H1, H2⟩ := area_agree s hs
    exact plays_6 a b c d r x p q s u0 u1 u2 u3 v w H1 H2
  by_cases h7 : k = 7
  · subst h7
    exact plays_7 a b c d r x p q s _ w (hide fun w => compare_any a b c d w) (hide fun w => compareR a b c d w)
  · have t : ∀ n : Int, k ≠ n → (k == n) = false := fun n h => by rw [beq_eq_false_iff_ne]; exact h
    exact plays_other k a b c d r x p q s w (t 1 h1) (t 2 h2) (t 3 h3) (t 4 h4) (t 5 h5) (t 6 h6) (t 7 h7)
end Go.Proofs.YtjhfjpofmkofhaaDoor
