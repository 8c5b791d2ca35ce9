/- The law SpotAreas returns true for every two references, whatever their numbers, and changes nothing that was there. -/
import Derived.Test.YtjhfjpofmkofhaaDoorFrame2
import Derived.Test.YtjhfjpofmkofhaaDoorAreaRef
namespace Go.Proofs.YtjhfjpofmkofhaaDoor
open Go.RowKit Go.Sort
set_option linter.unusedVariables false

abbrev BegunAt (w : World) : Prop := Hid (∀ w1, Below w.heap.size w w1 → Calls Tryd.prog 8 #[] w1 fun e w' => e = .returned (.bool true) ∧ Below w1.heap.size w1 w')
abbrev RefTextAt (w : World) (r c : Int) (p q : Bool) (s : ByteArray) (e : Int) : Prop := Hid (∀ w1, Below w.heap.size w w1 → Calls Tryd.prog 11 #[refV r c p q] w1 fun e' w' => e' = .returned (.tuple #[.string s, .int .i64 e]) ∧ Below w1.heap.size w1 w')
abbrev AreaIs (s : ByteArray) (a b c d e : Int) : Prop := Hid (∀ w, Calls Tryd.prog 17 #[.string s] w fun e' w' => e' = .returned (.tuple #[areaV a b c d, .int .i64 e]) ∧ Below w.heap.size w w')

set_option maxHeartbeats 2000000 in
set_option maxRecDepth 100000 in
theorem areas_n1 (a b : Int) (p q : Bool) (c d : Int) (p' q' : Bool) (s t : ByteArray) (f : Int) (w : World) (HB : BegunAt w) (HS : RefTextAt w a b p q s 10) (HT : RefTextAt w c d p' q' t f) :
    Calls Tryd.prog 6 #[refV a b p q, refV c d p' q'] w fun e w' => e = .returned (.bool true) ∧ Below w.heap.size w w' := by
  go_enter Tryd.func6, Tryd.ntmps6
  try simp only [List.append]
  go_wp2_with fail
  refine (HB.out _ (by go_grown)).mono ?_
  rintro r w1 ⟨rfl, hb1⟩
  have B1 := hide (next (step (step (Below.refl w.heap.size w) _) _) hb1)
  have ca := hide (((C4.new w (.int .i64 a) (.int .i64 b) (.bool p) (.bool q) 28).alloc _).keep hb1)
  have cb := hide ((C4.new (w.alloc (refO a b p q)) (.int .i64 c) (.int .i64 d) (.bool p') (.bool q') 28).keep hb1)
  simp only [World.size_alloc] at cb
  obtain ⟨a0, a1, a2, a3⟩ := ca.out
  go_wp2_with fail
  refine (HS.out _ B1.out).mono ?_
  rintro r w2 ⟨rfl, hb2⟩
  clear a0 a1 a2 a3
  have B2 := hide (next B1.out hb2)
  replace ca := hide (ca.out.keep hb2)
  replace cb := hide (cb.out.keep hb2)
  obtain ⟨b0, b1, b2, b3⟩ := cb.out
  go_wp2_with fail
  refine (HT.out _ B2.out).mono ?_
  rintro r w3 ⟨rfl, hb3⟩
  clear b0 b1 b2 b3
  have B3 := hide (next B2.out hb3)
  replace ca := hide (ca.out.keep hb3)
  replace cb := hide (cb.out.keep hb3)
  go_wp2_with fail
  go_ret
  exact ⟨rfl, B3.out⟩
set_option maxHeartbeats 2000000 in
set_option maxRecDepth 100000 in
theorem areas_n2 (a b : Int) (p q : Bool) (c d : Int) (p' q' : Bool) (s t : ByteArray) (w : World) (HB : BegunAt w) (HS : RefTextAt w a b p q s 0) (HT : RefTextAt w c d p' q' t 10) :
    Calls Tryd.prog 6 #[refV a b p q, refV c d p' q'] w fun e w' => e = .returned (.bool true) ∧ Below w.heap.size w w' := by
  go_enter Tryd.func6, Tryd.ntmps6
  try simp only [List.append]
  go_wp2_with fail
  refine (HB.out _ (by go_grown)).mono ?_
  rintro r w1 ⟨rfl, hb1⟩
  have B1 := hide (next (step (step (Below.refl w.heap.size w) _) _) hb1)
  have ca := hide (((C4.new w (.int .i64 a) (.int .i64 b) (.bool p) (.bool q) 28).alloc _).keep hb1)
  have cb := hide ((C4.new (w.alloc (refO a b p q)) (.int .i64 c) (.int .i64 d) (.bool p') (.bool q') 28).keep hb1)
  simp only [World.size_alloc] at cb
  obtain ⟨a0, a1, a2, a3⟩ := ca.out
  go_wp2_with fail
  refine (HS.out _ B1.out).mono ?_
  rintro r w2 ⟨rfl, hb2⟩
  clear a0 a1 a2 a3
  have B2 := hide (next B1.out hb2)
  replace ca := hide (ca.out.keep hb2)
  replace cb := hide (cb.out.keep hb2)
  obtain ⟨b0, b1, b2, b3⟩ := cb.out
  go_wp2_with fail
  refine (HT.out _ B2.out).mono ?_
  rintro r w3 ⟨rfl, hb3⟩
  clear b0 b1 b2 b3
  have B3 := hide (next B2.out hb3)
  replace ca := hide (ca.out.keep hb3)
  replace cb := hide (cb.out.keep hb3)
  go_wp2_with fail
  go_ret
  exact ⟨rfl, B3.out⟩

set_option maxHeartbeats 2000000 in
set_option maxRecDepth 100000 in
theorem areas_yes (a b : Int) (p q : Bool) (c d : Int) (p' q' : Bool) (s t : ByteArray) (w : World) (ha : 0 ≤ a) (ha' : a < 65536) (hb : 0 ≤ b) (hb' : b < 702) (hc : 0 ≤ c) (hc' : c < 65536) (hd : 0 ≤ d) (hd' : d < 702)
    (h : (max a c - min a c + 1) * (max b d - min b d + 1) ≤ 4096) (zs : s.size ≤ 24) (zt : t.size ≤ 24) (HB : BegunAt w) (HS : RefTextAt w a b p q s 0) (HT : RefTextAt w c d p' q' t 0)
    (HX : AreaIs ((s ++ { data := #[58] }) ++ t) (min a c) (min b d) (max a c) (max b d) 0) (HY : AreaIs ((t ++ { data := #[58] }) ++ s) (min a c) (min b d) (max a c) (max b d) 0) (H1 : AreaIs s a b a b 0) :
    Calls Tryd.prog 6 #[refV a b p q, refV c d p' q'] w fun e w' => e = .returned (.bool true) ∧ Below w.heap.size w w' := by
  obtain ⟨n1, n2⟩ := prod_bound (max a c - min a c + 1) (max b d - min b d + 1) (by omega) (by omega) (by omega) (by omega)
  have m1 : 0 ≤ max a c - min a c ∧ max a c - min a c < 65536 := by omega
  have m2 : 0 ≤ max b d - min b d ∧ max b d - min b d < 702 := by omega
  obtain ⟨m1, m1'⟩ := m1
  obtain ⟨m2, m2'⟩ := m2
  have s1 := fun w => add_run (a := s) (b := { data := #[58] }) (by show s.size + 1 ≤ _; omega) w
  have s2 := fun w => add_run (a := s ++ { data := #[58] }) (b := t) (by rw [ByteArray.size_append]; show s.size + 1 + t.size ≤ _; omega) w
  have s3 := fun w => add_run (a := t) (b := { data := #[58] }) (by show t.size + 1 ≤ _; omega) w
  have s4 := fun w => add_run (a := t ++ { data := #[58] }) (b := s) (by rw [ByteArray.size_append]; show t.size + 1 + s.size ≤ _; omega) w
  go_enter Tryd.func6, Tryd.ntmps6
  try simp only [List.append]
  go_wp2_with fail
  refine (HB.out _ (by go_grown)).mono ?_
  rintro r w1 ⟨rfl, hb1⟩
  have B1 := hide (next (step (step (Below.refl w.heap.size w) _) _) hb1)
  have ca := hide (((C4.new w (.int .i64 a) (.int .i64 b) (.bool p) (.bool q) 28).alloc _).keep hb1)
  have cb := hide ((C4.new (w.alloc (refO a b p q)) (.int .i64 c) (.int .i64 d) (.bool p') (.bool q') 28).keep hb1)
  simp only [World.size_alloc] at cb
  obtain ⟨a0, a1, a2, a3⟩ := ca.out
  go_wp2_with fail
  refine (HS.out _ B1.out).mono ?_
  rintro r w2 ⟨rfl, hb2⟩
  clear a0 a1 a2 a3
  have B2 := hide (next B1.out hb2)
  replace ca := hide (ca.out.keep hb2)
  replace cb := hide (cb.out.keep hb2)
  obtain ⟨b0, b1, b2, b3⟩ := cb.out
  go_wp2_with fail
  refine (HT.out _ B2.out).mono ?_
  rintro r w3 ⟨rfl, hb3⟩
  clear b0 b1 b2 b3
  have B3 := hide (next B2.out hb3)
  replace ca := hide (ca.out.keep hb3)
  replace cb := hide (cb.out.keep hb3)
  go_wp2_with fail
  refine (HX.out _).mono ?_
  rintro r w4 ⟨rfl, hb4⟩
  have B4 := hide (next B3.out hb4)
  replace ca := hide (ca.out.keep hb4)
  replace cb := hide (cb.out.keep hb4)
  go_wp2_with fail
  refine (HY.out _).mono ?_
  rintro r w5 ⟨rfl, hb5⟩
  have B5 := hide (next (step B4.out _) hb5)
  replace ca := hide ((ca.out.alloc _).keep hb5)
  replace cb := hide ((cb.out.alloc _).keep hb5)
  have cx := hide ((C4.new w4 (.int .i64 (min a c)) (.int .i64 (min b d)) (.int .i64 (max a c)) (.int .i64 (max b d)) 46).keep hb5)
  go_wp2_with fail
  refine (H1.out _).mono ?_
  rintro r w6 ⟨rfl, hb6⟩
  have B6 := hide (next (step B5.out _) hb6)
  replace ca := hide ((ca.out.alloc _).keep hb6)
  replace cb := hide ((cb.out.alloc _).keep hb6)
  replace cx := hide ((cx.out.alloc _).keep hb6)
  have cy := hide ((C4.new w5 (.int .i64 (min a c)) (.int .i64 (min b d)) (.int .i64 (max a c)) (.int .i64 (max b d)) 46).keep hb6)
  obtain ⟨a0, a1, a2, a3⟩ := ca.out.any
  obtain ⟨b0, b1, b2, b3⟩ := cb.out.any
  obtain ⟨x0, x1, x2, x3⟩ := cx.out.any
  obtain ⟨y0, y1, y2, y3⟩ := cy.out.any
  have u0 := fun o o' => ((cx.out.alloc o).alloc o').1
  have u1 := fun o o' => ((cx.out.alloc o).alloc o').2.1
  have u2 := fun o o' => ((cx.out.alloc o).alloc o').2.2.1
  have u3 := fun o o' => ((cx.out.alloc o).alloc o').2.2.2
  go_wp2_with fail
  go_ret
  exact ⟨rfl, step (step B6.out _) _⟩

set_option maxHeartbeats 2000000 in
set_option maxRecDepth 100000 in
theorem areas_big (a b : Int) (p q : Bool) (c d : Int) (p' q' : Bool) (s t : ByteArray) (w : World) (ha : 0 ≤ a) (ha' : a < 65536) (hb : 0 ≤ b) (hb' : b < 702) (hc : 0 ≤ c) (hc' : c < 65536) (hd : 0 ≤ d) (hd' : d < 702)
    (h : 4096 < (max a c - min a c + 1) * (max b d - min b d + 1)) (zs : s.size ≤ 24) (zt : t.size ≤ 24) (HB : BegunAt w) (HS : RefTextAt w a b p q s 0) (HT : RefTextAt w c d p' q' t 0)
    (HX : AreaIs ((s ++ { data := #[58] }) ++ t) 0 0 0 0 11) (HY : AreaIs ((t ++ { data := #[58] }) ++ s) 0 0 0 0 11) (H1 : AreaIs s a b a b 0) :
    Calls Tryd.prog 6 #[refV a b p q, refV c d p' q'] w fun e w' => e = .returned (.bool true) ∧ Below w.heap.size w w' := by
  obtain ⟨n1, n2⟩ := prod_bound (max a c - min a c + 1) (max b d - min b d + 1) (by omega) (by omega) (by omega) (by omega)
  have m1 : 0 ≤ max a c - min a c ∧ max a c - min a c < 65536 := by omega
  have m2 : 0 ≤ max b d - min b d ∧ max b d - min b d < 702 := by omega
  obtain ⟨m1, m1'⟩ := m1
  obtain ⟨m2, m2'⟩ := m2
  have s1 := fun w => add_run (a := s) (b := { data := #[58] }) (by show s.size + 1 ≤ _; omega) w
  have s2 := fun w => add_run (a := s ++ { data := #[58] }) (b := t) (by rw [ByteArray.size_append]; show s.size + 1 + t.size ≤ _; omega) w
  have s3 := fun w => add_run (a := t) (b := { data := #[58] }) (by show t.size + 1 ≤ _; omega) w
  have s4 := fun w => add_run (a := t ++ { data := #[58] }) (b := s) (by rw [ByteArray.size_append]; show t.size + 1 + s.size ≤ _; omega) w
  go_enter Tryd.func6, Tryd.ntmps6
  try simp only [List.append]
  go_wp2_with fail
  refine (HB.out _ (by go_grown)).mono ?_
  rintro r w1 ⟨rfl, hb1⟩
  have B1 := hide (next (step (step (Below.refl w.heap.size w) _) _) hb1)
  have ca := hide (((C4.new w (.int .i64 a) (.int .i64 b) (.bool p) (.bool q) 28).alloc _).keep hb1)
  have cb := hide ((C4.new (w.alloc (refO a b p q)) (.int .i64 c) (.int .i64 d) (.bool p') (.bool q') 28).keep hb1)
  simp only [World.size_alloc] at cb
  obtain ⟨a0, a1, a2, a3⟩ := ca.out
  go_wp2_with fail
  refine (HS.out _ B1.out).mono ?_
  rintro r w2 ⟨rfl, hb2⟩
  clear a0 a1 a2 a3
  have B2 := hide (next B1.out hb2)
  replace ca := hide (ca.out.keep hb2)
  replace cb := hide (cb.out.keep hb2)
  obtain ⟨b0, b1, b2, b3⟩ := cb.out
  go_wp2_with fail
  refine (HT.out _ B2.out).mono ?_
  rintro r w3 ⟨rfl, hb3⟩
  clear b0 b1 b2 b3
  have B3 := hide (next B2.out hb3)
  replace ca := hide (ca.out.keep hb3)
  replace cb := hide (cb.out.keep hb3)
  go_wp2_with fail
  refine (HX.out _).mono ?_
  rintro r w4 ⟨rfl, hb4⟩
  have B4 := hide (next B3.out hb4)
  replace ca := hide (ca.out.keep hb4)
  replace cb := hide (cb.out.keep hb4)
  go_wp2_with fail
  refine (HY.out _).mono ?_
  rintro r w5 ⟨rfl, hb5⟩
  have B5 := hide (next (step B4.out _) hb5)
  replace ca := hide ((ca.out.alloc _).keep hb5)
  replace cb := hide ((cb.out.alloc _).keep hb5)
  have cx := hide ((C4.new w4 (.int .i64 0) (.int .i64 0) (.int .i64 0) (.int .i64 0) 46).keep hb5)
  go_wp2_with fail
  refine (H1.out _).mono ?_
  rintro r w6 ⟨rfl, hb6⟩
  have B6 := hide (next (step B5.out _) hb6)
  replace ca := hide ((ca.out.alloc _).keep hb6)
  replace cb := hide ((cb.out.alloc _).keep hb6)
  replace cx := hide ((cx.out.alloc _).keep hb6)
  have cy := hide ((C4.new w5 (.int .i64 0) (.int .i64 0) (.int .i64 0) (.int .i64 0) 46).keep hb6)
  obtain ⟨a0, a1, a2, a3⟩ := ca.out.any
  obtain ⟨b0, b1, b2, b3⟩ := cb.out.any
  obtain ⟨x0, x1, x2, x3⟩ := cx.out.any
  obtain ⟨y0, y1, y2, y3⟩ := cy.out.any
  have u0 := fun o o' => ((cx.out.alloc o).alloc o').1
  have u1 := fun o o' => ((cx.out.alloc o).alloc o').2.1
  have u2 := fun o o' => ((cx.out.alloc o).alloc o').2.2.1
  have u3 := fun o o' => ((cx.out.alloc o).alloc o').2.2.2
  go_wp2_with fail
  go_ret
  exact ⟨rfl, step (step B6.out _) _⟩

theorem spotAreas_walk (a b : Int) (p q : Bool) (c d : Int) (p' q' : Bool) (w : World) (ht : Tab w) :
    Calls Tryd.prog 6 #[refV a b p q, refV c d p' q'] w fun e w' => e = .returned (.bool true) ∧ Below w.heap.size w w' := by
  have HB : BegunAt w := hide (fun (w1 : World) (hb : Below w.heap.size w w1) => begun_any w1 (tab_below ht hb))
  have no : ∀ (a b : Int) (p q : Bool), mayB a b = false → RefTextAt w a b p q ⟨#[]⟩ 10 := fun a b p q h => hide fun w1 _ => refText_no a b p q w1 h
  have yes : ∀ (r c : Nat) (p q : Bool), r < 65536 → c < 702 → RefTextAt w r c p q (refB r c p q) 0 := fun r c p q h1 h2 => hide fun w1 hb => refText_yes r c p q w1 h1 h2 (tab_below ht hb)
  have may : ∀ a b : Int, mayB a b = true → ∃ r c : Nat, a = r ∧ b = c ∧ r < 65536 ∧ c < 702 := fun a b h => by
    simp [mayB] at h
    exact ⟨a.toNat, b.toNat, by omega, by omega, by omega, by omega⟩
  cases h1 : mayB a b
  · cases h2 : mayB c d
    · exact areas_n1 a b p q c d p' q' _ _ _ w HB (no _ _ _ _ h1) (no _ _ _ _ h2)
    · obtain ⟨r', c', rfl, rfl, k1, k2⟩ := may c d h2
      exact areas_n1 a b p q _ _ p' q' _ _ _ w HB (no _ _ _ _ h1) (yes r' c' p' q' k1 k2)
  · obtain ⟨r, x, rfl, rfl, j1, j2⟩ := may a b h1
    cases h2 : mayB c d
    · exact areas_n2 _ _ p q c d p' q' _ _ w HB (yes r x p q j1 j2) (no _ _ _ _ h2)
    · obtain ⟨r', x', rfl, rfl, k1, k2⟩ := may c d h2
      have bs := refB_bounds r x p q j1 j2
      have bt := refB_bounds r' x' p' q' k1 k2
      have H1 : AreaIs (refB r x p q) r x r x 0 := hide fun w => area_ref1 r x p q w j1 j2
      by_cases h : (max (r : Int) r' - min (r : Int) r' + 1) * (max (x : Int) x' - min (x : Int) x' + 1) ≤ 4096
      · have g : (max (r' : Int) r - min (r' : Int) r + 1) * (max (x' : Int) x - min (x' : Int) x + 1) ≤ 4096 := by
          rw [Int.max_comm r' r, Int.min_comm r' r, Int.max_comm x' x, Int.min_comm x' x]; exact h
        have HX : AreaIs (two (refB r x p q) (refB r' x' p' q')) (min r r') (min x x') (max r r') (max x x') 0 := hide fun w => area_ref2 r x p q r' x' p' q' w j1 j2 k1 k2 _ _ _ _ _ fun w => between_yes r x r' x' p q p' q' w (by omega) (by omega) (by omega) (by omega) (by omega) (by omega) (by omega) (by omega) h
        have HY : AreaIs (two (refB r' x' p' q') (refB r x p q)) (min r' r) (min x' x) (max r' r) (max x' x) 0 := hide fun w => area_ref2 r' x' p' q' r x p q w k1 k2 j1 j2 _ _ _ _ _ fun w => between_yes r' x' r x p' q' p q w (by omega) (by omega) (by omega) (by omega) (by omega) (by omega) (by omega) (by omega) g
        rw [Int.max_comm r' r, Int.min_comm r' r, Int.max_comm x' x, Int.min_comm x' x] at HY
        exact areas_yes r x p q r' x' p' q' _ _ w (by omega) (by omega) (by omega) (by omega) (by omega) (by omega) (by omega) (by omega) h (by omega) (by omega) HB (yes r x p q j1 j2) (yes r' x' p' q' k1 k2) HX HY H1
      · have g : 4096 < (max (r' : Int) r - min (r' : Int) r + 1) * (max (x' : Int) x - min (x' : Int) x + 1) := by
          rw [Int.max_comm r' r, Int.min_comm r' r, Int.max_comm x' x, Int.min_comm x' x]; omega
        have HX : AreaIs (two (refB r x p q) (refB r' x' p' q')) 0 0 0 0 11 := hide fun w => area_ref2 r x p q r' x' p' q' w j1 j2 k1 k2 _ _ _ _ _ fun w => between_no r x r' x' p q p' q' w (by omega) (by omega) (by omega) (by omega) (by omega) (by omega) (by omega) (by omega) (by omega)
        have HY : AreaIs (two (refB r' x' p' q') (refB r x p q)) 0 0 0 0 11 := hide fun w => area_ref2 r' x' p' q' r x p q w k1 k2 j1 j2 _ _ _ _ _ fun w => between_no r' x' r x p' q' p q w (by omega) (by omega) (by omega) (by omega) (by omega) (by omega) (by omega) (by omega) g
        exact areas_big r x p q r' x' p' q' _ _ w (by omega) (by omega) (by omega) (by omega) (by omega) (by omega) (by omega) (by omega) (by omega) (by omega) (by omega) HB (yes r x p q j1 j2) (yes r' x' p' q' k1 k2) HX HY H1
end Go.Proofs.YtjhfjpofmkofhaaDoor
