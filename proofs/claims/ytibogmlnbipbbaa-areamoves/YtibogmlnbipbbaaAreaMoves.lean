/- The law AreaMoves returns true for every area and every two numbers of 32 bits, and changes nothing that was there. -/
import Derived.Test.YtibogmlnbipbbaaAgree3
namespace Go.Proofs.Ytibogmlnbipbbaa
open Go.RowKit Go.Sort
set_option linter.unusedVariables false

set_option maxHeartbeats 2000000 in
set_option maxRecDepth 100000 in
theorem moves_1 (t l b r dr dc : Int) (w : World) (d1 : -2147483648 ≤ dr) (d2 : dr ≤ 2147483647) (d3 : -2147483648 ≤ dc) (d4 : dc ≤ 2147483647) (HG : BegunIs) (HV : CallIs 16 #[areaV t l b r, .int .i64 dr, .int .i64 dc] (.tuple #[areaV 0 0 0 0, .int .i64 11])) (HA : MayIs t l b r 11) :
    Calls Try.prog 6 #[areaV t l b r, .int .i32 dr, .int .i32 dc] w fun e w' => e = .returned (.bool true) ∧ Below w.heap.size w w' := by
  go_enter Try.func6, Try.ntmps6
  try simp only [List.append]
  go_wp2_with fail
  refine (HG.out _).mono ?_
  rintro e w1 ⟨rfl, hb1⟩
  have B1 := hide (next (step (Below.refl w.heap.size w) _) hb1)
  have ca := hide ((O4.new w (.int .i64 t) (.int .i64 l) (.int .i64 b) (.int .i64 r) 26).keep hb1)
  have ca00 := ca.out.1.1
  have ca01 := ca.out.1.2.1
  have ca02 := ca.out.1.2.2.1
  have ca03 := ca.out.1.2.2.2
  go_wp2_with fail
  refine (HV.out _).mono ?_
  rintro e w2 ⟨rfl, hb2⟩
  clear ca00
  clear ca01
  clear ca02
  clear ca03
  have B2 := hide (next (B1.out) hb2)
  replace ca := hide (ca.out.keep hb2)
  have ca10 := fun o0 => (ca.out.alloc o0).1.1
  have ca11 := fun o0 => (ca.out.alloc o0).1.2.1
  have ca12 := fun o0 => (ca.out.alloc o0).1.2.2.1
  have ca13 := fun o0 => (ca.out.alloc o0).1.2.2.2
  go_wp2_with fail
  refine (HA.out _).mono ?_
  rintro e w3 ⟨rfl, hb3⟩
  clear ca10
  clear ca11
  clear ca12
  clear ca13
  have B3 := hide (next (step (B2.out) _) hb3)
  replace ca := hide ((ca.out.alloc _).keep hb3)
  have cm := hide ((O4.new w2 (.int .i64 0) (.int .i64 0) (.int .i64 0) (.int .i64 0) 26).keep hb3)
  have cm00 := cm.out.1.1
  have cm01 := cm.out.1.2.1
  have cm02 := cm.out.1.2.2.1
  have cm03 := cm.out.1.2.2.2
  go_wp2_with fail
  go_ret
  exact ⟨rfl, B3.out⟩
set_option maxHeartbeats 2000000 in
set_option maxRecDepth 100000 in
theorem moves_2 (t l b r dr dc : Int) (w : World) (d1 : -2147483648 ≤ dr) (d2 : dr ≤ 2147483647) (d3 : -2147483648 ≤ dc) (d4 : dc ≤ 2147483647) (HG : BegunIs) (ho : 0 ≤ t ∧ t ≤ b ∧ b < 65536 ∧ 0 ≤ l ∧ l ≤ r ∧ r < 702) (HV : CallIs 16 #[areaV t l b r, .int .i64 dr, .int .i64 dc] (.tuple #[areaV 0 0 0 0, .int .i64 10])) (HA : MayIs t l b r 0) (HW : MayIs (t + dr) (l + dc) (b + dr) (r + dc) 11) :
    Calls Try.prog 6 #[areaV t l b r, .int .i32 dr, .int .i32 dc] w fun e w' => e = .returned (.bool true) ∧ Below w.heap.size w w' := by
  obtain ⟨o1, o2, o3, o4, o5, o6⟩ := ho
  go_enter Try.func6, Try.ntmps6
  try simp only [List.append]
  go_wp2_with fail
  refine (HG.out _).mono ?_
  rintro e w1 ⟨rfl, hb1⟩
  have B1 := hide (next (step (Below.refl w.heap.size w) _) hb1)
  have ca := hide ((O4.new w (.int .i64 t) (.int .i64 l) (.int .i64 b) (.int .i64 r) 26).keep hb1)
  have ca00 := ca.out.1.1
  have ca01 := ca.out.1.2.1
  have ca02 := ca.out.1.2.2.1
  have ca03 := ca.out.1.2.2.2
  go_wp2_with fail
  refine (HV.out _).mono ?_
  rintro e w2 ⟨rfl, hb2⟩
  clear ca00
  clear ca01
  clear ca02
  clear ca03
  have B2 := hide (next (B1.out) hb2)
  replace ca := hide (ca.out.keep hb2)
  have ca10 := fun o0 => (ca.out.alloc o0).1.1
  have ca11 := fun o0 => (ca.out.alloc o0).1.2.1
  have ca12 := fun o0 => (ca.out.alloc o0).1.2.2.1
  have ca13 := fun o0 => (ca.out.alloc o0).1.2.2.2
  go_wp2_with fail
  refine (HA.out _).mono ?_
  rintro e w3 ⟨rfl, hb3⟩
  clear ca10
  clear ca11
  clear ca12
  clear ca13
  have B3 := hide (next (step (B2.out) _) hb3)
  replace ca := hide ((ca.out.alloc _).keep hb3)
  have cm := hide ((O4.new w2 (.int .i64 0) (.int .i64 0) (.int .i64 0) (.int .i64 0) 26).keep hb3)
  have ca00 := ca.out.1.1
  have ca01 := ca.out.1.2.1
  have ca02 := ca.out.1.2.2.1
  have ca03 := ca.out.1.2.2.2
  go_wp2_with fail
  refine (HW.out _).mono ?_
  rintro e w4 ⟨rfl, hb4⟩
  clear ca00
  clear ca01
  clear ca02
  clear ca03
  have B4 := hide (next (step (B3.out) _) hb4)
  replace ca := hide ((ca.out.alloc _).keep hb4)
  replace cm := hide ((cm.out.alloc _).keep hb4)
  have cw := hide ((O4.new w3 (.int .i64 (t + dr)) (.int .i64 (l + dc)) (.int .i64 (b + dr)) (.int .i64 (r + dc)) 26).keep hb4)
  have cm00 := cm.out.1.1
  have cm01 := cm.out.1.2.1
  have cm02 := cm.out.1.2.2.1
  have cm03 := cm.out.1.2.2.2
  go_wp2_with fail
  go_ret
  exact ⟨rfl, B4.out⟩
set_option maxHeartbeats 2000000 in
set_option maxRecDepth 100000 in
theorem moves_3 (t l b r dr dc : Int) (w : World) (d1 : -2147483648 ≤ dr) (d2 : dr ≤ 2147483647) (d3 : -2147483648 ≤ dc) (d4 : dc ≤ 2147483647) (HG : BegunIs) (ho : 0 ≤ t ∧ t ≤ b ∧ b < 65536 ∧ 0 ≤ l ∧ l ≤ r ∧ r < 702) (HV : CallIs 16 #[areaV t l b r, .int .i64 dr, .int .i64 dc] (.tuple #[areaV (t + dr) (l + dc) (b + dr) (r + dc), .int .i64 0])) (HA : MayIs t l b r 0) (HW : MayIs (t + dr) (l + dc) (b + dr) (r + dc) 0) (HX : CallIs 16 #[areaV (t + dr) (l + dc) (b + dr) (r + dc), .int .i64 (-dr), .int .i64 (-dc)] (.tuple #[areaV t l b r, .int .i64 0])) :
    Calls Try.prog 6 #[areaV t l b r, .int .i32 dr, .int .i32 dc] w fun e w' => e = .returned (.bool true) ∧ Below w.heap.size w w' := by
  obtain ⟨o1, o2, o3, o4, o5, o6⟩ := ho
  go_enter Try.func6, Try.ntmps6
  try simp only [List.append]
  go_wp2_with fail
  refine (HG.out _).mono ?_
  rintro e w1 ⟨rfl, hb1⟩
  have B1 := hide (next (step (Below.refl w.heap.size w) _) hb1)
  have ca := hide ((O4.new w (.int .i64 t) (.int .i64 l) (.int .i64 b) (.int .i64 r) 26).keep hb1)
  have ca00 := ca.out.1.1
  have ca01 := ca.out.1.2.1
  have ca02 := ca.out.1.2.2.1
  have ca03 := ca.out.1.2.2.2
  go_wp2_with fail
  refine (HV.out _).mono ?_
  rintro e w2 ⟨rfl, hb2⟩
  clear ca00
  clear ca01
  clear ca02
  clear ca03
  have B2 := hide (next (B1.out) hb2)
  replace ca := hide (ca.out.keep hb2)
  have ca10 := fun o0 => (ca.out.alloc o0).1.1
  have ca11 := fun o0 => (ca.out.alloc o0).1.2.1
  have ca12 := fun o0 => (ca.out.alloc o0).1.2.2.1
  have ca13 := fun o0 => (ca.out.alloc o0).1.2.2.2
  go_wp2_with fail
  refine (HA.out _).mono ?_
  rintro e w3 ⟨rfl, hb3⟩
  clear ca10
  clear ca11
  clear ca12
  clear ca13
  have B3 := hide (next (step (B2.out) _) hb3)
  replace ca := hide ((ca.out.alloc _).keep hb3)
  have cm := hide ((O4.new w2 (.int .i64 (t + dr)) (.int .i64 (l + dc)) (.int .i64 (b + dr)) (.int .i64 (r + dc)) 26).keep hb3)
  have ca00 := ca.out.1.1
  have ca01 := ca.out.1.2.1
  have ca02 := ca.out.1.2.2.1
  have ca03 := ca.out.1.2.2.2
  go_wp2_with fail
  refine (HW.out _).mono ?_
  rintro e w4 ⟨rfl, hb4⟩
  clear ca00
  clear ca01
  clear ca02
  clear ca03
  have B4 := hide (next (step (B3.out) _) hb4)
  replace ca := hide ((ca.out.alloc _).keep hb4)
  replace cm := hide ((cm.out.alloc _).keep hb4)
  have cw := hide ((O4.new w3 (.int .i64 (t + dr)) (.int .i64 (l + dc)) (.int .i64 (b + dr)) (.int .i64 (r + dc)) 26).keep hb4)
  have cm00 := cm.out.1.1
  have cm01 := cm.out.1.2.1
  have cm02 := cm.out.1.2.2.1
  have cm03 := cm.out.1.2.2.2
  go_wp2_with fail
  refine (HX.out _).mono ?_
  rintro e w5 ⟨rfl, hb5⟩
  clear cm00
  clear cm01
  clear cm02
  clear cm03
  have B5 := hide (next (B4.out) hb5)
  replace ca := hide (ca.out.keep hb5)
  replace cm := hide (cm.out.keep hb5)
  replace cw := hide (cw.out.keep hb5)
  have cm10 := fun o0 => (cm.out.alloc o0).1.1
  have cm11 := fun o0 => (cm.out.alloc o0).1.2.1
  have cm12 := fun o0 => (cm.out.alloc o0).1.2.2.1
  have cm13 := fun o0 => (cm.out.alloc o0).1.2.2.2
  have cw10 := fun o0 => (cw.out.alloc o0).1.1
  have cw11 := fun o0 => (cw.out.alloc o0).1.2.1
  have cw12 := fun o0 => (cw.out.alloc o0).1.2.2.1
  have cw13 := fun o0 => (cw.out.alloc o0).1.2.2.2
  have ca10 := fun o0 => (ca.out.alloc o0).1.1
  have ca11 := fun o0 => (ca.out.alloc o0).1.2.1
  have ca12 := fun o0 => (ca.out.alloc o0).1.2.2.1
  have ca13 := fun o0 => (ca.out.alloc o0).1.2.2.2
  go_wp2_with fail
  go_ret
  exact ⟨rfl, step (B5.out) _⟩
theorem areaMoves_walk (t l b r dr dc : Int) (w : World) (d1 : -2147483648 ≤ dr) (d2 : dr ≤ 2147483647) (d3 : -2147483648 ≤ dc) (d4 : dc ≤ 2147483647) :
    Calls Try.prog 6 #[areaV t l b r, .int .i32 dr, .int .i32 dc] w fun e w' => e = .returned (.bool true) ∧ Below w.heap.size w w' := by
  by_cases h : 0 ≤ t ∧ t ≤ b ∧ b < 65536 ∧ 0 ≤ l ∧ l ≤ r ∧ r < 702
  · by_cases hs : stays t l b r dr dc
    · have hs' := hs
      unfold stays at hs'
      refine moves_3 t l b r dr dc w d1 d2 d3 d4 begunIs h (amove_yes t l b r dr dc h hs) (mayIs_ok h) (mayIs_ok (by omega)) ?_
      have := amove_yes (t + dr) (l + dc) (b + dr) (r + dc) (-dr) (-dc) (by omega) (by unfold stays; omega)
      rwa [show t + dr + -dr = t by omega, show l + dc + -dc = l by omega, show b + dr + -dr = b by omega, show r + dc + -dc = r by omega] at this
    · have hs' := hs
      unfold stays at hs'
      exact moves_2 t l b r dr dc w d1 d2 d3 d4 begunIs h (amove_off t l b r dr dc h hs) (mayIs_ok h) (mayIs_no (by omega))
  · exact moves_1 t l b r dr dc w d1 d2 d3 d4 begunIs (amove_bad t l b r dr dc h) (mayIs_no h)
end Go.Proofs.Ytibogmlnbipbbaa
