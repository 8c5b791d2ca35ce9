/- The law AreaMeets, way by way. Proved of the Go text. -/
import Derived.Test.YtibogmlnbipbbaaAgree3
namespace Go.Proofs.Ytibogmlnbipbbaa
open Go.RowKit Go.Sort
set_option linter.unusedVariables false

set_option maxHeartbeats 2000000 in
set_option maxRecDepth 100000 in
theorem meets_n1f (t l b r t' l' b' r' x y : Int) (w : World) (HG : BegunIs) (HM : CallIs 13 #[areaV t l b r, areaV t' l' b' r'] (.tuple #[areaV 0 0 0 0, .bool false])) (HW : CallIs 13 #[areaV t' l' b' r', areaV t l b r] (.tuple #[areaV 0 0 0 0, .bool false])) (HA : CallIs 14 #[areaV t l b r, spotV x y] (.bool false)) (HC : CallIs 14 #[areaV 0 0 0 0, spotV x y] (.bool false)) :
    Calls Try.prog 5 #[areaV t l b r, areaV t' l' b' r', spotV x y] w fun e w' => e = .returned (.bool true) ∧ Below w.heap.size w w' := by
  go_enter Try.func5, Try.ntmps5
  try simp only [List.append]
  go_wp2_with fail
  refine (HG.out _).mono ?_
  rintro e w1 ⟨rfl, hb1⟩
  have B1 := hide (next (step (step (step (Below.refl w.heap.size w) _) _) _) hb1)
  have ca := hide ((((O4.new w (.int .i64 t) (.int .i64 l) (.int .i64 b) (.int .i64 r) 26).alloc _).alloc _).keep hb1)
  have cb := hide (((O4.new (w.alloc (areaO t l b r)) (.int .i64 t') (.int .i64 l') (.int .i64 b') (.int .i64 r') 26).alloc _).keep hb1)
  simp only [World.size_alloc] at cb
  have cs := hide ((O2.new ((w.alloc (areaO t l b r)).alloc (areaO t' l' b' r')) (.int .i64 x) (.int .i64 y) 28).keep hb1)
  simp only [World.size_alloc] at cs
  have ca00 := ca.out.1.1
  have ca01 := ca.out.1.2.1
  have ca02 := ca.out.1.2.2.1
  have ca03 := ca.out.1.2.2.2
  have cb00 := cb.out.1.1
  have cb01 := cb.out.1.2.1
  have cb02 := cb.out.1.2.2.1
  have cb03 := cb.out.1.2.2.2
  go_wp2_with fail
  refine (HM.out _).mono ?_
  rintro e w2 ⟨rfl, hb2⟩
  clear ca00
  clear ca01
  clear ca02
  clear ca03
  clear cb00
  clear cb01
  clear cb02
  clear cb03
  have B2 := hide (next (B1.out) hb2)
  replace ca := hide (ca.out.keep hb2)
  replace cb := hide (cb.out.keep hb2)
  replace cs := hide (cs.out.keep hb2)
  have ca10 := fun o0 => (ca.out.alloc o0).1.1
  have ca11 := fun o0 => (ca.out.alloc o0).1.2.1
  have ca12 := fun o0 => (ca.out.alloc o0).1.2.2.1
  have ca13 := fun o0 => (ca.out.alloc o0).1.2.2.2
  have cb10 := fun o0 => (cb.out.alloc o0).1.1
  have cb11 := fun o0 => (cb.out.alloc o0).1.2.1
  have cb12 := fun o0 => (cb.out.alloc o0).1.2.2.1
  have cb13 := fun o0 => (cb.out.alloc o0).1.2.2.2
  go_wp2_with fail
  refine (HW.out _).mono ?_
  rintro e w3 ⟨rfl, hb3⟩
  clear ca10
  clear ca11
  clear ca12
  clear ca13
  clear cb10
  clear cb11
  clear cb12
  clear cb13
  have B3 := hide (next (step (B2.out) _) hb3)
  replace ca := hide ((ca.out.alloc _).keep hb3)
  replace cb := hide ((cb.out.alloc _).keep hb3)
  replace cs := hide ((cs.out.alloc _).keep hb3)
  have cm := hide ((O4.new w2 (.int .i64 0) (.int .i64 0) (.int .i64 0) (.int .i64 0) 26).keep hb3)
  have ca10 := fun o0 => (ca.out.alloc o0).1.1
  have ca11 := fun o0 => (ca.out.alloc o0).1.2.1
  have ca12 := fun o0 => (ca.out.alloc o0).1.2.2.1
  have ca13 := fun o0 => (ca.out.alloc o0).1.2.2.2
  have cs10 := fun o0 => (cs.out.alloc o0).1.1
  have cs11 := fun o0 => (cs.out.alloc o0).1.2
  go_wp2_with fail
  refine (HA.out _).mono ?_
  rintro e w4 ⟨rfl, hb4⟩
  clear ca10
  clear ca11
  clear ca12
  clear ca13
  clear cs10
  clear cs11
  have B4 := hide (next (step (B3.out) _) hb4)
  replace ca := hide ((ca.out.alloc _).keep hb4)
  replace cb := hide ((cb.out.alloc _).keep hb4)
  replace cs := hide ((cs.out.alloc _).keep hb4)
  replace cm := hide ((cm.out.alloc _).keep hb4)
  have cw := hide ((O4.new w3 (.int .i64 0) (.int .i64 0) (.int .i64 0) (.int .i64 0) 26).keep hb4)
  have cm00 := cm.out.1.1
  have cm01 := cm.out.1.2.1
  have cm02 := cm.out.1.2.2.1
  have cm03 := cm.out.1.2.2.2
  have cw00 := cw.out.1.1
  have cw01 := cw.out.1.2.1
  have cw02 := cw.out.1.2.2.1
  have cw03 := cw.out.1.2.2.2
  have cs00 := cs.out.1.1
  have cs01 := cs.out.1.2
  go_wp2_with fail
  refine (HC.out _).mono ?_
  rintro e w5 ⟨rfl, hb5⟩
  clear cm00
  clear cm01
  clear cm02
  clear cm03
  clear cw00
  clear cw01
  clear cw02
  clear cw03
  clear cs00
  clear cs01
  have B5 := hide (next (B4.out) hb5)
  replace ca := hide (ca.out.keep hb5)
  replace cb := hide (cb.out.keep hb5)
  replace cs := hide (cs.out.keep hb5)
  replace cm := hide (cm.out.keep hb5)
  replace cw := hide (cw.out.keep hb5)
  have cm00 := cm.out.1.1
  have cm01 := cm.out.1.2.1
  have cm02 := cm.out.1.2.2.1
  have cm03 := cm.out.1.2.2.2
  go_wp2_with fail
  go_ret
  exact ⟨rfl, B5.out⟩
set_option maxHeartbeats 2000000 in
set_option maxRecDepth 100000 in
theorem meets_n1t (t l b r t' l' b' r' x y : Int) (w : World) (HG : BegunIs) (HM : CallIs 13 #[areaV t l b r, areaV t' l' b' r'] (.tuple #[areaV 0 0 0 0, .bool false])) (HW : CallIs 13 #[areaV t' l' b' r', areaV t l b r] (.tuple #[areaV 0 0 0 0, .bool false])) (HA : CallIs 14 #[areaV t l b r, spotV x y] (.bool false)) (HC : CallIs 14 #[areaV 0 0 0 0, spotV x y] (.bool true)) :
    Calls Try.prog 5 #[areaV t l b r, areaV t' l' b' r', spotV x y] w fun e w' => e = .returned (.bool true) ∧ Below w.heap.size w w' := by
  go_enter Try.func5, Try.ntmps5
  try simp only [List.append]
  go_wp2_with fail
  refine (HG.out _).mono ?_
  rintro e w1 ⟨rfl, hb1⟩
  have B1 := hide (next (step (step (step (Below.refl w.heap.size w) _) _) _) hb1)
  have ca := hide ((((O4.new w (.int .i64 t) (.int .i64 l) (.int .i64 b) (.int .i64 r) 26).alloc _).alloc _).keep hb1)
  have cb := hide (((O4.new (w.alloc (areaO t l b r)) (.int .i64 t') (.int .i64 l') (.int .i64 b') (.int .i64 r') 26).alloc _).keep hb1)
  simp only [World.size_alloc] at cb
  have cs := hide ((O2.new ((w.alloc (areaO t l b r)).alloc (areaO t' l' b' r')) (.int .i64 x) (.int .i64 y) 28).keep hb1)
  simp only [World.size_alloc] at cs
  have ca00 := ca.out.1.1
  have ca01 := ca.out.1.2.1
  have ca02 := ca.out.1.2.2.1
  have ca03 := ca.out.1.2.2.2
  have cb00 := cb.out.1.1
  have cb01 := cb.out.1.2.1
  have cb02 := cb.out.1.2.2.1
  have cb03 := cb.out.1.2.2.2
  go_wp2_with fail
  refine (HM.out _).mono ?_
  rintro e w2 ⟨rfl, hb2⟩
  clear ca00
  clear ca01
  clear ca02
  clear ca03
  clear cb00
  clear cb01
  clear cb02
  clear cb03
  have B2 := hide (next (B1.out) hb2)
  replace ca := hide (ca.out.keep hb2)
  replace cb := hide (cb.out.keep hb2)
  replace cs := hide (cs.out.keep hb2)
  have ca10 := fun o0 => (ca.out.alloc o0).1.1
  have ca11 := fun o0 => (ca.out.alloc o0).1.2.1
  have ca12 := fun o0 => (ca.out.alloc o0).1.2.2.1
  have ca13 := fun o0 => (ca.out.alloc o0).1.2.2.2
  have cb10 := fun o0 => (cb.out.alloc o0).1.1
  have cb11 := fun o0 => (cb.out.alloc o0).1.2.1
  have cb12 := fun o0 => (cb.out.alloc o0).1.2.2.1
  have cb13 := fun o0 => (cb.out.alloc o0).1.2.2.2
  go_wp2_with fail
  refine (HW.out _).mono ?_
  rintro e w3 ⟨rfl, hb3⟩
  clear ca10
  clear ca11
  clear ca12
  clear ca13
  clear cb10
  clear cb11
  clear cb12
  clear cb13
  have B3 := hide (next (step (B2.out) _) hb3)
  replace ca := hide ((ca.out.alloc _).keep hb3)
  replace cb := hide ((cb.out.alloc _).keep hb3)
  replace cs := hide ((cs.out.alloc _).keep hb3)
  have cm := hide ((O4.new w2 (.int .i64 0) (.int .i64 0) (.int .i64 0) (.int .i64 0) 26).keep hb3)
  have ca10 := fun o0 => (ca.out.alloc o0).1.1
  have ca11 := fun o0 => (ca.out.alloc o0).1.2.1
  have ca12 := fun o0 => (ca.out.alloc o0).1.2.2.1
  have ca13 := fun o0 => (ca.out.alloc o0).1.2.2.2
  have cs10 := fun o0 => (cs.out.alloc o0).1.1
  have cs11 := fun o0 => (cs.out.alloc o0).1.2
  go_wp2_with fail
  refine (HA.out _).mono ?_
  rintro e w4 ⟨rfl, hb4⟩
  clear ca10
  clear ca11
  clear ca12
  clear ca13
  clear cs10
  clear cs11
  have B4 := hide (next (step (B3.out) _) hb4)
  replace ca := hide ((ca.out.alloc _).keep hb4)
  replace cb := hide ((cb.out.alloc _).keep hb4)
  replace cs := hide ((cs.out.alloc _).keep hb4)
  replace cm := hide ((cm.out.alloc _).keep hb4)
  have cw := hide ((O4.new w3 (.int .i64 0) (.int .i64 0) (.int .i64 0) (.int .i64 0) 26).keep hb4)
  have cm00 := cm.out.1.1
  have cm01 := cm.out.1.2.1
  have cm02 := cm.out.1.2.2.1
  have cm03 := cm.out.1.2.2.2
  have cw00 := cw.out.1.1
  have cw01 := cw.out.1.2.1
  have cw02 := cw.out.1.2.2.1
  have cw03 := cw.out.1.2.2.2
  have cs00 := cs.out.1.1
  have cs01 := cs.out.1.2
  go_wp2_with fail
  refine (HC.out _).mono ?_
  rintro e w5 ⟨rfl, hb5⟩
  clear cm00
  clear cm01
  clear cm02
  clear cm03
  clear cw00
  clear cw01
  clear cw02
  clear cw03
  clear cs00
  clear cs01
  have B5 := hide (next (B4.out) hb5)
  replace ca := hide (ca.out.keep hb5)
  replace cb := hide (cb.out.keep hb5)
  replace cs := hide (cs.out.keep hb5)
  replace cm := hide (cm.out.keep hb5)
  replace cw := hide (cw.out.keep hb5)
  have cm00 := cm.out.1.1
  have cm01 := cm.out.1.2.1
  have cm02 := cm.out.1.2.2.1
  have cm03 := cm.out.1.2.2.2
  go_wp2_with fail
  go_ret
  exact ⟨rfl, B5.out⟩
set_option maxHeartbeats 2000000 in
set_option maxRecDepth 100000 in
theorem meets_n2f (t l b r t' l' b' r' x y : Int) (w : World) (HG : BegunIs) (HM : CallIs 13 #[areaV t l b r, areaV t' l' b' r'] (.tuple #[areaV 0 0 0 0, .bool false])) (HW : CallIs 13 #[areaV t' l' b' r', areaV t l b r] (.tuple #[areaV 0 0 0 0, .bool false])) (HA : CallIs 14 #[areaV t l b r, spotV x y] (.bool true)) (HB : CallIs 14 #[areaV t' l' b' r', spotV x y] (.bool false)) (HC : CallIs 14 #[areaV 0 0 0 0, spotV x y] (.bool false)) :
    Calls Try.prog 5 #[areaV t l b r, areaV t' l' b' r', spotV x y] w fun e w' => e = .returned (.bool true) ∧ Below w.heap.size w w' := by
  go_enter Try.func5, Try.ntmps5
  try simp only [List.append]
  go_wp2_with fail
  refine (HG.out _).mono ?_
  rintro e w1 ⟨rfl, hb1⟩
  have B1 := hide (next (step (step (step (Below.refl w.heap.size w) _) _) _) hb1)
  have ca := hide ((((O4.new w (.int .i64 t) (.int .i64 l) (.int .i64 b) (.int .i64 r) 26).alloc _).alloc _).keep hb1)
  have cb := hide (((O4.new (w.alloc (areaO t l b r)) (.int .i64 t') (.int .i64 l') (.int .i64 b') (.int .i64 r') 26).alloc _).keep hb1)
  simp only [World.size_alloc] at cb
  have cs := hide ((O2.new ((w.alloc (areaO t l b r)).alloc (areaO t' l' b' r')) (.int .i64 x) (.int .i64 y) 28).keep hb1)
  simp only [World.size_alloc] at cs
  have ca00 := ca.out.1.1
  have ca01 := ca.out.1.2.1
  have ca02 := ca.out.1.2.2.1
  have ca03 := ca.out.1.2.2.2
  have cb00 := cb.out.1.1
  have cb01 := cb.out.1.2.1
  have cb02 := cb.out.1.2.2.1
  have cb03 := cb.out.1.2.2.2
  go_wp2_with fail
  refine (HM.out _).mono ?_
  rintro e w2 ⟨rfl, hb2⟩
  clear ca00
  clear ca01
  clear ca02
  clear ca03
  clear cb00
  clear cb01
  clear cb02
  clear cb03
  have B2 := hide (next (B1.out) hb2)
  replace ca := hide (ca.out.keep hb2)
  replace cb := hide (cb.out.keep hb2)
  replace cs := hide (cs.out.keep hb2)
  have ca10 := fun o0 => (ca.out.alloc o0).1.1
  have ca11 := fun o0 => (ca.out.alloc o0).1.2.1
  have ca12 := fun o0 => (ca.out.alloc o0).1.2.2.1
  have ca13 := fun o0 => (ca.out.alloc o0).1.2.2.2
  have cb10 := fun o0 => (cb.out.alloc o0).1.1
  have cb11 := fun o0 => (cb.out.alloc o0).1.2.1
  have cb12 := fun o0 => (cb.out.alloc o0).1.2.2.1
  have cb13 := fun o0 => (cb.out.alloc o0).1.2.2.2
  go_wp2_with fail
  refine (HW.out _).mono ?_
  rintro e w3 ⟨rfl, hb3⟩
  clear ca10
  clear ca11
  clear ca12
  clear ca13
  clear cb10
  clear cb11
  clear cb12
  clear cb13
  have B3 := hide (next (step (B2.out) _) hb3)
  replace ca := hide ((ca.out.alloc _).keep hb3)
  replace cb := hide ((cb.out.alloc _).keep hb3)
  replace cs := hide ((cs.out.alloc _).keep hb3)
  have cm := hide ((O4.new w2 (.int .i64 0) (.int .i64 0) (.int .i64 0) (.int .i64 0) 26).keep hb3)
  have ca10 := fun o0 => (ca.out.alloc o0).1.1
  have ca11 := fun o0 => (ca.out.alloc o0).1.2.1
  have ca12 := fun o0 => (ca.out.alloc o0).1.2.2.1
  have ca13 := fun o0 => (ca.out.alloc o0).1.2.2.2
  have cs10 := fun o0 => (cs.out.alloc o0).1.1
  have cs11 := fun o0 => (cs.out.alloc o0).1.2
  go_wp2_with fail
  refine (HA.out _).mono ?_
  rintro e w4 ⟨rfl, hb4⟩
  clear ca10
  clear ca11
  clear ca12
  clear ca13
  clear cs10
  clear cs11
  have B4 := hide (next (step (B3.out) _) hb4)
  replace ca := hide ((ca.out.alloc _).keep hb4)
  replace cb := hide ((cb.out.alloc _).keep hb4)
  replace cs := hide ((cs.out.alloc _).keep hb4)
  replace cm := hide ((cm.out.alloc _).keep hb4)
  have cw := hide ((O4.new w3 (.int .i64 0) (.int .i64 0) (.int .i64 0) (.int .i64 0) 26).keep hb4)
  have cb00 := cb.out.1.1
  have cb01 := cb.out.1.2.1
  have cb02 := cb.out.1.2.2.1
  have cb03 := cb.out.1.2.2.2
  have cs00 := cs.out.1.1
  have cs01 := cs.out.1.2
  go_wp2_with fail
  refine (HB.out _).mono ?_
  rintro e w5 ⟨rfl, hb5⟩
  clear cb00
  clear cb01
  clear cb02
  clear cb03
  clear cs00
  clear cs01
  have B5 := hide (next (B4.out) hb5)
  replace ca := hide (ca.out.keep hb5)
  replace cb := hide (cb.out.keep hb5)
  replace cs := hide (cs.out.keep hb5)
  replace cm := hide (cm.out.keep hb5)
  replace cw := hide (cw.out.keep hb5)
  have cm00 := cm.out.1.1
  have cm01 := cm.out.1.2.1
  have cm02 := cm.out.1.2.2.1
  have cm03 := cm.out.1.2.2.2
  have cw00 := cw.out.1.1
  have cw01 := cw.out.1.2.1
  have cw02 := cw.out.1.2.2.1
  have cw03 := cw.out.1.2.2.2
  have cs00 := cs.out.1.1
  have cs01 := cs.out.1.2
  go_wp2_with fail
  refine (HC.out _).mono ?_
  rintro e w6 ⟨rfl, hb6⟩
  clear cm00
  clear cm01
  clear cm02
  clear cm03
  clear cw00
  clear cw01
  clear cw02
  clear cw03
  clear cs00
  clear cs01
  have B6 := hide (next (B5.out) hb6)
  replace ca := hide (ca.out.keep hb6)
  replace cb := hide (cb.out.keep hb6)
  replace cs := hide (cs.out.keep hb6)
  replace cm := hide (cm.out.keep hb6)
  replace cw := hide (cw.out.keep hb6)
  have cm00 := cm.out.1.1
  have cm01 := cm.out.1.2.1
  have cm02 := cm.out.1.2.2.1
  have cm03 := cm.out.1.2.2.2
  go_wp2_with fail
  go_ret
  exact ⟨rfl, B6.out⟩
set_option maxHeartbeats 2000000 in
set_option maxRecDepth 100000 in
theorem meets_n2t (t l b r t' l' b' r' x y : Int) (w : World) (HG : BegunIs) (HM : CallIs 13 #[areaV t l b r, areaV t' l' b' r'] (.tuple #[areaV 0 0 0 0, .bool false])) (HW : CallIs 13 #[areaV t' l' b' r', areaV t l b r] (.tuple #[areaV 0 0 0 0, .bool false])) (HA : CallIs 14 #[areaV t l b r, spotV x y] (.bool true)) (HB : CallIs 14 #[areaV t' l' b' r', spotV x y] (.bool false)) (HC : CallIs 14 #[areaV 0 0 0 0, spotV x y] (.bool true)) :
    Calls Try.prog 5 #[areaV t l b r, areaV t' l' b' r', spotV x y] w fun e w' => e = .returned (.bool true) ∧ Below w.heap.size w w' := by
  go_enter Try.func5, Try.ntmps5
  try simp only [List.append]
  go_wp2_with fail
  refine (HG.out _).mono ?_
  rintro e w1 ⟨rfl, hb1⟩
  have B1 := hide (next (step (step (step (Below.refl w.heap.size w) _) _) _) hb1)
  have ca := hide ((((O4.new w (.int .i64 t) (.int .i64 l) (.int .i64 b) (.int .i64 r) 26).alloc _).alloc _).keep hb1)
  have cb := hide (((O4.new (w.alloc (areaO t l b r)) (.int .i64 t') (.int .i64 l') (.int .i64 b') (.int .i64 r') 26).alloc _).keep hb1)
  simp only [World.size_alloc] at cb
  have cs := hide ((O2.new ((w.alloc (areaO t l b r)).alloc (areaO t' l' b' r')) (.int .i64 x) (.int .i64 y) 28).keep hb1)
  simp only [World.size_alloc] at cs
  have ca00 := ca.out.1.1
  have ca01 := ca.out.1.2.1
  have ca02 := ca.out.1.2.2.1
  have ca03 := ca.out.1.2.2.2
  have cb00 := cb.out.1.1
  have cb01 := cb.out.1.2.1
  have cb02 := cb.out.1.2.2.1
  have cb03 := cb.out.1.2.2.2
  go_wp2_with fail
  refine (HM.out _).mono ?_
  rintro e w2 ⟨rfl, hb2⟩
  clear ca00
  clear ca01
  clear ca02
  clear ca03
  clear cb00
  clear cb01
  clear cb02
  clear cb03
  have B2 := hide (next (B1.out) hb2)
  replace ca := hide (ca.out.keep hb2)
  replace cb := hide (cb.out.keep hb2)
  replace cs := hide (cs.out.keep hb2)
  have ca10 := fun o0 => (ca.out.alloc o0).1.1
  have ca11 := fun o0 => (ca.out.alloc o0).1.2.1
  have ca12 := fun o0 => (ca.out.alloc o0).1.2.2.1
  have ca13 := fun o0 => (ca.out.alloc o0).1.2.2.2
  have cb10 := fun o0 => (cb.out.alloc o0).1.1
  have cb11 := fun o0 => (cb.out.alloc o0).1.2.1
  have cb12 := fun o0 => (cb.out.alloc o0).1.2.2.1
  have cb13 := fun o0 => (cb.out.alloc o0).1.2.2.2
  go_wp2_with fail
  refine (HW.out _).mono ?_
  rintro e w3 ⟨rfl, hb3⟩
  clear ca10
  clear ca11
  clear ca12
  clear ca13
  clear cb10
  clear cb11
  clear cb12
  clear cb13
  have B3 := hide (next (step (B2.out) _) hb3)
  replace ca := hide ((ca.out.alloc _).keep hb3)
  replace cb := hide ((cb.out.alloc _).keep hb3)
  replace cs := hide ((cs.out.alloc _).keep hb3)
  have cm := hide ((O4.new w2 (.int .i64 0) (.int .i64 0) (.int .i64 0) (.int .i64 0) 26).keep hb3)
  have ca10 := fun o0 => (ca.out.alloc o0).1.1
  have ca11 := fun o0 => (ca.out.alloc o0).1.2.1
  have ca12 := fun o0 => (ca.out.alloc o0).1.2.2.1
  have ca13 := fun o0 => (ca.out.alloc o0).1.2.2.2
  have cs10 := fun o0 => (cs.out.alloc o0).1.1
  have cs11 := fun o0 => (cs.out.alloc o0).1.2
  go_wp2_with fail
  refine (HA.out _).mono ?_
  rintro e w4 ⟨rfl, hb4⟩
  clear ca10
  clear ca11
  clear ca12
  clear ca13
  clear cs10
  clear cs11
  have B4 := hide (next (step (B3.out) _) hb4)
  replace ca := hide ((ca.out.alloc _).keep hb4)
  replace cb := hide ((cb.out.alloc _).keep hb4)
  replace cs := hide ((cs.out.alloc _).keep hb4)
  replace cm := hide ((cm.out.alloc _).keep hb4)
  have cw := hide ((O4.new w3 (.int .i64 0) (.int .i64 0) (.int .i64 0) (.int .i64 0) 26).keep hb4)
  have cb00 := cb.out.1.1
  have cb01 := cb.out.1.2.1
  have cb02 := cb.out.1.2.2.1
  have cb03 := cb.out.1.2.2.2
  have cs00 := cs.out.1.1
  have cs01 := cs.out.1.2
  go_wp2_with fail
  refine (HB.out _).mono ?_
  rintro e w5 ⟨rfl, hb5⟩
  clear cb00
  clear cb01
  clear cb02
  clear cb03
  clear cs00
  clear cs01
  have B5 := hide (next (B4.out) hb5)
  replace ca := hide (ca.out.keep hb5)
  replace cb := hide (cb.out.keep hb5)
  replace cs := hide (cs.out.keep hb5)
  replace cm := hide (cm.out.keep hb5)
  replace cw := hide (cw.out.keep hb5)
  have cm00 := cm.out.1.1
  have cm01 := cm.out.1.2.1
  have cm02 := cm.out.1.2.2.1
  have cm03 := cm.out.1.2.2.2
  have cw00 := cw.out.1.1
  have cw01 := cw.out.1.2.1
  have cw02 := cw.out.1.2.2.1
  have cw03 := cw.out.1.2.2.2
  have cs00 := cs.out.1.1
  have cs01 := cs.out.1.2
  go_wp2_with fail
  refine (HC.out _).mono ?_
  rintro e w6 ⟨rfl, hb6⟩
  clear cm00
  clear cm01
  clear cm02
  clear cm03
  clear cw00
  clear cw01
  clear cw02
  clear cw03
  clear cs00
  clear cs01
  have B6 := hide (next (B5.out) hb6)
  replace ca := hide (ca.out.keep hb6)
  replace cb := hide (cb.out.keep hb6)
  replace cs := hide (cs.out.keep hb6)
  replace cm := hide (cm.out.keep hb6)
  replace cw := hide (cw.out.keep hb6)
  have cm00 := cm.out.1.1
  have cm01 := cm.out.1.2.1
  have cm02 := cm.out.1.2.2.1
  have cm03 := cm.out.1.2.2.2
  go_wp2_with fail
  go_ret
  exact ⟨rfl, B6.out⟩
end Go.Proofs.Ytibogmlnbipbbaa
