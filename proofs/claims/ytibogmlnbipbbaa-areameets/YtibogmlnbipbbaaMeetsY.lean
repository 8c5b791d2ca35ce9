/- The law AreaMeets, way by way. Proved of the Go text. -/
import Derived.Test.YtibogmlnbipbbaaAgree3
namespace Go.Proofs.Ytibogmlnbipbbaa
open Go.RowKit Go.Sort
set_option linter.unusedVariables false

set_option maxHeartbeats 2000000 in
set_option maxRecDepth 100000 in
theorem meets_y1 (t l b r t' l' b' r' m0 m1 m2 m3 x y : Int) (w : World) (HG : BegunIs) (HM : CallIs 13 #[areaV t l b r, areaV t' l' b' r'] (.tuple #[areaV m0 m1 m2 m3, .bool true])) (HW : CallIs 13 #[areaV t' l' b' r', areaV t l b r] (.tuple #[areaV m0 m1 m2 m3, .bool true])) (HA : CallIs 14 #[areaV t l b r, spotV x y] (.bool false)) (HC : CallIs 14 #[areaV m0 m1 m2 m3, spotV x y] (.bool false)) (HD : MayIs m0 m1 m2 m3 0) (H1 : CallIs 14 #[areaV t l b r, spotV m0 m1] (.bool true)) (H2 : CallIs 14 #[areaV t' l' b' r', spotV m0 m1] (.bool true)) (H3 : CallIs 14 #[areaV t l b r, spotV m2 m3] (.bool true)) (H4 : CallIs 14 #[areaV t' l' b' r', spotV m2 m3] (.bool true)) :
    Calls Try.prog 5 #[areaV t l b r, areaV t' l' b' r', spotV x y] w fun e w' => e = .returned (.bool true) ∧ Below w.heap.size w w' := by
  go_enter Try.func5, Try.ntmps5
  try simp only [List.append]
  go_wp2_with fail
  refine (HG.out _).mono ?_
  rintro e w1 ⟨rfl, hb1⟩
  have B1 := hide (next (step (step (step (Below.refl w.heap.size w) _) _) _) hb1)
  have ca := hide ((((O4.new w (.int .i64 t) (.int .i64 l) (.int .i64 b) (.int .i64 r) 26).alloc _).alloc _).keep hb1)
  have cb := hide (((O4.new (w.alloc (areaO t l b r)) (.int .i64 t') (.int .i64 l') (.int .i64 b') (.int .i64 r') 26).alloc _).keep hb1)
  simp only [World.size_alloc] at cb
  have cs := hide ((O2.new ((w.alloc (areaO t l b r)).alloc (areaO t' l' b' r')) (.int .i64 x) (.int .i64 y) 28).keep hb1)
  simp only [World.size_alloc] at cs
  have ca00 := ca.out.1.1
  have ca01 := ca.out.1.2.1
  have ca02 := ca.out.1.2.2.1
  have ca03 := ca.out.1.2.2.2
  have cb00 := cb.out.1.1
  have cb01 := cb.out.1.2.1
  have cb02 := cb.out.1.2.2.1
  have cb03 := cb.out.1.2.2.2
  go_wp2_with fail
  refine (HM.out _).mono ?_
  rintro e w2 ⟨rfl, hb2⟩
  clear ca00
  clear ca01
  clear ca02
  clear ca03
  clear cb00
  clear cb01
  clear cb02
  clear cb03
  have B2 := hide (next (B1.out) hb2)
  replace ca := hide (ca.out.keep hb2)
  replace cb := hide (cb.out.keep hb2)
  replace cs := hide (cs.out.keep hb2)
  have ca10 := fun o0 => (ca.out.alloc o0).1.1
  have ca11 := fun o0 => (ca.out.alloc o0).1.2.1
  have ca12 := fun o0 => (ca.out.alloc o0).1.2.2.1
  have ca13 := fun o0 => (ca.out.alloc o0).1.2.2.2
  have cb10 := fun o0 => (cb.out.alloc o0).1.1
  have cb11 := fun o0 => (cb.out.alloc o0).1.2.1
  have cb12 := fun o0 => (cb.out.alloc o0).1.2.2.1
  have cb13 := fun o0 => (cb.out.alloc o0).1.2.2.2
  go_wp2_with fail
  refine (HW.out _).mono ?_
  rintro e w3 ⟨rfl, hb3⟩
  clear ca10
  clear ca11
  clear ca12
  clear ca13
  clear cb10
  clear cb11
  clear cb12
  clear cb13
  have B3 := hide (next (step (B2.out) _) hb3)
  replace ca := hide ((ca.out.alloc _).keep hb3)
  replace cb := hide ((cb.out.alloc _).keep hb3)
  replace cs := hide ((cs.out.alloc _).keep hb3)
  have cm := hide ((O4.new w2 (.int .i64 m0) (.int .i64 m1) (.int .i64 m2) (.int .i64 m3) 26).keep hb3)
  have ca10 := fun o0 => (ca.out.alloc o0).1.1
  have ca11 := fun o0 => (ca.out.alloc o0).1.2.1
  have ca12 := fun o0 => (ca.out.alloc o0).1.2.2.1
  have ca13 := fun o0 => (ca.out.alloc o0).1.2.2.2
  have cs10 := fun o0 => (cs.out.alloc o0).1.1
  have cs11 := fun o0 => (cs.out.alloc o0).1.2
  go_wp2_with fail
  refine (HA.out _).mono ?_
  rintro e w4 ⟨rfl, hb4⟩
  clear ca10
  clear ca11
  clear ca12
  clear ca13
  clear cs10
  clear cs11
  have B4 := hide (next (step (B3.out) _) hb4)
  replace ca := hide ((ca.out.alloc _).keep hb4)
  replace cb := hide ((cb.out.alloc _).keep hb4)
  replace cs := hide ((cs.out.alloc _).keep hb4)
  replace cm := hide ((cm.out.alloc _).keep hb4)
  have cw := hide ((O4.new w3 (.int .i64 m0) (.int .i64 m1) (.int .i64 m2) (.int .i64 m3) 26).keep hb4)
  have cm00 := cm.out.1.1
  have cm01 := cm.out.1.2.1
  have cm02 := cm.out.1.2.2.1
  have cm03 := cm.out.1.2.2.2
  have cw00 := cw.out.1.1
  have cw01 := cw.out.1.2.1
  have cw02 := cw.out.1.2.2.1
  have cw03 := cw.out.1.2.2.2
  have cs00 := cs.out.1.1
  have cs01 := cs.out.1.2
  go_wp2_with fail
  refine (HC.out _).mono ?_
  rintro e w5 ⟨rfl, hb5⟩
  clear cm00
  clear cm01
  clear cm02
  clear cm03
  clear cw00
  clear cw01
  clear cw02
  clear cw03
  clear cs00
  clear cs01
  have B5 := hide (next (B4.out) hb5)
  replace ca := hide (ca.out.keep hb5)
  replace cb := hide (cb.out.keep hb5)
  replace cs := hide (cs.out.keep hb5)
  replace cm := hide (cm.out.keep hb5)
  replace cw := hide (cw.out.keep hb5)
  have cm00 := cm.out.1.1
  have cm01 := cm.out.1.2.1
  have cm02 := cm.out.1.2.2.1
  have cm03 := cm.out.1.2.2.2
  go_wp2_with fail
  refine (HD.out _).mono ?_
  rintro e w6 ⟨rfl, hb6⟩
  clear cm00
  clear cm01
  clear cm02
  clear cm03
  have B6 := hide (next (B5.out) hb6)
  replace ca := hide (ca.out.keep hb6)
  replace cb := hide (cb.out.keep hb6)
  replace cs := hide (cs.out.keep hb6)
  replace cm := hide (cm.out.keep hb6)
  replace cw := hide (cw.out.keep hb6)
  have ca00 := ca.out.1.1
  have ca01 := ca.out.1.2.1
  have ca02 := ca.out.1.2.2.1
  have ca03 := ca.out.1.2.2.2
  have cm00 := cm.out.1.1
  have cm01 := cm.out.1.2.1
  have cm02 := cm.out.1.2.2.1
  have cm03 := cm.out.1.2.2.2
  go_wp2_with fail
  refine (H1.out _).mono ?_
  rintro e w7 ⟨rfl, hb7⟩
  clear ca00
  clear ca01
  clear ca02
  clear ca03
  clear cm00
  clear cm01
  clear cm02
  clear cm03
  have B7 := hide (next (B6.out) hb7)
  replace ca := hide (ca.out.keep hb7)
  replace cb := hide (cb.out.keep hb7)
  replace cs := hide (cs.out.keep hb7)
  replace cm := hide (cm.out.keep hb7)
  replace cw := hide (cw.out.keep hb7)
  have cb00 := cb.out.1.1
  have cb01 := cb.out.1.2.1
  have cb02 := cb.out.1.2.2.1
  have cb03 := cb.out.1.2.2.2
  have cm00 := cm.out.1.1
  have cm01 := cm.out.1.2.1
  have cm02 := cm.out.1.2.2.1
  have cm03 := cm.out.1.2.2.2
  go_wp2_with fail
  refine (H2.out _).mono ?_
  rintro e w8 ⟨rfl, hb8⟩
  clear cb00
  clear cb01
  clear cb02
  clear cb03
  clear cm00
  clear cm01
  clear cm02
  clear cm03
  have B8 := hide (next (B7.out) hb8)
  replace ca := hide (ca.out.keep hb8)
  replace cb := hide (cb.out.keep hb8)
  replace cs := hide (cs.out.keep hb8)
  replace cm := hide (cm.out.keep hb8)
  replace cw := hide (cw.out.keep hb8)
  have ca00 := ca.out.1.1
  have ca01 := ca.out.1.2.1
  have ca02 := ca.out.1.2.2.1
  have ca03 := ca.out.1.2.2.2
  have cm00 := cm.out.1.1
  have cm01 := cm.out.1.2.1
  have cm02 := cm.out.1.2.2.1
  have cm03 := cm.out.1.2.2.2
  go_wp2_with fail
  refine (H3.out _).mono ?_
  rintro e w9 ⟨rfl, hb9⟩
  clear ca00
  clear ca01
  clear ca02
  clear ca03
  clear cm00
  clear cm01
  clear cm02
  clear cm03
  have B9 := hide (next (B8.out) hb9)
  replace ca := hide (ca.out.keep hb9)
  replace cb := hide (cb.out.keep hb9)
  replace cs := hide (cs.out.keep hb9)
  replace cm := hide (cm.out.keep hb9)
  replace cw := hide (cw.out.keep hb9)
  have cb00 := cb.out.1.1
  have cb01 := cb.out.1.2.1
  have cb02 := cb.out.1.2.2.1
  have cb03 := cb.out.1.2.2.2
  have cm00 := cm.out.1.1
  have cm01 := cm.out.1.2.1
  have cm02 := cm.out.1.2.2.1
  have cm03 := cm.out.1.2.2.2
  go_wp2_with fail
  refine (H4.out _).mono ?_
  rintro e w10 ⟨rfl, hb10⟩
  clear cb00
  clear cb01
  clear cb02
  clear cb03
  clear cm00
  clear cm01
  clear cm02
  clear cm03
  have B10 := hide (next (B9.out) hb10)
  replace ca := hide (ca.out.keep hb10)
  replace cb := hide (cb.out.keep hb10)
  replace cs := hide (cs.out.keep hb10)
  replace cm := hide (cm.out.keep hb10)
  replace cw := hide (cw.out.keep hb10)
  go_wp2_with fail
  go_ret
  exact ⟨rfl, B10.out⟩
set_option maxHeartbeats 2000000 in
set_option maxRecDepth 100000 in
theorem meets_y2 (t l b r t' l' b' r' m0 m1 m2 m3 x y : Int) (w : World) (HG : BegunIs) (HM : CallIs 13 #[areaV t l b r, areaV t' l' b' r'] (.tuple #[areaV m0 m1 m2 m3, .bool true])) (HW : CallIs 13 #[areaV t' l' b' r', areaV t l b r] (.tuple #[areaV m0 m1 m2 m3, .bool true])) (HA : CallIs 14 #[areaV t l b r, spotV x y] (.bool true)) (HB : CallIs 14 #[areaV t' l' b' r', spotV x y] (.bool false)) (HC : CallIs 14 #[areaV m0 m1 m2 m3, spotV x y] (.bool false)) (HD : MayIs m0 m1 m2 m3 0) (H1 : CallIs 14 #[areaV t l b r, spotV m0 m1] (.bool true)) (H2 : CallIs 14 #[areaV t' l' b' r', spotV m0 m1] (.bool true)) (H3 : CallIs 14 #[areaV t l b r, spotV m2 m3] (.bool true)) (H4 : CallIs 14 #[areaV t' l' b' r', spotV m2 m3] (.bool true)) :
    Calls Try.prog 5 #[areaV t l b r, areaV t' l' b' r', spotV x y] w fun e w' => e = .returned (.bool true) ∧ Below w.heap.size w w' := by
  go_enter Try.func5, Try.ntmps5
  try simp only [List.append]
  go_wp2_with fail
  refine (HG.out _).mono ?_
  rintro e w1 ⟨rfl, hb1⟩
  have B1 := hide (next (step (step (step (Below.refl w.heap.size w) _) _) _) hb1)
  have ca := hide ((((O4.new w (.int .i64 t) (.int .i64 l) (.int .i64 b) (.int .i64 r) 26).alloc _).alloc _).keep hb1)
  have cb := hide (((O4.new (w.alloc (areaO t l b r)) (.int .i64 t') (.int .i64 l') (.int .i64 b') (.int .i64 r') 26).alloc _).keep hb1)
  simp only [World.size_alloc] at cb
  have cs := hide ((O2.new ((w.alloc (areaO t l b r)).alloc (areaO t' l' b' r')) (.int .i64 x) (.int .i64 y) 28).keep hb1)
  simp only [World.size_alloc] at cs
  have ca00 := ca.out.1.1
  have ca01 := ca.out.1.2.1
  have ca02 := ca.out.1.2.2.1
  have ca03 := ca.out.1.2.2.2
  have cb00 := cb.out.1.1
  have cb01 := cb.out.1.2.1
  have cb02 := cb.out.1.2.2.1
  have cb03 := cb.out.1.2.2.2
  go_wp2_with fail
  refine (HM.out _).mono ?_
  rintro e w2 ⟨rfl, hb2⟩
  clear ca00
  clear ca01
  clear ca02
  clear ca03
  clear cb00
  clear cb01
  clear cb02
  clear cb03
  have B2 := hide (next (B1.out) hb2)
  replace ca := hide (ca.out.keep hb2)
  replace cb := hide (cb.out.keep hb2)
  replace cs := hide (cs.out.keep hb2)
  have ca10 := fun o0 => (ca.out.alloc o0).1.1
  have ca11 := fun o0 => (ca.out.alloc o0).1.2.1
  have ca12 := fun o0 => (ca.out.alloc o0).1.2.2.1
  have ca13 := fun o0 => (ca.out.alloc o0).1.2.2.2
  have cb10 := fun o0 => (cb.out.alloc o0).1.1
  have cb11 := fun o0 => (cb.out.alloc o0).1.2.1
  have cb12 := fun o0 => (cb.out.alloc o0).1.2.2.1
  have cb13 := fun o0 => (cb.out.alloc o0).1.2.2.2
  go_wp2_with fail
  refine (HW.out _).mono ?_
  rintro e w3 ⟨rfl, hb3⟩
  clear ca10
  clear ca11
  clear ca12
  clear ca13
  clear cb10
  clear cb11
  clear cb12
  clear cb13
  have B3 := hide (next (step (B2.out) _) hb3)
  replace ca := hide ((ca.out.alloc _).keep hb3)
  replace cb := hide ((cb.out.alloc _).keep hb3)
  replace cs := hide ((cs.out.alloc _).keep hb3)
  have cm := hide ((O4.new w2 (.int .i64 m0) (.int .i64 m1) (.int .i64 m2) (.int .i64 m3) 26).keep hb3)
  have ca10 := fun o0 => (ca.out.alloc o0).1.1
  have ca11 := fun o0 => (ca.out.alloc o0).1.2.1
  have ca12 := fun o0 => (ca.out.alloc o0).1.2.2.1
  have ca13 := fun o0 => (ca.out.alloc o0).1.2.2.2
  have cs10 := fun o0 => (cs.out.alloc o0).1.1
  have cs11 := fun o0 => (cs.out.alloc o0).1.2
  go_wp2_with fail
  refine (HA.out _).mono ?_
  rintro e w4 ⟨rfl, hb4⟩
  clear ca10
  clear ca11
  clear ca12
  clear ca13
  clear cs10
  clear cs11
  have B4 := hide (next (step (B3.out) _) hb4)
  replace ca := hide ((ca.out.alloc _).keep hb4)
  replace cb := hide ((cb.out.alloc _).keep hb4)
  replace cs := hide ((cs.out.alloc _).keep hb4)
  replace cm := hide ((cm.out.alloc _).keep hb4)
  have cw := hide ((O4.new w3 (.int .i64 m0) (.int .i64 m1) (.int .i64 m2) (.int .i64 m3) 26).keep hb4)
  have cb00 := cb.out.1.1
  have cb01 := cb.out.1.2.1
  have cb02 := cb.out.1.2.2.1
  have cb03 := cb.out.1.2.2.2
  have cs00 := cs.out.1.1
  have cs01 := cs.out.1.2
  go_wp2_with fail
  refine (HB.out _).mono ?_
  rintro e w5 ⟨rfl, hb5⟩
  clear cb00
  clear cb01
  clear cb02
  clear cb03
  clear cs00
  clear cs01
  have B5 := hide (next (B4.out) hb5)
  replace ca := hide (ca.out.keep hb5)
  replace cb := hide (cb.out.keep hb5)
  replace cs := hide (cs.out.keep hb5)
  replace cm := hide (cm.out.keep hb5)
  replace cw := hide (cw.out.keep hb5)
  have cm00 := cm.out.1.1
  have cm01 := cm.out.1.2.1
  have cm02 := cm.out.1.2.2.1
  have cm03 := cm.out.1.2.2.2
  have cw00 := cw.out.1.1
  have cw01 := cw.out.1.2.1
  have cw02 := cw.out.1.2.2.1
  have cw03 := cw.out.1.2.2.2
  have cs00 := cs.out.1.1
  have cs01 := cs.out.1.2
  go_wp2_with fail
  refine (HC.out _).mono ?_
  rintro e w6 ⟨rfl, hb6⟩
  clear cm00
  clear cm01
  clear cm02
  clear cm03
  clear cw00
  clear cw01
  clear cw02
  clear cw03
  clear cs00
  clear cs01
  have B6 := hide (next (B5.out) hb6)
  replace ca := hide (ca.out.keep hb6)
  replace cb := hide (cb.out.keep hb6)
  replace cs := hide (cs.out.keep hb6)
  replace cm := hide (cm.out.keep hb6)
  replace cw := hide (cw.out.keep hb6)
  have cm00 := cm.out.1.1
  have cm01 := cm.out.1.2.1
  have cm02 := cm.out.1.2.2.1
  have cm03 := cm.out.1.2.2.2
  go_wp2_with fail
  refine (HD.out _).mono ?_
  rintro e w7 ⟨rfl, hb7⟩
  clear cm00
  clear cm01
  clear cm02
  clear cm03
  have B7 := hide (next (B6.out) hb7)
  replace ca := hide (ca.out.keep hb7)
  replace cb := hide (cb.out.keep hb7)
  replace cs := hide (cs.out.keep hb7)
  replace cm := hide (cm.out.keep hb7)
  replace cw := hide (cw.out.keep hb7)
  have ca00 := ca.out.1.1
  have ca01 := ca.out.1.2.1
  have ca02 := ca.out.1.2.2.1
  have ca03 := ca.out.1.2.2.2
  have cm00 := cm.out.1.1
  have cm01 := cm.out.1.2.1
  have cm02 := cm.out.1.2.2.1
  have cm03 := cm.out.1.2.2.2
  go_wp2_with fail
  refine (H1.out _).mono ?_
  rintro e w8 ⟨rfl, hb8⟩
  clear ca00
  clear ca01
  clear ca02
  clear ca03
  clear cm00
  clear cm01
  clear cm02
  clear cm03
  have B8 := hide (next (B7.out) hb8)
  replace ca := hide (ca.out.keep hb8)
  replace cb := hide (cb.out.keep hb8)
  replace cs := hide (cs.out.keep hb8)
  replace cm := hide (cm.out.keep hb8)
  replace cw := hide (cw.out.keep hb8)
  have cb00 := cb.out.1.1
  have cb01 := cb.out.1.2.1
  have cb02 := cb.out.1.2.2.1
  have cb03 := cb.out.1.2.2.2
  have cm00 := cm.out.1.1
  have cm01 := cm.out.1.2.1
  have cm02 := cm.out.1.2.2.1
  have cm03 := cm.out.1.2.2.2
  go_wp2_with fail
  refine (H2.out _).mono ?_
  rintro e w9 ⟨rfl, hb9⟩
  clear cb00
  clear cb01
  clear cb02
  clear cb03
  clear cm00
  clear cm01
  clear cm02
  clear cm03
  have B9 := hide (next (B8.out) hb9)
  replace ca := hide (ca.out.keep hb9)
  replace cb := hide (cb.out.keep hb9)
  replace cs := hide (cs.out.keep hb9)
  replace cm := hide (cm.out.keep hb9)
  replace cw := hide (cw.out.keep hb9)
  have ca00 := ca.out.1.1
  have ca01 := ca.out.1.2.1
  have ca02 := ca.out.1.2.2.1
  have ca03 := ca.out.1.2.2.2
  have cm00 := cm.out.1.1
  have cm01 := cm.out.1.2.1
  have cm02 := cm.out.1.2.2.1
  have cm03 := cm.out.1.2.2.2
  go_wp2_with fail
  refine (H3.out _).mono ?_
  rintro e w10 ⟨rfl, hb10⟩
  clear ca00
  clear ca01
  clear ca02
  clear ca03
  clear cm00
  clear cm01
  clear cm02
  clear cm03
  have B10 := hide (next (B9.out) hb10)
  replace ca := hide (ca.out.keep hb10)
  replace cb := hide (cb.out.keep hb10)
  replace cs := hide (cs.out.keep hb10)
  replace cm := hide (cm.out.keep hb10)
  replace cw := hide (cw.out.keep hb10)
  have cb00 := cb.out.1.1
  have cb01 := cb.out.1.2.1
  have cb02 := cb.out.1.2.2.1
  have cb03 := cb.out.1.2.2.2
  have cm00 := cm.out.1.1
  have cm01 := cm.out.1.2.1
  have cm02 := cm.out.1.2.2.1
  have cm03 := cm.out.1.2.2.2
  go_wp2_with fail
  refine (H4.out _).mono ?_
  rintro e w11 ⟨rfl, hb11⟩
  clear cb00
  clear cb01
  clear cb02
  clear cb03
  clear cm00
  clear cm01
  clear cm02
  clear cm03
  have B11 := hide (next (B10.out) hb11)
  replace ca := hide (ca.out.keep hb11)
  replace cb := hide (cb.out.keep hb11)
  replace cs := hide (cs.out.keep hb11)
  replace cm := hide (cm.out.keep hb11)
  replace cw := hide (cw.out.keep hb11)
  go_wp2_with fail
  go_ret
  exact ⟨rfl, B11.out⟩
set_option maxHeartbeats 2000000 in
set_option maxRecDepth 100000 in
theorem meets_y3 (t l b r t' l' b' r' m0 m1 m2 m3 x y : Int) (w : World) (HG : BegunIs) (HM : CallIs 13 #[areaV t l b r, areaV t' l' b' r'] (.tuple #[areaV m0 m1 m2 m3, .bool true])) (HW : CallIs 13 #[areaV t' l' b' r', areaV t l b r] (.tuple #[areaV m0 m1 m2 m3, .bool true])) (HA : CallIs 14 #[areaV t l b r, spotV x y] (.bool true)) (HB : CallIs 14 #[areaV t' l' b' r', spotV x y] (.bool true)) (HC : CallIs 14 #[areaV m0 m1 m2 m3, spotV x y] (.bool true)) (HD : MayIs m0 m1 m2 m3 0) (H1 : CallIs 14 #[areaV t l b r, spotV m0 m1] (.bool true)) (H2 : CallIs 14 #[areaV t' l' b' r', spotV m0 m1] (.bool true)) (H3 : CallIs 14 #[areaV t l b r, spotV m2 m3] (.bool true)) (H4 : CallIs 14 #[areaV t' l' b' r', spotV m2 m3] (.bool true)) :
    Calls Try.prog 5 #[areaV t l b r, areaV t' l' b' r', spotV x y] w fun e w' => e = .returned (.bool true) ∧ Below w.heap.size w w' := by
  go_enter Try.func5, Try.ntmps5
  try simp only [List.append]
  go_wp2_with fail
  refine (HG.out _).mono ?_
  rintro e w1 ⟨rfl, hb1⟩
  have B1 := hide (next (step (step (step (Below.refl w.heap.size w) _) _) _) hb1)
  have ca := hide ((((O4.new w (.int .i64 t) (.int .i64 l) (.int .i64 b) (.int .i64 r) 26).alloc _).alloc _).keep hb1)
  have cb := hide (((O4.new (w.alloc (areaO t l b r)) (.int .i64 t') (.int .i64 l') (.int .i64 b') (.int .i64 r') 26).alloc _).keep hb1)
  simp only [World.size_alloc] at cb
  have cs := hide ((O2.new ((w.alloc (areaO t l b r)).alloc (areaO t' l' b' r')) (.int .i64 x) (.int .i64 y) 28).keep hb1)
  simp only [World.size_alloc] at cs
  have ca00 := ca.out.1.1
  have ca01 := ca.out.1.2.1
  have ca02 := ca.out.1.2.2.1
  have ca03 := ca.out.1.2.2.2
  have cb00 := cb.out.1.1
  have cb01 := cb.out.1.2.1
  have cb02 := cb.out.1.2.2.1
  have cb03 := cb.out.1.2.2.2
  go_wp2_with fail
  refine (HM.out _).mono ?_
  rintro e w2 ⟨rfl, hb2⟩
  clear ca00
  clear ca01
  clear ca02
  clear ca03
  clear cb00
  clear cb01
  clear cb02
  clear cb03
  have B2 := hide (next (B1.out) hb2)
  replace ca := hide (ca.out.keep hb2)
  replace cb := hide (cb.out.keep hb2)
  replace cs := hide (cs.out.keep hb2)
  have ca10 := fun o0 => (ca.out.alloc o0).1.1
  have ca11 := fun o0 => (ca.out.alloc o0).1.2.1
  have ca12 := fun o0 => (ca.out.alloc o0).1.2.2.1
  have ca13 := fun o0 => (ca.out.alloc o0).1.2.2.2
  have cb10 := fun o0 => (cb.out.alloc o0).1.1
  have cb11 := fun o0 => (cb.out.alloc o0).1.2.1
  have cb12 := fun o0 => (cb.out.alloc o0).1.2.2.1
  have cb13 := fun o0 => (cb.out.alloc o0).1.2.2.2
  go_wp2_with fail
  refine (HW.out _).mono ?_
  rintro e w3 ⟨rfl, hb3⟩
  clear ca10
  clear ca11
  clear ca12
  clear ca13
  clear cb10
  clear cb11
  clear cb12
  clear cb13
  have B3 := hide (next (step (B2.out) _) hb3)
  replace ca := hide ((ca.out.alloc _).keep hb3)
  replace cb := hide ((cb.out.alloc _).keep hb3)
  replace cs := hide ((cs.out.alloc _).keep hb3)
  have cm := hide ((O4.new w2 (.int .i64 m0) (.int .i64 m1) (.int .i64 m2) (.int .i64 m3) 26).keep hb3)
  have ca10 := fun o0 => (ca.out.alloc o0).1.1
  have ca11 := fun o0 => (ca.out.alloc o0).1.2.1
  have ca12 := fun o0 => (ca.out.alloc o0).1.2.2.1
  have ca13 := fun o0 => (ca.out.alloc o0).1.2.2.2
  have cs10 := fun o0 => (cs.out.alloc o0).1.1
  have cs11 := fun o0 => (cs.out.alloc o0).1.2
  go_wp2_with fail
  refine (HA.out _).mono ?_
  rintro e w4 ⟨rfl, hb4⟩
  clear ca10
  clear ca11
  clear ca12
  clear ca13
  clear cs10
  clear cs11
  have B4 := hide (next (step (B3.out) _) hb4)
  replace ca := hide ((ca.out.alloc _).keep hb4)
  replace cb := hide ((cb.out.alloc _).keep hb4)
  replace cs := hide ((cs.out.alloc _).keep hb4)
  replace cm := hide ((cm.out.alloc _).keep hb4)
  have cw := hide ((O4.new w3 (.int .i64 m0) (.int .i64 m1) (.int .i64 m2) (.int .i64 m3) 26).keep hb4)
  have cb00 := cb.out.1.1
  have cb01 := cb.out.1.2.1
  have cb02 := cb.out.1.2.2.1
  have cb03 := cb.out.1.2.2.2
  have cs00 := cs.out.1.1
  have cs01 := cs.out.1.2
  go_wp2_with fail
  refine (HB.out _).mono ?_
  rintro e w5 ⟨rfl, hb5⟩
  clear cb00
  clear cb01
  clear cb02
  clear cb03
  clear cs00
  clear cs01
  have B5 := hide (next (B4.out) hb5)
  replace ca := hide (ca.out.keep hb5)
  replace cb := hide (cb.out.keep hb5)
  replace cs := hide (cs.out.keep hb5)
  replace cm := hide (cm.out.keep hb5)
  replace cw := hide (cw.out.keep hb5)
  have cm00 := cm.out.1.1
  have cm01 := cm.out.1.2.1
  have cm02 := cm.out.1.2.2.1
  have cm03 := cm.out.1.2.2.2
  have cw00 := cw.out.1.1
  have cw01 := cw.out.1.2.1
  have cw02 := cw.out.1.2.2.1
  have cw03 := cw.out.1.2.2.2
  have cs00 := cs.out.1.1
  have cs01 := cs.out.1.2
  go_wp2_with fail
  refine (HC.out _).mono ?_
  rintro e w6 ⟨rfl, hb6⟩
  clear cm00
  clear cm01
  clear cm02
  clear cm03
  clear cw00
  clear cw01
  clear cw02
  clear cw03
  clear cs00
  clear cs01
  have B6 := hide (next (B5.out) hb6)
  replace ca := hide (ca.out.keep hb6)
  replace cb := hide (cb.out.keep hb6)
  replace cs := hide (cs.out.keep hb6)
  replace cm := hide (cm.out.keep hb6)
  replace cw := hide (cw.out.keep hb6)
  have cm00 := cm.out.1.1
  have cm01 := cm.out.1.2.1
  have cm02 := cm.out.1.2.2.1
  have cm03 := cm.out.1.2.2.2
  go_wp2_with fail
  refine (HD.out _).mono ?_
  rintro e w7 ⟨rfl, hb7⟩
  clear cm00
  clear cm01
  clear cm02
  clear cm03
  have B7 := hide (next (B6.out) hb7)
  replace ca := hide (ca.out.keep hb7)
  replace cb := hide (cb.out.keep hb7)
  replace cs := hide (cs.out.keep hb7)
  replace cm := hide (cm.out.keep hb7)
  replace cw := hide (cw.out.keep hb7)
  have ca00 := ca.out.1.1
  have ca01 := ca.out.1.2.1
  have ca02 := ca.out.1.2.2.1
  have ca03 := ca.out.1.2.2.2
  have cm00 := cm.out.1.1
  have cm01 := cm.out.1.2.1
  have cm02 := cm.out.1.2.2.1
  have cm03 := cm.out.1.2.2.2
  go_wp2_with fail
  refine (H1.out _).mono ?_
  rintro e w8 ⟨rfl, hb8⟩
  clear ca00
  clear ca01
  clear ca02
  clear ca03
  clear cm00
  clear cm01
  clear cm02
  clear cm03
  have B8 := hide (next (B7.out) hb8)
  replace ca := hide (ca.out.keep hb8)
  replace cb := hide (cb.out.keep hb8)
  replace cs := hide (cs.out.keep hb8)
  replace cm := hide (cm.out.keep hb8)
  replace cw := hide (cw.out.keep hb8)
  have cb00 := cb.out.1.1
  have cb01 := cb.out.1.2.1
  have cb02 := cb.out.1.2.2.1
  have cb03 := cb.out.1.2.2.2
  have cm00 := cm.out.1.1
  have cm01 := cm.out.1.2.1
  have cm02 := cm.out.1.2.2.1
  have cm03 := cm.out.1.2.2.2
  go_wp2_with fail
  refine (H2.out _).mono ?_
  rintro e w9 ⟨rfl, hb9⟩
  clear cb00
  clear cb01
  clear cb02
  clear cb03
  clear cm00
  clear cm01
  clear cm02
  clear cm03
  have B9 := hide (next (B8.out) hb9)
  replace ca := hide (ca.out.keep hb9)
  replace cb := hide (cb.out.keep hb9)
  replace cs := hide (cs.out.keep hb9)
  replace cm := hide (cm.out.keep hb9)
  replace cw := hide (cw.out.keep hb9)
  have ca00 := ca.out.1.1
  have ca01 := ca.out.1.2.1
  have ca02 := ca.out.1.2.2.1
  have ca03 := ca.out.1.2.2.2
  have cm00 := cm.out.1.1
  have cm01 := cm.out.1.2.1
  have cm02 := cm.out.1.2.2.1
  have cm03 := cm.out.1.2.2.2
  go_wp2_with fail
  refine (H3.out _).mono ?_
  rintro e w10 ⟨rfl, hb10⟩
  clear ca00
  clear ca01
  clear ca02
  clear ca03
  clear cm00
  clear cm01
  clear cm02
  clear cm03
  have B10 := hide (next (B9.out) hb10)
  replace ca := hide (ca.out.keep hb10)
  replace cb := hide (cb.out.keep hb10)
  replace cs := hide (cs.out.keep hb10)
  replace cm := hide (cm.out.keep hb10)
  replace cw := hide (cw.out.keep hb10)
  have cb00 := cb.out.1.1
  have cb01 := cb.out.1.2.1
  have cb02 := cb.out.1.2.2.1
  have cb03 := cb.out.1.2.2.2
  have cm00 := cm.out.1.1
  have cm01 := cm.out.1.2.1
  have cm02 := cm.out.1.2.2.1
  have cm03 := cm.out.1.2.2.2
  go_wp2_with fail
  refine (H4.out _).mono ?_
  rintro e w11 ⟨rfl, hb11⟩
  clear cb00
  clear cb01
  clear cb02
  clear cb03
  clear cm00
  clear cm01
  clear cm02
  clear cm03
  have B11 := hide (next (B10.out) hb11)
  replace ca := hide (ca.out.keep hb11)
  replace cb := hide (cb.out.keep hb11)
  replace cs := hide (cs.out.keep hb11)
  replace cm := hide (cm.out.keep hb11)
  replace cw := hide (cw.out.keep hb11)
  go_wp2_with fail
  go_ret
  exact ⟨rfl, B11.out⟩
end Go.Proofs.Ytibogmlnbipbbaa
