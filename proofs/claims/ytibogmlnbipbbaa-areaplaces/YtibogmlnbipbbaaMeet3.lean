/- What area.Meet and the reference's Meet answer, way by way. Proved of the Go text. -/
import Derived.Test.YtibogmlnbipbbaaMay3
namespace Go.Proofs.Ytibogmlnbipbbaa
open Go.RowKit Go.Sort
set_option linter.unusedVariables false

set_option maxHeartbeats 1000000 in
set_option maxRecDepth 100000 in
theorem ameet_1 (t l b r t' l' b' r' : Int) (w : World) (HA : MayIs t l b r 11) :
    Calls Try.prog 13 #[areaV t l b r, areaV t' l' b' r'] w fun e w' => e = .returned (.tuple #[areaV 0 0 0 0, .bool false]) ∧ Below w.heap.size w w' := by
  go_enter Try.func13, Try.ntmps13
  try simp only [List.append]
  go_wp2_with fail
  refine (HA.out _).mono ?_
  rintro e w1 ⟨rfl, hb1⟩
  have B1 := hide (next (step (step (step (Below.refl w.heap.size w) _) _) _) hb1)
  have ca := hide ((((O4.new w (.int .i64 t) (.int .i64 l) (.int .i64 b) (.int .i64 r) 26).alloc _).alloc _).keep hb1)
  have cb := hide (((O4.new (w.alloc (areaO t l b r)) (.int .i64 t') (.int .i64 l') (.int .i64 b') (.int .i64 r') 26).alloc _).keep hb1)
  simp only [World.size_alloc] at cb
  have ro := hide ((O4.new ((w.alloc (areaO t l b r)).alloc (areaO t' l' b' r')) (.int .i64 0) (.int .i64 0) (.int .i64 0) (.int .i64 0) 26).keep hb1)
  simp only [World.size_alloc] at ro
  have ro00 := ro.out.1.1
  have ro01 := ro.out.1.2.1
  have ro02 := ro.out.1.2.2.1
  have ro03 := ro.out.1.2.2.2
  have ro0f := ro.out.2
  go_wp2_with fail
  refine bodyPost_ret (by simp [results, Try.results13, go_sem, ro00, ro01, ro02, ro03]; try rfl) rfl ?_
  refine ⟨rfl, ?_⟩
  have zB := B1.out.size
  go_grown
  all_goals first | exact B1.out | omega
set_option maxHeartbeats 1000000 in
set_option maxRecDepth 100000 in
theorem ameet_2 (t l b r t' l' b' r' : Int) (w : World) (HA : MayIs t l b r 0) (HB : MayIs t' l' b' r' 11) :
    Calls Try.prog 13 #[areaV t l b r, areaV t' l' b' r'] w fun e w' => e = .returned (.tuple #[areaV 0 0 0 0, .bool false]) ∧ Below w.heap.size w w' := by
  go_enter Try.func13, Try.ntmps13
  try simp only [List.append]
  go_wp2_with fail
  refine (HA.out _).mono ?_
  rintro e w1 ⟨rfl, hb1⟩
  have B1 := hide (next (step (step (step (Below.refl w.heap.size w) _) _) _) hb1)
  have ca := hide ((((O4.new w (.int .i64 t) (.int .i64 l) (.int .i64 b) (.int .i64 r) 26).alloc _).alloc _).keep hb1)
  have cb := hide (((O4.new (w.alloc (areaO t l b r)) (.int .i64 t') (.int .i64 l') (.int .i64 b') (.int .i64 r') 26).alloc _).keep hb1)
  simp only [World.size_alloc] at cb
  have ro := hide ((O4.new ((w.alloc (areaO t l b r)).alloc (areaO t' l' b' r')) (.int .i64 0) (.int .i64 0) (.int .i64 0) (.int .i64 0) 26).keep hb1)
  simp only [World.size_alloc] at ro
  have cb00 := cb.out.1.1
  have cb01 := cb.out.1.2.1
  have cb02 := cb.out.1.2.2.1
  have cb03 := cb.out.1.2.2.2
  go_wp2_with fail
  refine (HB.out _).mono ?_
  rintro e w2 ⟨rfl, hb2⟩
  clear cb00
  clear cb01
  clear cb02
  clear cb03
  have B2 := hide (next (B1.out) hb2)
  replace ca := hide (ca.out.keep hb2)
  replace cb := hide (cb.out.keep hb2)
  replace ro := hide (ro.out.keep hb2)
  have ro00 := ro.out.1.1
  have ro01 := ro.out.1.2.1
  have ro02 := ro.out.1.2.2.1
  have ro03 := ro.out.1.2.2.2
  have ro0f := ro.out.2
  go_wp2_with fail
  refine bodyPost_ret (by simp [results, Try.results13, go_sem, ro00, ro01, ro02, ro03]; try rfl) rfl ?_
  refine ⟨rfl, ?_⟩
  have zB := B2.out.size
  go_grown
  all_goals first | exact B2.out | omega
set_option maxHeartbeats 1000000 in
set_option maxRecDepth 100000 in
theorem ameet_3 (t l b r t' l' b' r' : Int) (w : World) (HA : MayIs t l b r 0) (HB : MayIs t' l' b' r' 0) (HC : MayIs (max t t') (max l l') (min b b') (min r r') 11) :
    Calls Try.prog 13 #[areaV t l b r, areaV t' l' b' r'] w fun e w' => e = .returned (.tuple #[areaV 0 0 0 0, .bool false]) ∧ Below w.heap.size w w' := by
  go_enter Try.func13, Try.ntmps13
  try simp only [List.append]
  go_wp2_with fail
  refine (HA.out _).mono ?_
  rintro e w1 ⟨rfl, hb1⟩
  have B1 := hide (next (step (step (step (Below.refl w.heap.size w) _) _) _) hb1)
  have ca := hide ((((O4.new w (.int .i64 t) (.int .i64 l) (.int .i64 b) (.int .i64 r) 26).alloc _).alloc _).keep hb1)
  have cb := hide (((O4.new (w.alloc (areaO t l b r)) (.int .i64 t') (.int .i64 l') (.int .i64 b') (.int .i64 r') 26).alloc _).keep hb1)
  simp only [World.size_alloc] at cb
  have ro := hide ((O4.new ((w.alloc (areaO t l b r)).alloc (areaO t' l' b' r')) (.int .i64 0) (.int .i64 0) (.int .i64 0) (.int .i64 0) 26).keep hb1)
  simp only [World.size_alloc] at ro
  have cb00 := cb.out.1.1
  have cb01 := cb.out.1.2.1
  have cb02 := cb.out.1.2.2.1
  have cb03 := cb.out.1.2.2.2
  go_wp2_with fail
  refine (HB.out _).mono ?_
  rintro e w2 ⟨rfl, hb2⟩
  clear cb00
  clear cb01
  clear cb02
  clear cb03
  have B2 := hide (next (B1.out) hb2)
  replace ca := hide (ca.out.keep hb2)
  replace cb := hide (cb.out.keep hb2)
  replace ro := hide (ro.out.keep hb2)
  have ca00 := ca.out.1.1
  have ca01 := ca.out.1.2.1
  have ca02 := ca.out.1.2.2.1
  have ca03 := ca.out.1.2.2.2
  have cb00 := cb.out.1.1
  have cb01 := cb.out.1.2.1
  have cb02 := cb.out.1.2.2.1
  have cb03 := cb.out.1.2.2.2
  have hmn := ite_min
  have hmx := ite_max
  go_wp2_with fail
  clear hmn hmx
  refine (HC.out _).mono ?_
  rintro e w3 ⟨rfl, hb3⟩
  clear ca00
  clear ca01
  clear ca02
  clear ca03
  clear cb00
  clear cb01
  clear cb02
  clear cb03
  have B3 := hide (next (step (B2.out) _) hb3)
  replace ca := hide ((ca.out.alloc _).keep hb3)
  replace cb := hide ((cb.out.alloc _).keep hb3)
  replace ro := hide ((ro.out.alloc _).keep hb3)
  have cc := hide ((O4.new w2 (.int .i64 (max t t')) (.int .i64 (max l l')) (.int .i64 (min b b')) (.int .i64 (min r r')) 26).keep hb3)
  have ro00 := ro.out.1.1
  have ro01 := ro.out.1.2.1
  have ro02 := ro.out.1.2.2.1
  have ro03 := ro.out.1.2.2.2
  have ro0f := ro.out.2
  go_wp2_with fail
  refine bodyPost_ret (by simp [results, Try.results13, go_sem, ro00, ro01, ro02, ro03]; try rfl) rfl ?_
  refine ⟨rfl, ?_⟩
  have zB := B3.out.size
  go_grown
  all_goals first | exact B3.out | omega
set_option maxHeartbeats 1000000 in
set_option maxRecDepth 100000 in
theorem ameet_4 (t l b r t' l' b' r' : Int) (w : World) (HA : MayIs t l b r 0) (HB : MayIs t' l' b' r' 0) (HC : MayIs (max t t') (max l l') (min b b') (min r r') 0) :
    Calls Try.prog 13 #[areaV t l b r, areaV t' l' b' r'] w fun e w' => e = .returned (.tuple #[areaV (max t t') (max l l') (min b b') (min r r'), .bool true]) ∧ Below w.heap.size w w' := by
  go_enter Try.func13, Try.ntmps13
  try simp only [List.append]
  go_wp2_with fail
  refine (HA.out _).mono ?_
  rintro e w1 ⟨rfl, hb1⟩
  have B1 := hide (next (step (step (step (Below.refl w.heap.size w) _) _) _) hb1)
  have ca := hide ((((O4.new w (.int .i64 t) (.int .i64 l) (.int .i64 b) (.int .i64 r) 26).alloc _).alloc _).keep hb1)
  have cb := hide (((O4.new (w.alloc (areaO t l b r)) (.int .i64 t') (.int .i64 l') (.int .i64 b') (.int .i64 r') 26).alloc _).keep hb1)
  simp only [World.size_alloc] at cb
  have ro := hide ((O4.new ((w.alloc (areaO t l b r)).alloc (areaO t' l' b' r')) (.int .i64 0) (.int .i64 0) (.int .i64 0) (.int .i64 0) 26).keep hb1)
  simp only [World.size_alloc] at ro
  have cb00 := cb.out.1.1
  have cb01 := cb.out.1.2.1
  have cb02 := cb.out.1.2.2.1
  have cb03 := cb.out.1.2.2.2
  go_wp2_with fail
  refine (HB.out _).mono ?_
  rintro e w2 ⟨rfl, hb2⟩
  clear cb00
  clear cb01
  clear cb02
  clear cb03
  have B2 := hide (next (B1.out) hb2)
  replace ca := hide (ca.out.keep hb2)
  replace cb := hide (cb.out.keep hb2)
  replace ro := hide (ro.out.keep hb2)
  have ca00 := ca.out.1.1
  have ca01 := ca.out.1.2.1
  have ca02 := ca.out.1.2.2.1
  have ca03 := ca.out.1.2.2.2
  have cb00 := cb.out.1.1
  have cb01 := cb.out.1.2.1
  have cb02 := cb.out.1.2.2.1
  have cb03 := cb.out.1.2.2.2
  have hmn := ite_min
  have hmx := ite_max
  go_wp2_with fail
  clear hmn hmx
  refine (HC.out _).mono ?_
  rintro e w3 ⟨rfl, hb3⟩
  clear ca00
  clear ca01
  clear ca02
  clear ca03
  clear cb00
  clear cb01
  clear cb02
  clear cb03
  have B3 := hide (next (step (B2.out) _) hb3)
  replace ca := hide ((ca.out.alloc _).keep hb3)
  replace cb := hide ((cb.out.alloc _).keep hb3)
  replace ro := hide ((ro.out.alloc _).keep hb3)
  have cc := hide ((O4.new w2 (.int .i64 (max t t')) (.int .i64 (max l l')) (.int .i64 (min b b')) (.int .i64 (min r r')) 26).keep hb3)
  have ro00 := ro.out.1.1
  have ro01 := ro.out.1.2.1
  have ro02 := ro.out.1.2.2.1
  have ro03 := ro.out.1.2.2.2
  have ro0f := ro.out.2
  have cc00 := cc.out.1.1
  have cc01 := cc.out.1.2.1
  have cc02 := cc.out.1.2.2.1
  have cc03 := cc.out.1.2.2.2
  go_wp2_with fail
  refine bodyPost_ret (by simp [results, Try.results13, go_sem, ro00, ro01, ro02, ro03]; try rfl) rfl ?_
  refine ⟨rfl, ?_⟩
  have zB := B3.out.size
  go_grown
  all_goals first | exact B3.out | omega
set_option maxHeartbeats 1000000 in
set_option maxRecDepth 100000 in
theorem rmeet_1 (t l b r t' l' b' r' : Int) (w : World) (f : Int) (HA : MayRIs t l b r 11) (HB : MayRIs t' l' b' r' f) :
    Calls Try.prog 24 #[areaV t l b r, areaV t' l' b' r'] w fun e w' => e = .returned (.tuple #[areaV 0 0 0 0, .bool false]) ∧ Below w.heap.size w w' := by
  go_enter Try.func24, Try.ntmps24
  try simp only [List.append]
  go_wp2_with fail
  refine (HA.out _).mono ?_
  rintro e w1 ⟨rfl, hb1⟩
  have B1 := hide (next (step (step (step (Below.refl w.heap.size w) _) _) _) hb1)
  have ca := hide ((((O4.new w (.int .i64 t) (.int .i64 l) (.int .i64 b) (.int .i64 r) 26).alloc _).alloc _).keep hb1)
  have cb := hide (((O4.new (w.alloc (areaO t l b r)) (.int .i64 t') (.int .i64 l') (.int .i64 b') (.int .i64 r') 26).alloc _).keep hb1)
  simp only [World.size_alloc] at cb
  have ro := hide ((O4.new ((w.alloc (areaO t l b r)).alloc (areaO t' l' b' r')) (.int .i64 0) (.int .i64 0) (.int .i64 0) (.int .i64 0) 26).keep hb1)
  simp only [World.size_alloc] at ro
  have cb00 := cb.out.1.1
  have cb01 := cb.out.1.2.1
  have cb02 := cb.out.1.2.2.1
  have cb03 := cb.out.1.2.2.2
  go_wp2_with fail
  refine (HB.out _).mono ?_
  rintro e w2 ⟨rfl, hb2⟩
  clear cb00
  clear cb01
  clear cb02
  clear cb03
  have B2 := hide (next (B1.out) hb2)
  replace ca := hide (ca.out.keep hb2)
  replace cb := hide (cb.out.keep hb2)
  replace ro := hide (ro.out.keep hb2)
  have hmn := ite_min
  have hmx := ite_max
  have ca00 := ca.out.1.1
  have ca01 := ca.out.1.2.1
  have ca02 := ca.out.1.2.2.1
  have ca03 := ca.out.1.2.2.2
  have cb00 := cb.out.1.1
  have cb01 := cb.out.1.2.1
  have cb02 := cb.out.1.2.2.1
  have cb03 := cb.out.1.2.2.2
  have ro10 := fun o0 => (ro.out.alloc o0).1.1
  have ro11 := fun o0 => (ro.out.alloc o0).1.2.1
  have ro12 := fun o0 => (ro.out.alloc o0).1.2.2.1
  have ro13 := fun o0 => (ro.out.alloc o0).1.2.2.2
  have ro1f := fun o0 => (ro.out.alloc o0).2
  go_wp2_with fail
  refine bodyPost_ret (by simp [results, Try.results24, go_sem, ro10, ro11, ro12, ro13]; try rfl) rfl ?_
  refine ⟨rfl, ?_⟩
  have zB := B2.out.size
  go_grown
  all_goals first | exact B2.out | omega
set_option maxHeartbeats 1000000 in
set_option maxRecDepth 100000 in
theorem rmeet_2 (t l b r t' l' b' r' : Int) (w : World)  (HA : MayRIs t l b r 0) (HB : MayRIs t' l' b' r' 11) :
    Calls Try.prog 24 #[areaV t l b r, areaV t' l' b' r'] w fun e w' => e = .returned (.tuple #[areaV 0 0 0 0, .bool false]) ∧ Below w.heap.size w w' := by
  go_enter Try.func24, Try.ntmps24
  try simp only [List.append]
  go_wp2_with fail
  refine (HA.out _).mono ?_
  rintro e w1 ⟨rfl, hb1⟩
  have B1 := hide (next (step (step (step (Below.refl w.heap.size w) _) _) _) hb1)
  have ca := hide ((((O4.new w (.int .i64 t) (.int .i64 l) (.int .i64 b) (.int .i64 r) 26).alloc _).alloc _).keep hb1)
  have cb := hide (((O4.new (w.alloc (areaO t l b r)) (.int .i64 t') (.int .i64 l') (.int .i64 b') (.int .i64 r') 26).alloc _).keep hb1)
  simp only [World.size_alloc] at cb
  have ro := hide ((O4.new ((w.alloc (areaO t l b r)).alloc (areaO t' l' b' r')) (.int .i64 0) (.int .i64 0) (.int .i64 0) (.int .i64 0) 26).keep hb1)
  simp only [World.size_alloc] at ro
  have cb00 := cb.out.1.1
  have cb01 := cb.out.1.2.1
  have cb02 := cb.out.1.2.2.1
  have cb03 := cb.out.1.2.2.2
  go_wp2_with fail
  refine (HB.out _).mono ?_
  rintro e w2 ⟨rfl, hb2⟩
  clear cb00
  clear cb01
  clear cb02
  clear cb03
  have B2 := hide (next (B1.out) hb2)
  replace ca := hide (ca.out.keep hb2)
  replace cb := hide (cb.out.keep hb2)
  replace ro := hide (ro.out.keep hb2)
  have hmn := ite_min
  have hmx := ite_max
  have ca00 := ca.out.1.1
  have ca01 := ca.out.1.2.1
  have ca02 := ca.out.1.2.2.1
  have ca03 := ca.out.1.2.2.2
  have cb00 := cb.out.1.1
  have cb01 := cb.out.1.2.1
  have cb02 := cb.out.1.2.2.1
  have cb03 := cb.out.1.2.2.2
  have ro10 := fun o0 => (ro.out.alloc o0).1.1
  have ro11 := fun o0 => (ro.out.alloc o0).1.2.1
  have ro12 := fun o0 => (ro.out.alloc o0).1.2.2.1
  have ro13 := fun o0 => (ro.out.alloc o0).1.2.2.2
  have ro1f := fun o0 => (ro.out.alloc o0).2
  go_wp2_with fail
  refine bodyPost_ret (by simp [results, Try.results24, go_sem, ro10, ro11, ro12, ro13]; try rfl) rfl ?_
  refine ⟨rfl, ?_⟩
  have zB := B2.out.size
  go_grown
  all_goals first | exact B2.out | omega
set_option maxHeartbeats 1000000 in
set_option maxRecDepth 100000 in
theorem rmeet_3 (t l b r t' l' b' r' : Int) (w : World) (h : min b b' < max t t') (HA : MayRIs t l b r 0) (HB : MayRIs t' l' b' r' 0) :
    Calls Try.prog 24 #[areaV t l b r, areaV t' l' b' r'] w fun e w' => e = .returned (.tuple #[areaV 0 0 0 0, .bool false]) ∧ Below w.heap.size w w' := by
  go_enter Try.func24, Try.ntmps24
  try simp only [List.append]
  go_wp2_with fail
  refine (HA.out _).mono ?_
  rintro e w1 ⟨rfl, hb1⟩
  have B1 := hide (next (step (step (step (Below.refl w.heap.size w) _) _) _) hb1)
  have ca := hide ((((O4.new w (.int .i64 t) (.int .i64 l) (.int .i64 b) (.int .i64 r) 26).alloc _).alloc _).keep hb1)
  have cb := hide (((O4.new (w.alloc (areaO t l b r)) (.int .i64 t') (.int .i64 l') (.int .i64 b') (.int .i64 r') 26).alloc _).keep hb1)
  simp only [World.size_alloc] at cb
  have ro := hide ((O4.new ((w.alloc (areaO t l b r)).alloc (areaO t' l' b' r')) (.int .i64 0) (.int .i64 0) (.int .i64 0) (.int .i64 0) 26).keep hb1)
  simp only [World.size_alloc] at ro
  have cb00 := cb.out.1.1
  have cb01 := cb.out.1.2.1
  have cb02 := cb.out.1.2.2.1
  have cb03 := cb.out.1.2.2.2
  go_wp2_with fail
  refine (HB.out _).mono ?_
  rintro e w2 ⟨rfl, hb2⟩
  clear cb00
  clear cb01
  clear cb02
  clear cb03
  have B2 := hide (next (B1.out) hb2)
  replace ca := hide (ca.out.keep hb2)
  replace cb := hide (cb.out.keep hb2)
  replace ro := hide (ro.out.keep hb2)
  have hmn := ite_min
  have hmx := ite_max
  have ca00 := ca.out.1.1
  have ca01 := ca.out.1.2.1
  have ca02 := ca.out.1.2.2.1
  have ca03 := ca.out.1.2.2.2
  have cb00 := cb.out.1.1
  have cb01 := cb.out.1.2.1
  have cb02 := cb.out.1.2.2.1
  have cb03 := cb.out.1.2.2.2
  have ro10 := fun o0 => (ro.out.alloc o0).1.1
  have ro11 := fun o0 => (ro.out.alloc o0).1.2.1
  have ro12 := fun o0 => (ro.out.alloc o0).1.2.2.1
  have ro13 := fun o0 => (ro.out.alloc o0).1.2.2.2
  have ro1f := fun o0 => (ro.out.alloc o0).2
  go_wp2_with fail
  refine bodyPost_ret (by simp [results, Try.results24, go_sem, ro10, ro11, ro12, ro13]; try rfl) rfl ?_
  refine ⟨rfl, ?_⟩
  have zB := B2.out.size
  go_grown
  all_goals first | exact B2.out | omega
set_option maxHeartbeats 1000000 in
set_option maxRecDepth 100000 in
theorem rmeet_4 (t l b r t' l' b' r' : Int) (w : World) (h : ¬ min b b' < max t t') (h' : min r r' < max l l') (HA : MayRIs t l b r 0) (HB : MayRIs t' l' b' r' 0) :
    Calls Try.prog 24 #[areaV t l b r, areaV t' l' b' r'] w fun e w' => e = .returned (.tuple #[areaV 0 0 0 0, .bool false]) ∧ Below w.heap.size w w' := by
  go_enter Try.func24, Try.ntmps24
  try simp only [List.append]
  go_wp2_with fail
  refine (HA.out _).mono ?_
  rintro e w1 ⟨rfl, hb1⟩
  have B1 := hide (next (step (step (step (Below.refl w.heap.size w) _) _) _) hb1)
  have ca := hide ((((O4.new w (.int .i64 t) (.int .i64 l) (.int .i64 b) (.int .i64 r) 26).alloc _).alloc _).keep hb1)
  have cb := hide (((O4.new (w.alloc (areaO t l b r)) (.int .i64 t') (.int .i64 l') (.int .i64 b') (.int .i64 r') 26).alloc _).keep hb1)
  simp only [World.size_alloc] at cb
  have ro := hide ((O4.new ((w.alloc (areaO t l b r)).alloc (areaO t' l' b' r')) (.int .i64 0) (.int .i64 0) (.int .i64 0) (.int .i64 0) 26).keep hb1)
  simp only [World.size_alloc] at ro
  have cb00 := cb.out.1.1
  have cb01 := cb.out.1.2.1
  have cb02 := cb.out.1.2.2.1
  have cb03 := cb.out.1.2.2.2
  go_wp2_with fail
  refine (HB.out _).mono ?_
  rintro e w2 ⟨rfl, hb2⟩
  clear cb00
  clear cb01
  clear cb02
  clear cb03
  have B2 := hide (next (B1.out) hb2)
  replace ca := hide (ca.out.keep hb2)
  replace cb := hide (cb.out.keep hb2)
  replace ro := hide (ro.out.keep hb2)
  have hmn := ite_min
  have hmx := ite_max
  have ca00 := ca.out.1.1
  have ca01 := ca.out.1.2.1
  have ca02 := ca.out.1.2.2.1
  have ca03 := ca.out.1.2.2.2
  have cb00 := cb.out.1.1
  have cb01 := cb.out.1.2.1
  have cb02 := cb.out.1.2.2.1
  have cb03 := cb.out.1.2.2.2
  have ro10 := fun o0 => (ro.out.alloc o0).1.1
  have ro11 := fun o0 => (ro.out.alloc o0).1.2.1
  have ro12 := fun o0 => (ro.out.alloc o0).1.2.2.1
  have ro13 := fun o0 => (ro.out.alloc o0).1.2.2.2
  have ro1f := fun o0 => (ro.out.alloc o0).2
  go_wp2_with fail
  refine bodyPost_ret (by simp [results, Try.results24, go_sem, ro10, ro11, ro12, ro13]; try rfl) rfl ?_
  refine ⟨rfl, ?_⟩
  have zB := B2.out.size
  go_grown
  all_goals first | exact B2.out | omega
set_option maxHeartbeats 1000000 in
set_option maxRecDepth 100000 in
theorem rmeet_5 (t l b r t' l' b' r' : Int) (w : World) (h : ¬ min b b' < max t t') (h' : ¬ min r r' < max l l') (HA : MayRIs t l b r 0) (HB : MayRIs t' l' b' r' 0) :
    Calls Try.prog 24 #[areaV t l b r, areaV t' l' b' r'] w fun e w' => e = .returned (.tuple #[areaV (max t t') (max l l') (min b b') (min r r'), .bool true]) ∧ Below w.heap.size w w' := by
  go_enter Try.func24, Try.ntmps24
  try simp only [List.append]
  go_wp2_with fail
  refine (HA.out _).mono ?_
  rintro e w1 ⟨rfl, hb1⟩
  have B1 := hide (next (step (step (step (Below.refl w.heap.size w) _) _) _) hb1)
  have ca := hide ((((O4.new w (.int .i64 t) (.int .i64 l) (.int .i64 b) (.int .i64 r) 26).alloc _).alloc _).keep hb1)
  have cb := hide (((O4.new (w.alloc (areaO t l b r)) (.int .i64 t') (.int .i64 l') (.int .i64 b') (.int .i64 r') 26).alloc _).keep hb1)
  simp only [World.size_alloc] at cb
  have ro := hide ((O4.new ((w.alloc (areaO t l b r)).alloc (areaO t' l' b' r')) (.int .i64 0) (.int .i64 0) (.int .i64 0) (.int .i64 0) 26).keep hb1)
  simp only [World.size_alloc] at ro
  have cb00 := cb.out.1.1
  have cb01 := cb.out.1.2.1
  have cb02 := cb.out.1.2.2.1
  have cb03 := cb.out.1.2.2.2
  go_wp2_with fail
  refine (HB.out _).mono ?_
  rintro e w2 ⟨rfl, hb2⟩
  clear cb00
  clear cb01
  clear cb02
  clear cb03
  have B2 := hide (next (B1.out) hb2)
  replace ca := hide (ca.out.keep hb2)
  replace cb := hide (cb.out.keep hb2)
  replace ro := hide (ro.out.keep hb2)
  have hmn := ite_min
  have hmx := ite_max
  have ca00 := ca.out.1.1
  have ca01 := ca.out.1.2.1
  have ca02 := ca.out.1.2.2.1
  have ca03 := ca.out.1.2.2.2
  have cb00 := cb.out.1.1
  have cb01 := cb.out.1.2.1
  have cb02 := cb.out.1.2.2.1
  have cb03 := cb.out.1.2.2.2
  have ro10 := fun o0 => (ro.out.alloc o0).1.1
  have ro11 := fun o0 => (ro.out.alloc o0).1.2.1
  have ro12 := fun o0 => (ro.out.alloc o0).1.2.2.1
  have ro13 := fun o0 => (ro.out.alloc o0).1.2.2.2
  have ro1f := fun o0 => (ro.out.alloc o0).2
  go_wp2_with fail
  refine bodyPost_ret (by simp [results, Try.results24, go_sem, ro10, ro11, ro12, ro13]; try rfl) rfl ?_
  refine ⟨rfl, ?_⟩
  have zB := B2.out.size
  go_grown
  all_goals first | exact B2.out | omega
end Go.Proofs.Ytibogmlnbipbbaa
