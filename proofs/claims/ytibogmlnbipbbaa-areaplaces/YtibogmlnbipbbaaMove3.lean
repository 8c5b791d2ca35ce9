/- What area.staysOn, area.Move and the reference's Move answer, way by way. Proved of the Go text. -/
import Derived.Test.YtibogmlnbipbbaaMay3
namespace Go.Proofs.Ytibogmlnbipbbaa
open Go.RowKit Go.Sort
set_option linter.unusedVariables false

def stayB (first last by' count : Int) : Bool := decide (-first ≤ by' ∧ by' ≤ count - 1 - last)
theorem stay_any (first last by' count : Int) (w : World) (h0 : 0 ≤ first) (h1 : first ≤ last) (h2 : last < count) (h3 : count ≤ 65536) : Calls Try.prog 30 #[.int .i64 first, .int .i64 last, .int .i64 by', .int .i64 count] w fun e w' => e = .returned (.bool (stayB first last by' count)) ∧ Below w.heap.size w w' := by
  by_cases k1 : -first ≤ by'
  · by_cases k2 : by' ≤ count - 1 - last
    · have HE := hide (show stayB first last by' count = true from decide_eq_true ⟨k1, k2⟩)
      go_enter Try.func30, Try.ntmps30
      go_wp2_with fail
      go_ret
      exact ⟨ret_bool HE.out.symm, Below.refl _ _⟩
    · have HE := hide (show stayB first last by' count = false from decide_eq_false (by omega))
      go_enter Try.func30, Try.ntmps30
      go_wp2_with fail
      go_ret
      exact ⟨ret_bool HE.out.symm, Below.refl _ _⟩
  · have HE := hide (show stayB first last by' count = false from decide_eq_false (by omega))
    go_enter Try.func30, Try.ntmps30
    go_wp2_with fail
    go_ret
    exact ⟨ret_bool HE.out.symm, Below.refl _ _⟩
abbrev StayIs (first last by' count : Int) (v : Bool) : Prop := Hid (∀ w, Calls Try.prog 30 #[.int .i64 first, .int .i64 last, .int .i64 by', .int .i64 count] w fun e w' => e = .returned (.bool v) ∧ Below w.heap.size w w')
set_option maxHeartbeats 1000000 in
set_option maxRecDepth 100000 in
theorem amove_1 (t l b r dr dc : Int) (w : World) (HA : MayIs t l b r 11) :
    Calls Try.prog 16 #[areaV t l b r, .int .i64 dr, .int .i64 dc] w fun e w' => e = .returned (.tuple #[areaV 0 0 0 0, .int .i64 11]) ∧ Below w.heap.size w w' := by
  go_enter Try.func16, Try.ntmps16
  try simp only [List.append]
  go_wp2_with fail
  refine (HA.out _).mono ?_
  rintro e w1 ⟨rfl, hb1⟩
  have B1 := hide (next (step (step (Below.refl w.heap.size w) _) _) hb1)
  have ca := hide (((O4.new w (.int .i64 t) (.int .i64 l) (.int .i64 b) (.int .i64 r) 26).alloc _).keep hb1)
  have ro := hide ((O4.new (w.alloc (areaO t l b r)) (.int .i64 0) (.int .i64 0) (.int .i64 0) (.int .i64 0) 26).keep hb1)
  simp only [World.size_alloc] at ro
  have ro00 := ro.out.1.1
  have ro01 := ro.out.1.2.1
  have ro02 := ro.out.1.2.2.1
  have ro03 := ro.out.1.2.2.2
  have ro0f := ro.out.2
  go_wp2_with fail
  refine bodyPost_ret (by simp [results, Try.results16, go_sem, ro00, ro01, ro02, ro03]; try rfl) rfl ?_
  refine ⟨rfl, ?_⟩
  have zB := B1.out.size
  go_grown
  all_goals first | exact B1.out | omega
set_option maxHeartbeats 1000000 in
set_option maxRecDepth 100000 in
theorem amove_2 (t l b r dr dc : Int) (w : World) (HA : MayIs t l b r 0) (HS : StayIs t b dr 65536 false) :
    Calls Try.prog 16 #[areaV t l b r, .int .i64 dr, .int .i64 dc] w fun e w' => e = .returned (.tuple #[areaV 0 0 0 0, .int .i64 10]) ∧ Below w.heap.size w w' := by
  go_enter Try.func16, Try.ntmps16
  try simp only [List.append]
  go_wp2_with fail
  refine (HA.out _).mono ?_
  rintro e w1 ⟨rfl, hb1⟩
  have B1 := hide (next (step (step (Below.refl w.heap.size w) _) _) hb1)
  have ca := hide (((O4.new w (.int .i64 t) (.int .i64 l) (.int .i64 b) (.int .i64 r) 26).alloc _).keep hb1)
  have ro := hide ((O4.new (w.alloc (areaO t l b r)) (.int .i64 0) (.int .i64 0) (.int .i64 0) (.int .i64 0) 26).keep hb1)
  simp only [World.size_alloc] at ro
  have ca00 := ca.out.1.1
  have ca01 := ca.out.1.2.1
  have ca02 := ca.out.1.2.2.1
  have ca03 := ca.out.1.2.2.2
  go_wp2_with fail
  refine (HS.out _).mono ?_
  rintro e w2 ⟨rfl, hb2⟩
  clear ca00
  clear ca01
  clear ca02
  clear ca03
  have B2 := hide (next (B1.out) hb2)
  replace ca := hide (ca.out.keep hb2)
  replace ro := hide (ro.out.keep hb2)
  have ro00 := ro.out.1.1
  have ro01 := ro.out.1.2.1
  have ro02 := ro.out.1.2.2.1
  have ro03 := ro.out.1.2.2.2
  have ro0f := ro.out.2
  go_wp2_with fail
  refine bodyPost_ret (by simp [results, Try.results16, go_sem, ro00, ro01, ro02, ro03]; try rfl) rfl ?_
  refine ⟨rfl, ?_⟩
  have zB := B2.out.size
  go_grown
  all_goals first | exact B2.out | omega
set_option maxHeartbeats 1000000 in
set_option maxRecDepth 100000 in
theorem amove_3 (t l b r dr dc : Int) (w : World) (HA : MayIs t l b r 0) (HS : StayIs t b dr 65536 true) (HU : StayIs l r dc 702 false) :
    Calls Try.prog 16 #[areaV t l b r, .int .i64 dr, .int .i64 dc] w fun e w' => e = .returned (.tuple #[areaV 0 0 0 0, .int .i64 10]) ∧ Below w.heap.size w w' := by
  go_enter Try.func16, Try.ntmps16
  try simp only [List.append]
  go_wp2_with fail
  refine (HA.out _).mono ?_
  rintro e w1 ⟨rfl, hb1⟩
  have B1 := hide (next (step (step (Below.refl w.heap.size w) _) _) hb1)
  have ca := hide (((O4.new w (.int .i64 t) (.int .i64 l) (.int .i64 b) (.int .i64 r) 26).alloc _).keep hb1)
  have ro := hide ((O4.new (w.alloc (areaO t l b r)) (.int .i64 0) (.int .i64 0) (.int .i64 0) (.int .i64 0) 26).keep hb1)
  simp only [World.size_alloc] at ro
  have ca00 := ca.out.1.1
  have ca01 := ca.out.1.2.1
  have ca02 := ca.out.1.2.2.1
  have ca03 := ca.out.1.2.2.2
  go_wp2_with fail
  refine (HS.out _).mono ?_
  rintro e w2 ⟨rfl, hb2⟩
  clear ca00
  clear ca01
  clear ca02
  clear ca03
  have B2 := hide (next (B1.out) hb2)
  replace ca := hide (ca.out.keep hb2)
  replace ro := hide (ro.out.keep hb2)
  have ca00 := ca.out.1.1
  have ca01 := ca.out.1.2.1
  have ca02 := ca.out.1.2.2.1
  have ca03 := ca.out.1.2.2.2
  go_wp2_with fail
  refine (HU.out _).mono ?_
  rintro e w3 ⟨rfl, hb3⟩
  clear ca00
  clear ca01
  clear ca02
  clear ca03
  have B3 := hide (next (B2.out) hb3)
  replace ca := hide (ca.out.keep hb3)
  replace ro := hide (ro.out.keep hb3)
  have ro00 := ro.out.1.1
  have ro01 := ro.out.1.2.1
  have ro02 := ro.out.1.2.2.1
  have ro03 := ro.out.1.2.2.2
  have ro0f := ro.out.2
  go_wp2_with fail
  refine bodyPost_ret (by simp [results, Try.results16, go_sem, ro00, ro01, ro02, ro03]; try rfl) rfl ?_
  refine ⟨rfl, ?_⟩
  have zB := B3.out.size
  go_grown
  all_goals first | exact B3.out | omega
set_option maxHeartbeats 1000000 in
set_option maxRecDepth 100000 in
theorem amove_4 (t l b r dr dc : Int) (w : World) (HA : MayIs t l b r 0) (HS : StayIs t b dr 65536 true) (HU : StayIs l r dc 702 true) (ho : 0 ≤ t ∧ t ≤ b ∧ b < 65536 ∧ 0 ≤ l ∧ l ≤ r ∧ r < 702) (hm : 0 ≤ t + dr ∧ b + dr < 65536 ∧ 0 ≤ l + dc ∧ r + dc < 702) :
    Calls Try.prog 16 #[areaV t l b r, .int .i64 dr, .int .i64 dc] w fun e w' => e = .returned (.tuple #[areaV (t + dr) (l + dc) (b + dr) (r + dc), .int .i64 0]) ∧ Below w.heap.size w w' := by
  obtain ⟨o1, o2, o3, o4, o5, o6⟩ := ho
  obtain ⟨m1, m2, m3, m4⟩ := hm
  go_enter Try.func16, Try.ntmps16
  try simp only [List.append]
  go_wp2_with fail
  refine (HA.out _).mono ?_
  rintro e w1 ⟨rfl, hb1⟩
  have B1 := hide (next (step (step (Below.refl w.heap.size w) _) _) hb1)
  have ca := hide (((O4.new w (.int .i64 t) (.int .i64 l) (.int .i64 b) (.int .i64 r) 26).alloc _).keep hb1)
  have ro := hide ((O4.new (w.alloc (areaO t l b r)) (.int .i64 0) (.int .i64 0) (.int .i64 0) (.int .i64 0) 26).keep hb1)
  simp only [World.size_alloc] at ro
  have ca00 := ca.out.1.1
  have ca01 := ca.out.1.2.1
  have ca02 := ca.out.1.2.2.1
  have ca03 := ca.out.1.2.2.2
  go_wp2_with fail
  refine (HS.out _).mono ?_
  rintro e w2 ⟨rfl, hb2⟩
  clear ca00
  clear ca01
  clear ca02
  clear ca03
  have B2 := hide (next (B1.out) hb2)
  replace ca := hide (ca.out.keep hb2)
  replace ro := hide (ro.out.keep hb2)
  have ca00 := ca.out.1.1
  have ca01 := ca.out.1.2.1
  have ca02 := ca.out.1.2.2.1
  have ca03 := ca.out.1.2.2.2
  go_wp2_with fail
  refine (HU.out _).mono ?_
  rintro e w3 ⟨rfl, hb3⟩
  clear ca00
  clear ca01
  clear ca02
  clear ca03
  have B3 := hide (next (B2.out) hb3)
  replace ca := hide (ca.out.keep hb3)
  replace ro := hide (ro.out.keep hb3)
  have ca00 := ca.out.1.1
  have ca01 := ca.out.1.2.1
  have ca02 := ca.out.1.2.2.1
  have ca03 := ca.out.1.2.2.2
  have ro00 := ro.out.1.1
  have ro01 := ro.out.1.2.1
  have ro02 := ro.out.1.2.2.1
  have ro03 := ro.out.1.2.2.2
  have ro0f := ro.out.2
  go_wp2_with fail
  refine bodyPost_ret (by simp [results, Try.results16, go_sem, ro00, ro01, ro02, ro03]; try rfl) rfl ?_
  refine ⟨rfl, ?_⟩
  have zB := B3.out.size
  go_grown
  all_goals first | exact B3.out | omega
set_option maxHeartbeats 1000000 in
set_option maxRecDepth 100000 in
theorem rmove_1 (t l b r dr dc : Int) (w : World) (HA : MayRIs t l b r 11) :
    Calls Try.prog 25 #[areaV t l b r, .int .i64 dr, .int .i64 dc] w fun e w' => e = .returned (.tuple #[areaV 0 0 0 0, .int .i64 11]) ∧ Below w.heap.size w w' := by
  go_enter Try.func25, Try.ntmps25
  try simp only [List.append]
  go_wp2_with fail
  refine (HA.out _).mono ?_
  rintro e w1 ⟨rfl, hb1⟩
  have B1 := hide (next (step (step (Below.refl w.heap.size w) _) _) hb1)
  have ca := hide (((O4.new w (.int .i64 t) (.int .i64 l) (.int .i64 b) (.int .i64 r) 26).alloc _).keep hb1)
  have ro := hide ((O4.new (w.alloc (areaO t l b r)) (.int .i64 0) (.int .i64 0) (.int .i64 0) (.int .i64 0) 26).keep hb1)
  simp only [World.size_alloc] at ro
  have ro00 := ro.out.1.1
  have ro01 := ro.out.1.2.1
  have ro02 := ro.out.1.2.2.1
  have ro03 := ro.out.1.2.2.2
  have ro0f := ro.out.2
  go_wp2_with fail
  refine bodyPost_ret (by simp [results, Try.results25, go_sem, ro00, ro01, ro02, ro03]; try rfl) rfl ?_
  refine ⟨rfl, ?_⟩
  have zB := B1.out.size
  go_grown
  all_goals first | exact B1.out | omega
set_option maxHeartbeats 1000000 in
set_option maxRecDepth 100000 in
theorem rmove_20 (t l b r dr dc : Int) (w : World) (HA : MayRIs t l b r 0)  (h0 : dr < -65536) :
    Calls Try.prog 25 #[areaV t l b r, .int .i64 dr, .int .i64 dc] w fun e w' => e = .returned (.tuple #[areaV 0 0 0 0, .int .i64 10]) ∧ Below w.heap.size w w' := by
  go_enter Try.func25, Try.ntmps25
  try simp only [List.append]
  go_wp2_with fail
  refine (HA.out _).mono ?_
  rintro e w1 ⟨rfl, hb1⟩
  have B1 := hide (next (step (step (Below.refl w.heap.size w) _) _) hb1)
  have ca := hide (((O4.new w (.int .i64 t) (.int .i64 l) (.int .i64 b) (.int .i64 r) 26).alloc _).keep hb1)
  have ro := hide ((O4.new (w.alloc (areaO t l b r)) (.int .i64 0) (.int .i64 0) (.int .i64 0) (.int .i64 0) 26).keep hb1)
  simp only [World.size_alloc] at ro
  have ro00 := ro.out.1.1
  have ro01 := ro.out.1.2.1
  have ro02 := ro.out.1.2.2.1
  have ro03 := ro.out.1.2.2.2
  have ro0f := ro.out.2
  go_wp2_with fail
  refine bodyPost_ret (by simp [results, Try.results25, go_sem, ro00, ro01, ro02, ro03]; try rfl) rfl ?_
  refine ⟨rfl, ?_⟩
  have zB := B1.out.size
  go_grown
  all_goals first | exact B1.out | omega
set_option maxHeartbeats 1000000 in
set_option maxRecDepth 100000 in
theorem rmove_21 (t l b r dr dc : Int) (w : World) (HA : MayRIs t l b r 0) (h0 : ¬ dr < -65536) (h1 : 65536 < dr) :
    Calls Try.prog 25 #[areaV t l b r, .int .i64 dr, .int .i64 dc] w fun e w' => e = .returned (.tuple #[areaV 0 0 0 0, .int .i64 10]) ∧ Below w.heap.size w w' := by
  go_enter Try.func25, Try.ntmps25
  try simp only [List.append]
  go_wp2_with fail
  refine (HA.out _).mono ?_
  rintro e w1 ⟨rfl, hb1⟩
  have B1 := hide (next (step (step (Below.refl w.heap.size w) _) _) hb1)
  have ca := hide (((O4.new w (.int .i64 t) (.int .i64 l) (.int .i64 b) (.int .i64 r) 26).alloc _).keep hb1)
  have ro := hide ((O4.new (w.alloc (areaO t l b r)) (.int .i64 0) (.int .i64 0) (.int .i64 0) (.int .i64 0) 26).keep hb1)
  simp only [World.size_alloc] at ro
  have ro00 := ro.out.1.1
  have ro01 := ro.out.1.2.1
  have ro02 := ro.out.1.2.2.1
  have ro03 := ro.out.1.2.2.2
  have ro0f := ro.out.2
  go_wp2_with fail
  refine bodyPost_ret (by simp [results, Try.results25, go_sem, ro00, ro01, ro02, ro03]; try rfl) rfl ?_
  refine ⟨rfl, ?_⟩
  have zB := B1.out.size
  go_grown
  all_goals first | exact B1.out | omega
set_option maxHeartbeats 1000000 in
set_option maxRecDepth 100000 in
theorem rmove_22 (t l b r dr dc : Int) (w : World) (HA : MayRIs t l b r 0) (h0 : ¬ dr < -65536) (h1 : ¬ 65536 < dr) (h2 : dc < -702) :
    Calls Try.prog 25 #[areaV t l b r, .int .i64 dr, .int .i64 dc] w fun e w' => e = .returned (.tuple #[areaV 0 0 0 0, .int .i64 10]) ∧ Below w.heap.size w w' := by
  go_enter Try.func25, Try.ntmps25
  try simp only [List.append]
  go_wp2_with fail
  refine (HA.out _).mono ?_
  rintro e w1 ⟨rfl, hb1⟩
  have B1 := hide (next (step (step (Below.refl w.heap.size w) _) _) hb1)
  have ca := hide (((O4.new w (.int .i64 t) (.int .i64 l) (.int .i64 b) (.int .i64 r) 26).alloc _).keep hb1)
  have ro := hide ((O4.new (w.alloc (areaO t l b r)) (.int .i64 0) (.int .i64 0) (.int .i64 0) (.int .i64 0) 26).keep hb1)
  simp only [World.size_alloc] at ro
  have ro00 := ro.out.1.1
  have ro01 := ro.out.1.2.1
  have ro02 := ro.out.1.2.2.1
  have ro03 := ro.out.1.2.2.2
  have ro0f := ro.out.2
  go_wp2_with fail
  refine bodyPost_ret (by simp [results, Try.results25, go_sem, ro00, ro01, ro02, ro03]; try rfl) rfl ?_
  refine ⟨rfl, ?_⟩
  have zB := B1.out.size
  go_grown
  all_goals first | exact B1.out | omega
set_option maxHeartbeats 1000000 in
set_option maxRecDepth 100000 in
theorem rmove_23 (t l b r dr dc : Int) (w : World) (HA : MayRIs t l b r 0) (h0 : ¬ dr < -65536) (h1 : ¬ 65536 < dr) (h2 : ¬ dc < -702) (h3 : 702 < dc) :
    Calls Try.prog 25 #[areaV t l b r, .int .i64 dr, .int .i64 dc] w fun e w' => e = .returned (.tuple #[areaV 0 0 0 0, .int .i64 10]) ∧ Below w.heap.size w w' := by
  go_enter Try.func25, Try.ntmps25
  try simp only [List.append]
  go_wp2_with fail
  refine (HA.out _).mono ?_
  rintro e w1 ⟨rfl, hb1⟩
  have B1 := hide (next (step (step (Below.refl w.heap.size w) _) _) hb1)
  have ca := hide (((O4.new w (.int .i64 t) (.int .i64 l) (.int .i64 b) (.int .i64 r) 26).alloc _).keep hb1)
  have ro := hide ((O4.new (w.alloc (areaO t l b r)) (.int .i64 0) (.int .i64 0) (.int .i64 0) (.int .i64 0) 26).keep hb1)
  simp only [World.size_alloc] at ro
  have ro00 := ro.out.1.1
  have ro01 := ro.out.1.2.1
  have ro02 := ro.out.1.2.2.1
  have ro03 := ro.out.1.2.2.2
  have ro0f := ro.out.2
  go_wp2_with fail
  refine bodyPost_ret (by simp [results, Try.results25, go_sem, ro00, ro01, ro02, ro03]; try rfl) rfl ?_
  refine ⟨rfl, ?_⟩
  have zB := B1.out.size
  go_grown
  all_goals first | exact B1.out | omega
set_option maxHeartbeats 1000000 in
set_option maxRecDepth 100000 in
theorem rmove_3 (t l b r dr dc : Int) (w : World) (HA : MayRIs t l b r 0) (h0 : ¬ dr < -65536) (h1 : ¬ 65536 < dr) (h2 : ¬ dc < -702) (h3 : ¬ 702 < dc) (ho : 0 ≤ t ∧ t ≤ b ∧ b < 65536 ∧ 0 ≤ l ∧ l ≤ r ∧ r < 702) (HC : MayRIs (t + dr) (l + dc) (b + dr) (r + dc) 11) :
    Calls Try.prog 25 #[areaV t l b r, .int .i64 dr, .int .i64 dc] w fun e w' => e = .returned (.tuple #[areaV 0 0 0 0, .int .i64 10]) ∧ Below w.heap.size w w' := by
  obtain ⟨o1, o2, o3, o4, o5, o6⟩ := ho
  go_enter Try.func25, Try.ntmps25
  try simp only [List.append]
  go_wp2_with fail
  refine (HA.out _).mono ?_
  rintro e w1 ⟨rfl, hb1⟩
  have B1 := hide (next (step (step (Below.refl w.heap.size w) _) _) hb1)
  have ca := hide (((O4.new w (.int .i64 t) (.int .i64 l) (.int .i64 b) (.int .i64 r) 26).alloc _).keep hb1)
  have ro := hide ((O4.new (w.alloc (areaO t l b r)) (.int .i64 0) (.int .i64 0) (.int .i64 0) (.int .i64 0) 26).keep hb1)
  simp only [World.size_alloc] at ro
  have ca00 := ca.out.1.1
  have ca01 := ca.out.1.2.1
  have ca02 := ca.out.1.2.2.1
  have ca03 := ca.out.1.2.2.2
  go_wp2_with fail
  refine (HC.out _).mono ?_
  rintro e w2 ⟨rfl, hb2⟩
  clear ca00
  clear ca01
  clear ca02
  clear ca03
  have B2 := hide (next (step (B1.out) _) hb2)
  replace ca := hide ((ca.out.alloc _).keep hb2)
  replace ro := hide ((ro.out.alloc _).keep hb2)
  have cc := hide ((O4.new w1 (.int .i64 (t + dr)) (.int .i64 (l + dc)) (.int .i64 (b + dr)) (.int .i64 (r + dc)) 26).keep hb2)
  have ro00 := ro.out.1.1
  have ro01 := ro.out.1.2.1
  have ro02 := ro.out.1.2.2.1
  have ro03 := ro.out.1.2.2.2
  have ro0f := ro.out.2
  go_wp2_with fail
  refine bodyPost_ret (by simp [results, Try.results25, go_sem, ro00, ro01, ro02, ro03]; try rfl) rfl ?_
  refine ⟨rfl, ?_⟩
  have zB := B2.out.size
  go_grown
  all_goals first | exact B2.out | omega
set_option maxHeartbeats 1000000 in
set_option maxRecDepth 100000 in
theorem rmove_4 (t l b r dr dc : Int) (w : World) (HA : MayRIs t l b r 0) (h0 : ¬ dr < -65536) (h1 : ¬ 65536 < dr) (h2 : ¬ dc < -702) (h3 : ¬ 702 < dc) (ho : 0 ≤ t ∧ t ≤ b ∧ b < 65536 ∧ 0 ≤ l ∧ l ≤ r ∧ r < 702) (HC : MayRIs (t + dr) (l + dc) (b + dr) (r + dc) 0) :
    Calls Try.prog 25 #[areaV t l b r, .int .i64 dr, .int .i64 dc] w fun e w' => e = .returned (.tuple #[areaV (t + dr) (l + dc) (b + dr) (r + dc), .int .i64 0]) ∧ Below w.heap.size w w' := by
  obtain ⟨o1, o2, o3, o4, o5, o6⟩ := ho
  go_enter Try.func25, Try.ntmps25
  try simp only [List.append]
  go_wp2_with fail
  refine (HA.out _).mono ?_
  rintro e w1 ⟨rfl, hb1⟩
  have B1 := hide (next (step (step (Below.refl w.heap.size w) _) _) hb1)
  have ca := hide (((O4.new w (.int .i64 t) (.int .i64 l) (.int .i64 b) (.int .i64 r) 26).alloc _).keep hb1)
  have ro := hide ((O4.new (w.alloc (areaO t l b r)) (.int .i64 0) (.int .i64 0) (.int .i64 0) (.int .i64 0) 26).keep hb1)
  simp only [World.size_alloc] at ro
  have ca00 := ca.out.1.1
  have ca01 := ca.out.1.2.1
  have ca02 := ca.out.1.2.2.1
  have ca03 := ca.out.1.2.2.2
  go_wp2_with fail
  refine (HC.out _).mono ?_
  rintro e w2 ⟨rfl, hb2⟩
  clear ca00
  clear ca01
  clear ca02
  clear ca03
  have B2 := hide (next (step (B1.out) _) hb2)
  replace ca := hide ((ca.out.alloc _).keep hb2)
  replace ro := hide ((ro.out.alloc _).keep hb2)
  have cc := hide ((O4.new w1 (.int .i64 (t + dr)) (.int .i64 (l + dc)) (.int .i64 (b + dr)) (.int .i64 (r + dc)) 26).keep hb2)
  have ro00 := ro.out.1.1
  have ro01 := ro.out.1.2.1
  have ro02 := ro.out.1.2.2.1
  have ro03 := ro.out.1.2.2.2
  have ro0f := ro.out.2
  have cc00 := cc.out.1.1
  have cc01 := cc.out.1.2.1
  have cc02 := cc.out.1.2.2.1
  have cc03 := cc.out.1.2.2.2
  go_wp2_with fail
  refine bodyPost_ret (by simp [results, Try.results25, go_sem, ro00, ro01, ro02, ro03]; try rfl) rfl ?_
  refine ⟨rfl, ?_⟩
  have zB := B2.out.size
  go_grown
  all_goals first | exact B2.out | omega
end Go.Proofs.Ytibogmlnbipbbaa
