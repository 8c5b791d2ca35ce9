/- What area.Has and the reference's Has answer, for every area and place. Proved of the Go text. -/
import Derived.Test.YtmfkeobjbcinpaaMay3
namespace Go.Proofs.Ytmfkeobjbcinpaa
open Go.RowKit Go.Sort
set_option linter.unusedVariables false

set_option maxHeartbeats 1000000 in
set_option maxRecDepth 100000 in
theorem ahas_bad (t l b r x y : Int) (w : World) (HM : MayIs t l b r 11) :
    Calls Try.prog 74 #[areaV t l b r, spotV x y] w fun e w' => e = .returned (.bool false) ∧ Below w.heap.size w w' := by
  go_enter Try.func74, Try.ntmps74
  try simp only [List.append]
  go_wp2_with fail
  refine (HM.out _).mono ?_
  rintro e w1 ⟨rfl, hb1⟩
  have B1 := hide (next (step (step (Below.refl w.heap.size w) _) _) hb1)
  have ca := hide (((O4.new w (.int .i64 t) (.int .i64 l) (.int .i64 b) (.int .i64 r) 37).alloc _).keep hb1)
  have cs := hide ((O2.new (w.alloc (areaO t l b r)) (.int .i64 x) (.int .i64 y) 35).keep hb1)
  simp only [World.size_alloc] at cs
  go_wp2_with fail
  go_ret
  exact ⟨rfl, B1.out⟩
set_option maxHeartbeats 1000000 in
set_option maxRecDepth 100000 in
theorem ahas_0 (t l b r x y : Int) (w : World) (HM : MayIs t l b r 0)  (h0 : ¬ t ≤ x) :
    Calls Try.prog 74 #[areaV t l b r, spotV x y] w fun e w' => e = .returned (.bool false) ∧ Below w.heap.size w w' := by
  go_enter Try.func74, Try.ntmps74
  try simp only [List.append]
  go_wp2_with fail
  refine (HM.out _).mono ?_
  rintro e w1 ⟨rfl, hb1⟩
  have B1 := hide (next (step (step (Below.refl w.heap.size w) _) _) hb1)
  have ca := hide (((O4.new w (.int .i64 t) (.int .i64 l) (.int .i64 b) (.int .i64 r) 37).alloc _).keep hb1)
  have cs := hide ((O2.new (w.alloc (areaO t l b r)) (.int .i64 x) (.int .i64 y) 35).keep hb1)
  simp only [World.size_alloc] at cs
  have ca00 := ca.out.1.1
  have ca01 := ca.out.1.2.1
  have ca02 := ca.out.1.2.2.1
  have ca03 := ca.out.1.2.2.2
  have cs00 := cs.out.1.1
  have cs01 := cs.out.1.2
  go_wp2_with fail
  go_ret
  exact ⟨by first | rfl | exact ret_bool (decide_eq_true h3) | exact ret_bool (decide_eq_false (by omega)), B1.out⟩
set_option maxHeartbeats 1000000 in
set_option maxRecDepth 100000 in
theorem ahas_1 (t l b r x y : Int) (w : World) (HM : MayIs t l b r 0) (h0 : t ≤ x) (h1 : ¬ x ≤ b) :
    Calls Try.prog 74 #[areaV t l b r, spotV x y] w fun e w' => e = .returned (.bool false) ∧ Below w.heap.size w w' := by
  go_enter Try.func74, Try.ntmps74
  try simp only [List.append]
  go_wp2_with fail
  refine (HM.out _).mono ?_
  rintro e w1 ⟨rfl, hb1⟩
  have B1 := hide (next (step (step (Below.refl w.heap.size w) _) _) hb1)
  have ca := hide (((O4.new w (.int .i64 t) (.int .i64 l) (.int .i64 b) (.int .i64 r) 37).alloc _).keep hb1)
  have cs := hide ((O2.new (w.alloc (areaO t l b r)) (.int .i64 x) (.int .i64 y) 35).keep hb1)
  simp only [World.size_alloc] at cs
  have ca00 := ca.out.1.1
  have ca01 := ca.out.1.2.1
  have ca02 := ca.out.1.2.2.1
  have ca03 := ca.out.1.2.2.2
  have cs00 := cs.out.1.1
  have cs01 := cs.out.1.2
  go_wp2_with fail
  go_ret
  exact ⟨by first | rfl | exact ret_bool (decide_eq_true h3) | exact ret_bool (decide_eq_false (by omega)), B1.out⟩
set_option maxHeartbeats 1000000 in
set_option maxRecDepth 100000 in
theorem ahas_2 (t l b r x y : Int) (w : World) (HM : MayIs t l b r 0) (h0 : t ≤ x) (h1 : x ≤ b) (h2 : ¬ l ≤ y) :
    Calls Try.prog 74 #[areaV t l b r, spotV x y] w fun e w' => e = .returned (.bool false) ∧ Below w.heap.size w w' := by
  go_enter Try.func74, Try.ntmps74
  try simp only [List.append]
  go_wp2_with fail
  refine (HM.out _).mono ?_
  rintro e w1 ⟨rfl, hb1⟩
  have B1 := hide (next (step (step (Below.refl w.heap.size w) _) _) hb1)
  have ca := hide (((O4.new w (.int .i64 t) (.int .i64 l) (.int .i64 b) (.int .i64 r) 37).alloc _).keep hb1)
  have cs := hide ((O2.new (w.alloc (areaO t l b r)) (.int .i64 x) (.int .i64 y) 35).keep hb1)
  simp only [World.size_alloc] at cs
  have ca00 := ca.out.1.1
  have ca01 := ca.out.1.2.1
  have ca02 := ca.out.1.2.2.1
  have ca03 := ca.out.1.2.2.2
  have cs00 := cs.out.1.1
  have cs01 := cs.out.1.2
  go_wp2_with fail
  go_ret
  exact ⟨by first | rfl | exact ret_bool (decide_eq_true h3) | exact ret_bool (decide_eq_false (by omega)), B1.out⟩
set_option maxHeartbeats 1000000 in
set_option maxRecDepth 100000 in
theorem ahas_3 (t l b r x y : Int) (w : World) (HM : MayIs t l b r 0) (h0 : t ≤ x) (h1 : x ≤ b) (h2 : l ≤ y) (h3 : ¬ y ≤ r) :
    Calls Try.prog 74 #[areaV t l b r, spotV x y] w fun e w' => e = .returned (.bool false) ∧ Below w.heap.size w w' := by
  go_enter Try.func74, Try.ntmps74
  try simp only [List.append]
  go_wp2_with fail
  refine (HM.out _).mono ?_
  rintro e w1 ⟨rfl, hb1⟩
  have B1 := hide (next (step (step (Below.refl w.heap.size w) _) _) hb1)
  have ca := hide (((O4.new w (.int .i64 t) (.int .i64 l) (.int .i64 b) (.int .i64 r) 37).alloc _).keep hb1)
  have cs := hide ((O2.new (w.alloc (areaO t l b r)) (.int .i64 x) (.int .i64 y) 35).keep hb1)
  simp only [World.size_alloc] at cs
  have ca00 := ca.out.1.1
  have ca01 := ca.out.1.2.1
  have ca02 := ca.out.1.2.2.1
  have ca03 := ca.out.1.2.2.2
  have cs00 := cs.out.1.1
  have cs01 := cs.out.1.2
  go_wp2_with fail
  go_ret
  exact ⟨by first | rfl | exact ret_bool (decide_eq_true h3) | exact ret_bool (decide_eq_false (by omega)), B1.out⟩
set_option maxHeartbeats 1000000 in
set_option maxRecDepth 100000 in
theorem ahas_4 (t l b r x y : Int) (w : World) (HM : MayIs t l b r 0) (h0 : t ≤ x) (h1 : x ≤ b) (h2 : l ≤ y) (h3 : y ≤ r) :
    Calls Try.prog 74 #[areaV t l b r, spotV x y] w fun e w' => e = .returned (.bool true) ∧ Below w.heap.size w w' := by
  go_enter Try.func74, Try.ntmps74
  try simp only [List.append]
  go_wp2_with fail
  refine (HM.out _).mono ?_
  rintro e w1 ⟨rfl, hb1⟩
  have B1 := hide (next (step (step (Below.refl w.heap.size w) _) _) hb1)
  have ca := hide (((O4.new w (.int .i64 t) (.int .i64 l) (.int .i64 b) (.int .i64 r) 37).alloc _).keep hb1)
  have cs := hide ((O2.new (w.alloc (areaO t l b r)) (.int .i64 x) (.int .i64 y) 35).keep hb1)
  simp only [World.size_alloc] at cs
  have ca00 := ca.out.1.1
  have ca01 := ca.out.1.2.1
  have ca02 := ca.out.1.2.2.1
  have ca03 := ca.out.1.2.2.2
  have cs00 := cs.out.1.1
  have cs01 := cs.out.1.2
  go_wp2_with fail
  go_ret
  exact ⟨by first | rfl | exact ret_bool (decide_eq_true h3) | exact ret_bool (decide_eq_false (by omega)), B1.out⟩
theorem ahas_any (t l b r x y : Int) (w : World) : Calls Try.prog 74 #[areaV t l b r, spotV x y] w fun e w' => e = .returned (.bool (hasB t l b r x y)) ∧ Below w.heap.size w w' := by
  have HM := hide (amay_any t l b r)
  cases ho : okA t l b r
  · rw [eA_of ho] at HM
    rw [hasB_bad x y ho]; exact ahas_bad t l b r x y w HM
  · rw [eA_of ho] at HM
    by_cases h0 : t ≤ x
    · by_cases h1 : x ≤ b
      · by_cases h2 : l ≤ y
        · by_cases h3 : y ≤ r
          · rw [hasB_yes ho ⟨h0, h1, h2, h3⟩]; exact ahas_4 t l b r x y w HM h0 h1 h2 h3
          · rw [hasB_no (by omega)]; exact ahas_3 t l b r x y w HM h0 h1 h2 h3
        · rw [hasB_no (by omega)]; exact ahas_2 t l b r x y w HM h0 h1 h2
      · rw [hasB_no (by omega)]; exact ahas_1 t l b r x y w HM h0 h1
    · rw [hasB_no (by omega)]; exact ahas_0 t l b r x y w HM h0
set_option maxHeartbeats 1000000 in
set_option maxRecDepth 100000 in
theorem rhas_bad (t l b r x y : Int) (w : World) (HM : MayRIs t l b r 11) :
    Calls Try.prog 15 #[areaV t l b r, spotV x y] w fun e w' => e = .returned (.bool false) ∧ Below w.heap.size w w' := by
  go_enter Try.func15, Try.ntmps15
  try simp only [List.append]
  go_wp2_with fail
  refine (HM.out _).mono ?_
  rintro e w1 ⟨rfl, hb1⟩
  have B1 := hide (next (step (step (Below.refl w.heap.size w) _) _) hb1)
  have ca := hide (((O4.new w (.int .i64 t) (.int .i64 l) (.int .i64 b) (.int .i64 r) 37).alloc _).keep hb1)
  have cs := hide ((O2.new (w.alloc (areaO t l b r)) (.int .i64 x) (.int .i64 y) 35).keep hb1)
  simp only [World.size_alloc] at cs
  go_wp2_with fail
  go_ret
  exact ⟨rfl, B1.out⟩
set_option maxHeartbeats 1000000 in
set_option maxRecDepth 100000 in
theorem rhas_0 (t l b r x y : Int) (w : World) (HM : MayRIs t l b r 0)  (h0 : ¬ t ≤ x) :
    Calls Try.prog 15 #[areaV t l b r, spotV x y] w fun e w' => e = .returned (.bool false) ∧ Below w.heap.size w w' := by
  go_enter Try.func15, Try.ntmps15
  try simp only [List.append]
  go_wp2_with fail
  refine (HM.out _).mono ?_
  rintro e w1 ⟨rfl, hb1⟩
  have B1 := hide (next (step (step (Below.refl w.heap.size w) _) _) hb1)
  have ca := hide (((O4.new w (.int .i64 t) (.int .i64 l) (.int .i64 b) (.int .i64 r) 37).alloc _).keep hb1)
  have cs := hide ((O2.new (w.alloc (areaO t l b r)) (.int .i64 x) (.int .i64 y) 35).keep hb1)
  simp only [World.size_alloc] at cs
  have ca00 := ca.out.1.1
  have ca01 := ca.out.1.2.1
  have ca02 := ca.out.1.2.2.1
  have ca03 := ca.out.1.2.2.2
  have cs00 := cs.out.1.1
  have cs01 := cs.out.1.2
  go_wp2_with fail
  go_ret
  exact ⟨by first | rfl | exact ret_bool (decide_eq_true h3) | exact ret_bool (decide_eq_false (by omega)), B1.out⟩
set_option maxHeartbeats 1000000 in
set_option maxRecDepth 100000 in
theorem rhas_1 (t l b r x y : Int) (w : World) (HM : MayRIs t l b r 0) (h0 : t ≤ x) (h1 : ¬ x ≤ b) :
    Calls Try.prog 15 #[areaV t l b r, spotV x y] w fun e w' => e = .returned (.bool false) ∧ Below w.heap.size w w' := by
  go_enter Try.func15, Try.ntmps15
  try simp only [List.append]
  go_wp2_with fail
  refine (HM.out _).mono ?_
  rintro e w1 ⟨rfl, hb1⟩
  have B1 := hide (next (step (step (Below.refl w.heap.size w) _) _) hb1)
  have ca := hide (((O4.new w (.int .i64 t) (.int .i64 l) (.int .i64 b) (.int .i64 r) 37).alloc _).keep hb1)
  have cs := hide ((O2.new (w.alloc (areaO t l b r)) (.int .i64 x) (.int .i64 y) 35).keep hb1)
  simp only [World.size_alloc] at cs
  have ca00 := ca.out.1.1
  have ca01 := ca.out.1.2.1
  have ca02 := ca.out.1.2.2.1
  have ca03 := ca.out.1.2.2.2
  have cs00 := cs.out.1.1
  have cs01 := cs.out.1.2
  go_wp2_with fail
  go_ret
  exact ⟨by first | rfl | exact ret_bool (decide_eq_true h3) | exact ret_bool (decide_eq_false (by omega)), B1.out⟩
set_option maxHeartbeats 1000000 in
set_option maxRecDepth 100000 in
theorem rhas_2 (t l b r x y : Int) (w : World) (HM : MayRIs t l b r 0) (h0 : t ≤ x) (h1 : x ≤ b) (h2 : ¬ l ≤ y) :
    Calls Try.prog 15 #[areaV t l b r, spotV x y] w fun e w' => e = .returned (.bool false) ∧ Below w.heap.size w w' := by
  go_enter Try.func15, Try.ntmps15
  try simp only [List.append]
  go_wp2_with fail
  refine (HM.out _).mono ?_
  rintro e w1 ⟨rfl, hb1⟩
  have B1 := hide (next (step (step (Below.refl w.heap.size w) _) _) hb1)
  have ca := hide (((O4.new w (.int .i64 t) (.int .i64 l) (.int .i64 b) (.int .i64 r) 37).alloc _).keep hb1)
  have cs := hide ((O2.new (w.alloc (areaO t l b r)) (.int .i64 x) (.int .i64 y) 35).keep hb1)
  simp only [World.size_alloc] at cs
  have ca00 := ca.out.1.1
  have ca01 := ca.out.1.2.1
  have ca02 := ca.out.1.2.2.1
  have ca03 := ca.out.1.2.2.2
  have cs00 := cs.out.1.1
  have cs01 := cs.out.1.2
  go_wp2_with fail
  go_ret
  exact ⟨by first | rfl | exact ret_bool (decide_eq_true h3) | exact ret_bool (decide_eq_false (by omega)), B1.out⟩
set_option maxHeartbeats 1000000 in
set_option maxRecDepth 100000 in
theorem rhas_3 (t l b r x y : Int) (w : World) (HM : MayRIs t l b r 0) (h0 : t ≤ x) (h1 : x ≤ b) (h2 : l ≤ y) (h3 : ¬ y ≤ r) :
    Calls Try.prog 15 #[areaV t l b r, spotV x y] w fun e w' => e = .returned (.bool false) ∧ Below w.heap.size w w' := by
  go_enter Try.func15, Try.ntmps15
  try simp only [List.append]
  go_wp2_with fail
  refine (HM.out _).mono ?_
  rintro e w1 ⟨rfl, hb1⟩
  have B1 := hide (next (step (step (Below.refl w.heap.size w) _) _) hb1)
  have ca := hide (((O4.new w (.int .i64 t) (.int .i64 l) (.int .i64 b) (.int .i64 r) 37).alloc _).keep hb1)
  have cs := hide ((O2.new (w.alloc (areaO t l b r)) (.int .i64 x) (.int .i64 y) 35).keep hb1)
  simp only [World.size_alloc] at cs
  have ca00 := ca.out.1.1
  have ca01 := ca.out.1.2.1
  have ca02 := ca.out.1.2.2.1
  have ca03 := ca.out.1.2.2.2
  have cs00 := cs.out.1.1
  have cs01 := cs.out.1.2
  go_wp2_with fail
  go_ret
  exact ⟨by first | rfl | exact ret_bool (decide_eq_true h3) | exact ret_bool (decide_eq_false (by omega)), B1.out⟩
set_option maxHeartbeats 1000000 in
set_option maxRecDepth 100000 in
theorem rhas_4 (t l b r x y : Int) (w : World) (HM : MayRIs t l b r 0) (h0 : t ≤ x) (h1 : x ≤ b) (h2 : l ≤ y) (h3 : y ≤ r) :
    Calls Try.prog 15 #[areaV t l b r, spotV x y] w fun e w' => e = .returned (.bool true) ∧ Below w.heap.size w w' := by
  go_enter Try.func15, Try.ntmps15
  try simp only [List.append]
  go_wp2_with fail
  refine (HM.out _).mono ?_
  rintro e w1 ⟨rfl, hb1⟩
  have B1 := hide (next (step (step (Below.refl w.heap.size w) _) _) hb1)
  have ca := hide (((O4.new w (.int .i64 t) (.int .i64 l) (.int .i64 b) (.int .i64 r) 37).alloc _).keep hb1)
  have cs := hide ((O2.new (w.alloc (areaO t l b r)) (.int .i64 x) (.int .i64 y) 35).keep hb1)
  simp only [World.size_alloc] at cs
  have ca00 := ca.out.1.1
  have ca01 := ca.out.1.2.1
  have ca02 := ca.out.1.2.2.1
  have ca03 := ca.out.1.2.2.2
  have cs00 := cs.out.1.1
  have cs01 := cs.out.1.2
  go_wp2_with fail
  go_ret
  exact ⟨by first | rfl | exact ret_bool (decide_eq_true h3) | exact ret_bool (decide_eq_false (by omega)), B1.out⟩
theorem rhas_any (t l b r x y : Int) (w : World) : Calls Try.prog 15 #[areaV t l b r, spotV x y] w fun e w' => e = .returned (.bool (hasB t l b r x y)) ∧ Below w.heap.size w w' := by
  have HM := hide (rmay_any t l b r)
  cases ho : okA t l b r
  · rw [eA_of ho] at HM
    rw [hasB_bad x y ho]; exact rhas_bad t l b r x y w HM
  · rw [eA_of ho] at HM
    by_cases h0 : t ≤ x
    · by_cases h1 : x ≤ b
      · by_cases h2 : l ≤ y
        · by_cases h3 : y ≤ r
          · rw [hasB_yes ho ⟨h0, h1, h2, h3⟩]; exact rhas_4 t l b r x y w HM h0 h1 h2 h3
          · rw [hasB_no (by omega)]; exact rhas_3 t l b r x y w HM h0 h1 h2 h3
        · rw [hasB_no (by omega)]; exact rhas_2 t l b r x y w HM h0 h1 h2
      · rw [hasB_no (by omega)]; exact rhas_1 t l b r x y w HM h0 h1
    · rw [hasB_no (by omega)]; exact rhas_0 t l b r x y w HM h0
end Go.Proofs.Ytmfkeobjbcinpaa
