/- calc.scalar: the first error; else what the row does of the arguments as they are looked at. Proved of the Go text. -/
import Derived.Test.YtgnmkhjilecdhaaGreatDoorF14J
import Derived.Test.YtgnmkhjilecdhaaGreatDoorRows14
import Derived.Test.YtgnmkhjilecdhaaGreatDoorK5J
import Derived.Deep.CutRange
namespace Go.Proofs.YtgnmkhjilecdhaaGreatDoor
open Go.RowKit Go.Sort
set_option linter.unusedVariables false

/-- The tables that texts of numbers and the search in texts read. -/
def Tb (w : World) : Prop := Tab w ∧ T5.Tab w
theorem Tb.keep {w w' : World} (h : Tb w) (hb : Below w.heap.size w w') : Tb w' := ⟨tab_below h.1 hb, h.2.keep hb⟩
theorem Tb.alloc {w : World} (h : Tb w) (ob : Obj) : Tb (w.alloc ob) := h.keep ((Below.refl _ _).alloc (Nat.le_refl _) _)
/-- What a call answers, wherever the tables lie. -/
abbrev CallB (f : Nat) (args : Array Value) (v : Value) : Prop := Hid (∀ w, Tb w → Calls Tryz.prog f args w fun e w' => e = .returned v ∧ Below w.heap.size w w')
theorem CallIs.b {f : Nat} {args : Array Value} {v : Value} (h : CallIs f args v) : CallB f args v := fun w _ => h w
theorem CallT.b {f : Nat} {args : Array Value} {v : Value} (h : CallT f args v) : CallB f args v := fun w ht => h w ht.1
/-- A row's function, of the arguments as they are looked at. -/
def DoIs (fn : Nat) (ys : List Va) (out : Va) : Prop := ∀ (w : World) (a : Option Addr) (cap : Nat), Tb w → ValsAt w a ys → Calls Tryz.prog fn #[.slice a ys.length cap] w fun e w' => e = .returned out.v ∧ Below w.heap.size w w'
/-- How the arguments are looked at. -/
def LookIs (asks : ByteArray) (xs ys : List Va) : Prop := ∀ (w : World) (a : Option Addr) (cap : Nat), Tab w → ValsAt w a xs → Calls Tryz.prog 94 #[.string asks, .slice a xs.length cap] w fun e w' => LkP w ys e w'
/-- The two cells of a row. -/
def R2 (w : World) (b : Nat) (v0 v1 : Value) : Prop := w.cell? ⟨b, 0, none⟩ = some v0 ∧ w.cell? ⟨b, 1, none⟩ = some v1
theorem R2.keep {w w' : World} {b : Nat} {v0 v1 : Value} (h : R2 w b v0 v1) (hb : Below w.heap.size w w') : R2 w' b v0 v1 := ⟨keep1 hb h.1, keep1 hb h.2⟩
theorem R2.alloc {w : World} {b : Nat} {v0 v1 : Value} (h : R2 w b v0 v1) (ob : Obj) : R2 (w.alloc ob) b v0 v1 := h.keep ((Below.refl _ _).alloc (Nat.le_refl _) _)
theorem R2.new (w : World) (v0 v1 : Value) (t : TypeId) : R2 (w.alloc (.cells #[v0, v1] t)) w.heap.size v0 v1 := by refine ⟨?_, ?_⟩ <;> go_simp
set_option maxHeartbeats 2000000 in
set_option maxRecDepth 100000 in
theorem scalar_e1 (asks : ByteArray) (fn : Nat) (xs : List Va) (a : Option Addr) (cap : Nat) (w : World) (HT : Tb w) (hv : ValsAt w a xs) (hl : xs.length ≤ maxLen) (k i : Int) (t : ByteArray) (hf : fe xs = some ⟨k, i, t⟩) : Calls Tryz.prog 17 #[.agg #[.string asks, .func (.func fn) #[] #[]], .slice a xs.length cap] w fun e w' => e = .returned (vV k i t) ∧ Below w.heap.size w w' := by
  have HF : Hid (∀ (w' : World) (a : Option Addr) (cap : Nat), ValsAt w' a xs → Calls Tryz.prog 26 #[.slice a xs.length cap] w' fun e w'' => e = .returned (.tuple #[vV k i t, .bool true]) ∧ Below w'.heap.size w' w'') := hide (fun w' a cap h => by have := fe_any xs a cap w' hl h; rw [hf] at this; exact this)
  clear hf
  replace HT := hide HT
  replace hv := hide hv
  clear hl
  generalize xs.length = len at *
  go_enter Tryz.func17, Tryz.ntmps17
  try simp only [List.append]
  go_wp2_with fail
  refine (HF.out _ _ _ ((hv.out.alloc _).alloc _)).mono ?_
  rintro e w1 ⟨rfl, hb1⟩
  have rr := hide (((R2.new w (.string asks) (.func (.func fn) #[] #[]) 47).alloc _).keep hb1)
  replace hv := hide (((hv.out.alloc _).alloc _).keep hb1)
  replace HT := hide (((HT.out.alloc _).alloc _).keep hb1)
  have B1 := hide (next (step (step (Below.refl w.heap.size w) _) _) hb1)
  have cr := hide ((O3.new (w.alloc _) (.int .i64 0) (.int .i64 0) (.string no) 30).keep hb1)
  simp only [World.size_alloc] at cr
  replace cr := hide ((cr.out.alloc (vO k i t)))
  replace rr := hide ((rr.out.alloc (vO k i t)))
  replace hv := hide ((hv.out.alloc (vO k i t)))
  replace HT := hide ((HT.out.alloc (vO k i t)))
  have cru20 := cr.out.1.1
  have cru21 := cr.out.1.2.1
  have cru22 := cr.out.1.2.2
  have cru2f := cr.out.2
  have Bq1 := hide (below_put3 (b := w.heap.size + 1) (step (B1.out) (vO k i t)) (by omega) (.int .i64 k) (.int .i64 i) (.string t))
  replace cr := hide (cr.out.put (.int .i64 k) (.int .i64 i) (.string t))
  obtain ⟨wq1, hwq1⟩ : ∃ wq1, put3 ((w1.alloc (vO k i t))) (w.heap.size + 1) (.int .i64 k) (.int .i64 i) (.string t) = wq1 := ⟨_, rfl⟩
  rw [hwq1] at Bq1 cr
  unfold put3 at hwq1
  have cru30 := cr.out.1.1
  have cru31 := cr.out.1.2.1
  have cru32 := cr.out.1.2.2
  go_wp2_with fail
  refine bodyPost_ret (by simp [results, Tryz.results17, go_sem, cru30, cru31, cru32]; try rfl) rfl ?_
  exact ⟨rfl, Bq1.out⟩
set_option maxHeartbeats 2000000 in
set_option maxRecDepth 100000 in
theorem scalar_e2 (asks : ByteArray) (fn : Nat) (xs : List Va) (a : Option Addr) (cap : Nat) (w : World) (HT : Tb w) (hv : ValsAt w a xs) (hl : xs.length ≤ maxLen) (ys : List Va) (hf : fe xs = none) (hlk : LookIs asks xs ys) (hy : ys.length ≤ maxLen) (k i : Int) (t : ByteArray) (hg : fe ys = some ⟨k, i, t⟩) : Calls Tryz.prog 17 #[.agg #[.string asks, .func (.func fn) #[] #[]], .slice a xs.length cap] w fun e w' => e = .returned (vV k i t) ∧ Below w.heap.size w w' := by
  have HF : Hid (∀ (w' : World) (a : Option Addr) (cap : Nat), ValsAt w' a xs → Calls Tryz.prog 26 #[.slice a xs.length cap] w' fun e w'' => e = .returned (.tuple #[vV 0 0 no, .bool false]) ∧ Below w'.heap.size w' w'') := hide (fun w' a cap h => by have := fe_any xs a cap w' hl h; rw [hf] at this; exact this)
  have HG : Hid (∀ (w' : World) (a : Option Addr) (cap : Nat), ValsAt w' a ys → Calls Tryz.prog 26 #[.slice a ys.length cap] w' fun e w'' => e = .returned (.tuple #[vV k i t, .bool true]) ∧ Below w'.heap.size w' w'') := hide (fun w' a cap h => by have := fe_any ys a cap w' hy h; rw [hg] at this; exact this)
  have HL : Hid (∀ (w : World) (a : Option Addr) (cap : Nat), Tab w → ValsAt w a xs → Calls Tryz.prog 94 #[.string asks, .slice a xs.length cap] w fun e w' => LkP w ys e w') := hide hlk
  clear hf hg hy hlk
  unfold LkP at HL
  generalize ys.length = leny at *
  replace HT := hide HT
  replace hv := hide hv
  clear hl
  generalize xs.length = len at *
  go_enter Tryz.func17, Tryz.ntmps17
  try simp only [List.append]
  go_wp2_with fail
  refine (HF.out _ _ _ ((hv.out.alloc _).alloc _)).mono ?_
  rintro e w1 ⟨rfl, hb1⟩
  have rr := hide (((R2.new w (.string asks) (.func (.func fn) #[] #[]) 47).alloc _).keep hb1)
  replace hv := hide (((hv.out.alloc _).alloc _).keep hb1)
  replace HT := hide (((HT.out.alloc _).alloc _).keep hb1)
  have B1 := hide (next (step (step (Below.refl w.heap.size w) _) _) hb1)
  have cr := hide ((O3.new (w.alloc _) (.int .i64 0) (.int .i64 0) (.string no) 30).keep hb1)
  simp only [World.size_alloc] at cr
  replace cr := hide ((cr.out.alloc (vO 0 0 no)))
  replace rr := hide ((rr.out.alloc (vO 0 0 no)))
  replace hv := hide ((hv.out.alloc (vO 0 0 no)))
  replace HT := hide ((HT.out.alloc (vO 0 0 no)))
  have rr0 := rr.out.1
  go_wp2_with fail
  refine (HL.out _ _ _ HT.out.1 hv.out).mono ?_
  intro e w2 hh
  obtain ⟨a2, cap2, rfl, hv2, hb2⟩ := hh
  replace hv2 := hide hv2
  clear rr0
  have B2 := hide (next (step (B1.out) (vO 0 0 no)) hb2)
  replace cr := hide (cr.out.keep hb2)
  replace rr := hide (rr.out.keep hb2)
  replace hv := hide (hv.out.keep hb2)
  replace HT := hide (HT.out.keep hb2)
  go_wp2_with fail
  refine (HG.out _ _ _ hv2.out).mono ?_
  rintro e w3 ⟨rfl, hb3⟩
  replace hv2 := hide (hv2.out.keep hb3)
  have B3 := hide (next (B2.out) hb3)
  replace cr := hide (cr.out.keep hb3)
  replace rr := hide (rr.out.keep hb3)
  replace hv := hide (hv.out.keep hb3)
  replace HT := hide (HT.out.keep hb3)
  replace cr := hide ((cr.out.alloc (vO k i t)))
  replace rr := hide ((rr.out.alloc (vO k i t)))
  replace hv := hide ((hv.out.alloc (vO k i t)))
  replace HT := hide ((HT.out.alloc (vO k i t)))
  replace hv2 := hide ((hv2.out.alloc (vO k i t)))
  have cru20 := cr.out.1.1
  have cru21 := cr.out.1.2.1
  have cru22 := cr.out.1.2.2
  have cru2f := cr.out.2
  have Bq1 := hide (below_put3 (b := w.heap.size + 1) (step (B3.out) (vO k i t)) (by omega) (.int .i64 k) (.int .i64 i) (.string t))
  replace cr := hide (cr.out.put (.int .i64 k) (.int .i64 i) (.string t))
  obtain ⟨wq1, hwq1⟩ : ∃ wq1, put3 ((w3.alloc (vO k i t))) (w.heap.size + 1) (.int .i64 k) (.int .i64 i) (.string t) = wq1 := ⟨_, rfl⟩
  rw [hwq1] at Bq1 cr
  unfold put3 at hwq1
  have cru30 := cr.out.1.1
  have cru31 := cr.out.1.2.1
  have cru32 := cr.out.1.2.2
  go_wp2_with fail
  refine bodyPost_ret (by simp [results, Tryz.results17, go_sem, cru30, cru31, cru32]; try rfl) rfl ?_
  exact ⟨rfl, Bq1.out⟩
set_option maxHeartbeats 2000000 in
set_option maxRecDepth 100000 in
theorem scalar_do (asks : ByteArray) (fn : Nat) (xs : List Va) (a : Option Addr) (cap : Nat) (w : World) (HT : Tb w) (hv : ValsAt w a xs) (hl : xs.length ≤ maxLen) (ys : List Va) (hf : fe xs = none) (hlk : LookIs asks xs ys) (hy : ys.length ≤ maxLen) (hg : fe ys = none) (k i : Int) (t : ByteArray) (hd : DoIs fn ys ⟨k, i, t⟩) (hent : ∀ args w, (callFunc fn args).run Tryz.prog w = .ok (.enter fn args) w) : Calls Tryz.prog 17 #[.agg #[.string asks, .func (.func fn) #[] #[]], .slice a xs.length cap] w fun e w' => e = .returned (vV k i t) ∧ Below w.heap.size w w' := by
  have HF : Hid (∀ (w' : World) (a : Option Addr) (cap : Nat), ValsAt w' a xs → Calls Tryz.prog 26 #[.slice a xs.length cap] w' fun e w'' => e = .returned (.tuple #[vV 0 0 no, .bool false]) ∧ Below w'.heap.size w' w'') := hide (fun w' a cap h => by have := fe_any xs a cap w' hl h; rw [hf] at this; exact this)
  have HG : Hid (∀ (w' : World) (a : Option Addr) (cap : Nat), ValsAt w' a ys → Calls Tryz.prog 26 #[.slice a ys.length cap] w' fun e w'' => e = .returned (.tuple #[vV 0 0 no, .bool false]) ∧ Below w'.heap.size w' w'') := hide (fun w' a cap h => by have := fe_any ys a cap w' hy h; rw [hg] at this; exact this)
  have HL : Hid (∀ (w : World) (a : Option Addr) (cap : Nat), Tab w → ValsAt w a xs → Calls Tryz.prog 94 #[.string asks, .slice a xs.length cap] w fun e w' => LkP w ys e w') := hide hlk
  have HD : Hid (∀ (w : World) (a : Option Addr) (cap : Nat), Tb w → ValsAt w a ys → Calls Tryz.prog fn #[.slice a ys.length cap] w fun e w' => e = .returned (vV k i t) ∧ Below w.heap.size w w') := hide hd
  clear hf hg hy hlk hd
  unfold LkP at HL
  generalize ys.length = leny at *
  replace HT := hide HT
  replace hv := hide hv
  clear hl
  generalize xs.length = len at *
  go_enter Tryz.func17, Tryz.ntmps17
  try simp only [List.append]
  go_wp2_with fail
  refine (HF.out _ _ _ ((hv.out.alloc _).alloc _)).mono ?_
  rintro e w1 ⟨rfl, hb1⟩
  have rr := hide (((R2.new w (.string asks) (.func (.func fn) #[] #[]) 47).alloc _).keep hb1)
  replace hv := hide (((hv.out.alloc _).alloc _).keep hb1)
  replace HT := hide (((HT.out.alloc _).alloc _).keep hb1)
  have B1 := hide (next (step (step (Below.refl w.heap.size w) _) _) hb1)
  have cr := hide ((O3.new (w.alloc _) (.int .i64 0) (.int .i64 0) (.string no) 30).keep hb1)
  simp only [World.size_alloc] at cr
  replace cr := hide ((cr.out.alloc (vO 0 0 no)))
  replace rr := hide ((rr.out.alloc (vO 0 0 no)))
  replace hv := hide ((hv.out.alloc (vO 0 0 no)))
  replace HT := hide ((HT.out.alloc (vO 0 0 no)))
  have rr0 := rr.out.1
  go_wp2_with fail
  refine (HL.out _ _ _ HT.out.1 hv.out).mono ?_
  intro e w2 hh
  obtain ⟨a2, cap2, rfl, hv2, hb2⟩ := hh
  replace hv2 := hide hv2
  clear rr0
  have B2 := hide (next (step (B1.out) (vO 0 0 no)) hb2)
  replace cr := hide (cr.out.keep hb2)
  replace rr := hide (rr.out.keep hb2)
  replace hv := hide (hv.out.keep hb2)
  replace HT := hide (HT.out.keep hb2)
  go_wp2_with fail
  refine (HG.out _ _ _ hv2.out).mono ?_
  rintro e w3 ⟨rfl, hb3⟩
  replace hv2 := hide (hv2.out.keep hb3)
  have B3 := hide (next (B2.out) hb3)
  replace cr := hide (cr.out.keep hb3)
  replace rr := hide (rr.out.keep hb3)
  replace hv := hide (hv.out.keep hb3)
  replace HT := hide (HT.out.keep hb3)
  replace cr := hide ((cr.out.alloc (vO 0 0 no)))
  replace rr := hide ((rr.out.alloc (vO 0 0 no)))
  replace hv := hide ((hv.out.alloc (vO 0 0 no)))
  replace HT := hide ((HT.out.alloc (vO 0 0 no)))
  replace hv2 := hide ((hv2.out.alloc (vO 0 0 no)))
  have rr1 := rr.out.2
  go_wp2_with fail
  refine (HD.out _ _ _ HT.out hv2.out).mono ?_
  rintro e w4 ⟨rfl, hb4⟩
  clear rr1
  have B4 := hide (next (step (B3.out) (vO 0 0 no)) hb4)
  replace cr := hide (cr.out.keep hb4)
  replace rr := hide (rr.out.keep hb4)
  replace hv := hide (hv.out.keep hb4)
  replace HT := hide (HT.out.keep hb4)
  replace hv2 := hide (hv2.out.keep hb4)
  have cru20 := cr.out.1.1
  have cru21 := cr.out.1.2.1
  have cru22 := cr.out.1.2.2
  have cru2f := cr.out.2
  have Bq1 := hide (below_put3 (b := w.heap.size + 1) (B4.out) (by omega) (.int .i64 k) (.int .i64 i) (.string t))
  replace cr := hide (cr.out.put (.int .i64 k) (.int .i64 i) (.string t))
  obtain ⟨wq1, hwq1⟩ : ∃ wq1, put3 (w4) (w.heap.size + 1) (.int .i64 k) (.int .i64 i) (.string t) = wq1 := ⟨_, rfl⟩
  rw [hwq1] at Bq1 cr
  unfold put3 at hwq1
  have cru30 := cr.out.1.1
  have cru31 := cr.out.1.2.1
  have cru32 := cr.out.1.2.2
  go_wp2_with fail
  refine bodyPost_ret (by simp [results, Tryz.results17, go_sem, cru30, cru31, cru32]; try rfl) rfl ?_
  exact ⟨rfl, Bq1.out⟩
/-- What a function of class scalar comes to. -/
def scV (xs ys : List Va) (out : Va) : Va := match fe xs with | some e => e | none => match fe ys with | some e => e | none => out
theorem scalar_any (asks : ByteArray) (fn : Nat) (xs ys : List Va) (out : Va) (a : Option Addr) (cap : Nat) (w : World) (HT : Tb w) (hv : ValsAt w a xs) (hl : xs.length ≤ maxLen) (hlk : fe xs = none → LookIs asks xs ys) (hy : ys.length ≤ maxLen) (hd : fe xs = none → fe ys = none → DoIs fn ys out) (hent : ∀ args w, (callFunc fn args).run Tryz.prog w = .ok (.enter fn args) w) :
    Calls Tryz.prog 17 #[.agg #[.string asks, .func (.func fn) #[] #[]], .slice a xs.length cap] w fun e w' => e = .returned (scV xs ys out).v ∧ Below w.heap.size w w' := by
  cases h : fe xs with
  | some e =>
    have hs : scV xs ys out = e := by unfold scV; rw [h]
    rw [hs]
    exact scalar_e1 asks fn xs a cap w HT hv hl e.k e.i e.t h
  | none =>
    cases g : fe ys with
    | some e =>
      have hs : scV xs ys out = e := by unfold scV; rw [h, g]
      rw [hs]
      exact scalar_e2 asks fn xs a cap w HT hv hl ys h (hlk h) hy e.k e.i e.t g
    | none =>
      have hs : scV xs ys out = out := by unfold scV; rw [h, g]
      rw [hs]
      exact scalar_do asks fn xs a cap w HT hv hl ys h (hlk h) hy g out.k out.i out.t (hd h g) hent
end Go.Proofs.YtgnmkhjilecdhaaGreatDoor
