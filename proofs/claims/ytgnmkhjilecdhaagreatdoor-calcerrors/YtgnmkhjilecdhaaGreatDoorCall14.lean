/- calc.Call: what it answers, by what its callees answer. Proved of the Go text. -/
import Derived.Test.YtgnmkhjilecdhaaGreatDoorSc14
import Derived.Test.YtgnmkhjilecdhaaGreatDoorK9J
namespace Go.Proofs.YtgnmkhjilecdhaaGreatDoor
open Go.RowKit Go.Sort
set_option linter.unusedVariables false

/-- The four cells of what is told of a function. -/
def F4 (w : World) (b : Nat) (nm : ByteArray) (c mn mx : Int) : Prop := w.cell? ⟨b, 0, none⟩ = some (.string nm) ∧ w.cell? ⟨b, 1, none⟩ = some (.int .i64 c) ∧ w.cell? ⟨b, 2, none⟩ = some (.int .i64 mn) ∧ w.cell? ⟨b, 3, none⟩ = some (.int .i64 mx)
theorem F4.keep {w w' : World} {b : Nat} {nm : ByteArray} {c mn mx : Int} (h : F4 w b nm c mn mx) (hb : Below w.heap.size w w') : F4 w' b nm c mn mx := ⟨keep1 hb h.1, keep1 hb h.2.1, keep1 hb h.2.2.1, keep1 hb h.2.2.2⟩
theorem F4.new (w : World) (nm : ByteArray) (c mn mx : Int) (t : TypeId) : F4 (w.alloc (.cells #[.string nm, .int .i64 c, .int .i64 mn, .int .i64 mx] t)) w.heap.size nm c mn mx := by refine ⟨?_, ?_, ?_, ?_⟩ <;> go_simp
/-- What list.Info answers. -/
abbrev InfoIs (f : Int) (nm : ByteArray) (c mn mx e : Int) : Prop := CallIs 5 #[.int .i64 f] (.tuple #[.agg #[.string nm, .int .i64 c, .int .i64 mn, .int .i64 mx], .int .i64 e])
theorem info_bad (f : Int) (h : ¬ (1 ≤ f ∧ f ≤ 76)) : InfoIs f no 0 0 0 1 := fun w => T9.info_no f h w
set_option maxHeartbeats 4000000 in
set_option maxRecDepth 100000 in
theorem call_none (f : Int) (xs : List Va) (a : Option Addr) (cap : Nat) (w : World) (HT : Tb w) (hv : ValsAt w a xs) (hl : xs.length ≤ maxLen) (HI : InfoIs f no 0 0 0 1) : Calls Tryz.prog 6 #[.int .i64 f, .slice a xs.length cap] w fun e w' => e = .returned (.tuple #[vV 0 0 no, .int .i64 1]) ∧ Below w.heap.size w w' := by
  obtain ⟨len, hlen⟩ : ∃ len, len = xs.length := ⟨_, rfl⟩
  rw [← hlen] at hl ⊢
  replace hl := hide hl
  replace hlen := hide hlen
  replace HT := hide HT
  replace hv := hide hv
  have B0 := hide (step (Below.refl w.heap.size w) (vO 0 0 no))
  have C0 := O3.new w (.int .i64 0) (.int .i64 0) (.string no) 30
  go_enter Tryz.func6, Tryz.ntmps6
  go_wp2_with fail
  refine (HI.out _).mono ?_
  rintro e w1 ⟨rfl, hb1⟩
  have B2 := hide (step (next B0.out hb1) (.cells #[.string no, .int .i64 0, .int .i64 0, .int .i64 0] 25))
  have C2 := hide ((C0.keep hb1).alloc (.cells #[.string no, .int .i64 0, .int .i64 0, .int .i64 0] 25))
  have t2 := hide (F4.new w1 no 0 0 0 25)
  clear hb1 B0 C0
  have z0 := C2.out.1.1
  have z1 := C2.out.1.2.1
  have z2 := C2.out.1.2.2
  have zf := C2.out.2
  have Bp := hide (below_put3 (b := w.heap.size) B2.out (Nat.le_refl _) (.int .i64 0) (.int .i64 0) (.string no))
  have Cp := C2.out.put (.int .i64 0) (.int .i64 0) (.string no)
  obtain ⟨wp, hwp⟩ : ∃ wp, put3 (w1.alloc (.cells #[.string no, .int .i64 0, .int .i64 0, .int .i64 0] 25)) w.heap.size (.int .i64 0) (.int .i64 0) (.string no) = wp := ⟨_, rfl⟩
  rw [hwp] at Bp Cp
  unfold put3 at hwp
  have y0 := Cp.1.1
  have y1 := Cp.1.2.1
  have y2 := Cp.1.2.2
  clear Cp
  go_wp2_with fail
  refine bodyPost_ret (by simp [results, Tryz.results6, go_sem, y0, y1, y2]; try rfl) rfl ?_
  exact ⟨rfl, Bp.out⟩
set_option maxHeartbeats 4000000 in
set_option maxRecDepth 100000 in
theorem call_class (f : Int) (xs : List Va) (a : Option Addr) (cap : Nat) (w : World) (HT : Tb w) (hv : ValsAt w a xs) (hl : xs.length ≤ maxLen) (nm : ByteArray) (c mn mx : Int) (HI : InfoIs f nm c mn mx 0) (hc : ¬ (c = 1 ∨ c = 2)) : Calls Tryz.prog 6 #[.int .i64 f, .slice a xs.length cap] w fun e w' => e = .returned (.tuple #[vV 0 0 no, .int .i64 1]) ∧ Below w.heap.size w w' := by
  have HO : CallIs 15 #[.int .i64 c] (.bool false) := by have := isOfOne_is c; rwa [decide_eq_false hc] at this
  obtain ⟨len, hlen⟩ : ∃ len, len = xs.length := ⟨_, rfl⟩
  rw [← hlen] at hl ⊢
  replace hl := hide hl
  replace hlen := hide hlen
  replace HT := hide HT
  replace hv := hide hv
  have B0 := hide (step (Below.refl w.heap.size w) (vO 0 0 no))
  have C0 := O3.new w (.int .i64 0) (.int .i64 0) (.string no) 30
  go_enter Tryz.func6, Tryz.ntmps6
  go_wp2_with fail
  refine (HI.out _).mono ?_
  rintro e w1 ⟨rfl, hb1⟩
  have B2 := hide (step (next B0.out hb1) (.cells #[.string nm, .int .i64 c, .int .i64 mn, .int .i64 mx] 25))
  have C2 := hide ((C0.keep hb1).alloc (.cells #[.string nm, .int .i64 c, .int .i64 mn, .int .i64 mx] 25))
  have t2 := hide (F4.new w1 nm c mn mx 25)
  clear hb1 B0 C0
  obtain ⟨w2, hw2⟩ : ∃ w2, w1.alloc (.cells #[.string nm, .int .i64 c, .int .i64 mn, .int .i64 mx] 25) = w2 := ⟨_, rfl⟩
  rw [hw2] at B2 C2 t2
  have t1 := t2.out.2.1
  go_wp2_with fail
  clear hw2
  refine (HO.out _).mono ?_
  rintro e w3 ⟨rfl, hb3⟩
  have B3 := hide (next B2.out hb3)
  have C3 := hide (C2.out.keep hb3)
  have t3 := hide (t2.out.keep hb3)
  clear hb3 t1 B2 C2 t2
  have z0 := C3.out.1.1
  have z1 := C3.out.1.2.1
  have z2 := C3.out.1.2.2
  have zf := C3.out.2
  have Bp := hide (below_put3 (b := w.heap.size) B3.out (Nat.le_refl _) (.int .i64 0) (.int .i64 0) (.string no))
  have Cp := C3.out.put (.int .i64 0) (.int .i64 0) (.string no)
  obtain ⟨wp, hwp⟩ : ∃ wp, put3 (w3) w.heap.size (.int .i64 0) (.int .i64 0) (.string no) = wp := ⟨_, rfl⟩
  rw [hwp] at Bp Cp
  unfold put3 at hwp
  have y0 := Cp.1.1
  have y1 := Cp.1.2.1
  have y2 := Cp.1.2.2
  clear Cp
  go_wp2_with fail
  refine bodyPost_ret (by simp [results, Tryz.results6, go_sem, y0, y1, y2]; try rfl) rfl ?_
  exact ⟨rfl, Bp.out⟩
set_option maxHeartbeats 4000000 in
set_option maxRecDepth 100000 in
theorem call_few (f : Int) (xs : List Va) (a : Option Addr) (cap : Nat) (w : World) (HT : Tb w) (hv : ValsAt w a xs) (hl : xs.length ≤ maxLen) (nm : ByteArray) (c mn mx : Int) (HI : InfoIs f nm c mn mx 0) (hc : c = 1 ∨ c = 2) (hmn : (xs.length : Int) < mn) : Calls Tryz.prog 6 #[.int .i64 f, .slice a xs.length cap] w fun e w' => e = .returned (.tuple #[vV 0 0 no, .int .i64 1]) ∧ Below w.heap.size w w' := by
  have HO : CallIs 15 #[.int .i64 c] (.bool true) := by have := isOfOne_is c; rwa [decide_eq_true hc] at this
  obtain ⟨len, hlen⟩ : ∃ len, len = xs.length := ⟨_, rfl⟩
  rw [← hlen] at hl ⊢
  replace hl := hide hl
  rw [← hlen] at hmn
  replace hlen := hide hlen
  replace HT := hide HT
  replace hv := hide hv
  have B0 := hide (step (Below.refl w.heap.size w) (vO 0 0 no))
  have C0 := O3.new w (.int .i64 0) (.int .i64 0) (.string no) 30
  go_enter Tryz.func6, Tryz.ntmps6
  go_wp2_with fail
  refine (HI.out _).mono ?_
  rintro e w1 ⟨rfl, hb1⟩
  have B2 := hide (step (next B0.out hb1) (.cells #[.string nm, .int .i64 c, .int .i64 mn, .int .i64 mx] 25))
  have C2 := hide ((C0.keep hb1).alloc (.cells #[.string nm, .int .i64 c, .int .i64 mn, .int .i64 mx] 25))
  have t2 := hide (F4.new w1 nm c mn mx 25)
  clear hb1 B0 C0
  obtain ⟨w2, hw2⟩ : ∃ w2, w1.alloc (.cells #[.string nm, .int .i64 c, .int .i64 mn, .int .i64 mx] 25) = w2 := ⟨_, rfl⟩
  rw [hw2] at B2 C2 t2
  have t1 := t2.out.2.1
  go_wp2_with fail
  clear hw2
  refine (HO.out _).mono ?_
  rintro e w3 ⟨rfl, hb3⟩
  have B3 := hide (next B2.out hb3)
  have C3 := hide (C2.out.keep hb3)
  have t3 := hide (t2.out.keep hb3)
  clear hb3 t1 B2 C2 t2
  have t22 := t3.out.2.2.1
  have z0 := C3.out.1.1
  have z1 := C3.out.1.2.1
  have z2 := C3.out.1.2.2
  have zf := C3.out.2
  have Bp := hide (below_put3 (b := w.heap.size) B3.out (Nat.le_refl _) (.int .i64 0) (.int .i64 0) (.string no))
  have Cp := C3.out.put (.int .i64 0) (.int .i64 0) (.string no)
  obtain ⟨wp, hwp⟩ : ∃ wp, put3 (w3) w.heap.size (.int .i64 0) (.int .i64 0) (.string no) = wp := ⟨_, rfl⟩
  rw [hwp] at Bp Cp
  unfold put3 at hwp
  have y0 := Cp.1.1
  have y1 := Cp.1.2.1
  have y2 := Cp.1.2.2
  clear Cp
  go_wp2_with fail
  refine bodyPost_ret (by simp [results, Tryz.results6, go_sem, y0, y1, y2]; try rfl) rfl ?_
  exact ⟨rfl, Bp.out⟩
set_option maxHeartbeats 4000000 in
set_option maxRecDepth 100000 in
theorem call_many (f : Int) (xs : List Va) (a : Option Addr) (cap : Nat) (w : World) (HT : Tb w) (hv : ValsAt w a xs) (hl : xs.length ≤ maxLen) (nm : ByteArray) (c mn mx : Int) (HI : InfoIs f nm c mn mx 0) (hc : c = 1 ∨ c = 2) (hmn : ¬ (xs.length : Int) < mn) (hmx : mx < (xs.length : Int)) : Calls Tryz.prog 6 #[.int .i64 f, .slice a xs.length cap] w fun e w' => e = .returned (.tuple #[vV 0 0 no, .int .i64 1]) ∧ Below w.heap.size w w' := by
  have HO : CallIs 15 #[.int .i64 c] (.bool true) := by have := isOfOne_is c; rwa [decide_eq_true hc] at this
  obtain ⟨len, hlen⟩ : ∃ len, len = xs.length := ⟨_, rfl⟩
  rw [← hlen] at hl ⊢
  replace hl := hide hl
  rw [← hlen] at hmn hmx
  replace hlen := hide hlen
  replace HT := hide HT
  replace hv := hide hv
  have B0 := hide (step (Below.refl w.heap.size w) (vO 0 0 no))
  have C0 := O3.new w (.int .i64 0) (.int .i64 0) (.string no) 30
  go_enter Tryz.func6, Tryz.ntmps6
  go_wp2_with fail
  refine (HI.out _).mono ?_
  rintro e w1 ⟨rfl, hb1⟩
  have B2 := hide (step (next B0.out hb1) (.cells #[.string nm, .int .i64 c, .int .i64 mn, .int .i64 mx] 25))
  have C2 := hide ((C0.keep hb1).alloc (.cells #[.string nm, .int .i64 c, .int .i64 mn, .int .i64 mx] 25))
  have t2 := hide (F4.new w1 nm c mn mx 25)
  clear hb1 B0 C0
  obtain ⟨w2, hw2⟩ : ∃ w2, w1.alloc (.cells #[.string nm, .int .i64 c, .int .i64 mn, .int .i64 mx] 25) = w2 := ⟨_, rfl⟩
  rw [hw2] at B2 C2 t2
  have t1 := t2.out.2.1
  go_wp2_with fail
  clear hw2
  refine (HO.out _).mono ?_
  rintro e w3 ⟨rfl, hb3⟩
  have B3 := hide (next B2.out hb3)
  have C3 := hide (C2.out.keep hb3)
  have t3 := hide (t2.out.keep hb3)
  clear hb3 t1 B2 C2 t2
  have t22 := t3.out.2.2.1
  have t23 := t3.out.2.2.2
  have z0 := C3.out.1.1
  have z1 := C3.out.1.2.1
  have z2 := C3.out.1.2.2
  have zf := C3.out.2
  have Bp := hide (below_put3 (b := w.heap.size) B3.out (Nat.le_refl _) (.int .i64 0) (.int .i64 0) (.string no))
  have Cp := C3.out.put (.int .i64 0) (.int .i64 0) (.string no)
  obtain ⟨wp, hwp⟩ : ∃ wp, put3 (w3) w.heap.size (.int .i64 0) (.int .i64 0) (.string no) = wp := ⟨_, rfl⟩
  rw [hwp] at Bp Cp
  unfold put3 at hwp
  have y0 := Cp.1.1
  have y1 := Cp.1.2.1
  have y2 := Cp.1.2.2
  clear Cp
  go_wp2_with fail
  refine bodyPost_ret (by simp [results, Tryz.results6, go_sem, y0, y1, y2]; try rfl) rfl ?_
  exact ⟨rfl, Bp.out⟩
set_option maxHeartbeats 4000000 in
set_option maxRecDepth 100000 in
theorem call_value (f : Int) (xs : List Va) (a : Option Addr) (cap : Nat) (w : World) (HT : Tb w) (hv : ValsAt w a xs) (hl : xs.length ≤ maxLen) (nm : ByteArray) (c mn mx : Int) (HI : InfoIs f nm c mn mx 0) (hc : c = 1 ∨ c = 2) (hmn : ¬ (xs.length : Int) < mn) (hmx : ¬ mx < (xs.length : Int)) (n : Nat) (hn : n < xs.length) (HM : ∀ (j : Nat) (x : Va), j < n → xs[j]? = some x → CallIs 7 #[x.v] (.bool true)) (xb : Va) (hxb : xs[n]? = some xb) (HX : CallIs 7 #[xb.v] (.bool false)) : Calls Tryz.prog 6 #[.int .i64 f, .slice a xs.length cap] w fun e w' => e = .returned (.tuple #[vV 0 0 no, .int .i64 24]) ∧ Below w.heap.size w w' := by
  replace hxb := hide hxb
  have HO : CallIs 15 #[.int .i64 c] (.bool true) := by have := isOfOne_is c; rwa [decide_eq_true hc] at this
  obtain ⟨len, hlen⟩ : ∃ len, len = xs.length := ⟨_, rfl⟩
  rw [← hlen] at hl ⊢
  replace hl := hide hl
  rw [← hlen] at hmn hmx hn
  have hnn := hide hn
  clear hn
  replace hlen := hide hlen
  replace HT := hide HT
  replace hv := hide hv
  have B0 := hide (step (Below.refl w.heap.size w) (vO 0 0 no))
  have C0 := O3.new w (.int .i64 0) (.int .i64 0) (.string no) 30
  go_enter Tryz.func6, Tryz.ntmps6
  go_wp2_with fail
  refine (HI.out _).mono ?_
  rintro e w1 ⟨rfl, hb1⟩
  have B2 := hide (step (next B0.out hb1) (.cells #[.string nm, .int .i64 c, .int .i64 mn, .int .i64 mx] 25))
  have C2 := hide ((C0.keep hb1).alloc (.cells #[.string nm, .int .i64 c, .int .i64 mn, .int .i64 mx] 25))
  have t2 := hide (F4.new w1 nm c mn mx 25)
  clear hb1 B0 C0
  obtain ⟨w2, hw2⟩ : ∃ w2, w1.alloc (.cells #[.string nm, .int .i64 c, .int .i64 mn, .int .i64 mx] 25) = w2 := ⟨_, rfl⟩
  rw [hw2] at B2 C2 t2
  have t1 := t2.out.2.1
  go_wp2_with fail
  clear hw2
  refine (HO.out _).mono ?_
  rintro e w3 ⟨rfl, hb3⟩
  have B3 := hide (next B2.out hb3)
  have C3 := hide (C2.out.keep hb3)
  have t3 := hide (t2.out.keep hb3)
  clear hb3 t1 B2 C2 t2
  replace HT := hide (HT.out.keep B3.out)
  replace hv := hide (hv.out.keep B3.out)
  have t22 := t3.out.2.2.1
  have t23 := t3.out.2.2.2
  replace HM := hide HM
  go_wp2_with fail
  clear t22 t23
  go_loopw [41] (fun q wr => ∃ j : Nat, j ≤ n ∧ q = .int .i64 j ∧ Hid (Below w3.heap.size w3 wr)) (fun q _ => len - (intOf q).toNat)
  case atStart => exact ⟨0, Nat.zero_le _, rfl, hide (Below.refl _ _)⟩
  case round =>
    obtain ⟨j, hj, rfl, HB⟩ := hrel
    have hlo := hl.out
    unfold maxLen at hlo
    have B4 := hide (next B3.out HB.out)
    by_cases hlt : j < n
    · have hnl := hnn.out
      have p0 : (j : Int) < (len : Int) := by omega
      have hj' : j < xs.length := by have := hlen.out; omega
      obtain ⟨b, off, rfl, ho⟩ : ∃ b o, a = some ⟨b, o, none⟩ ∧ ∀ (j : Nat) (x : Va), xs[j]? = some x → VaAt w3 b (o + j * 3) x := by
        rcases hv.out with h | h
        · rw [h] at hj'; cases hj'
        · exact h
      obtain ⟨x, hx⟩ : ∃ x, xs[j]? = some x := ⟨_, List.getElem?_eq_getElem hj'⟩
      obtain ⟨A0, A1, A2⟩ := (ho j x hx).keep HB.out
      have HM1 := HM.out j x hlt hx
      obtain ⟨k, i, t⟩ := x
      have wj : Hid (wrap64 ((j : Int) + 1) = (j : Int) + 1) := hide (IntWalk.wrap64_in _ ⟨by omega, by omega⟩)
      clear ho hlo hx
      go_wp2_with fail
      refine (HM1.out _).mono ?_
      rintro e w5 ⟨rfl, hb5⟩
      have HB' := hide (next (step HB.out (vO k i t)) hb5)
      clear hb5 A0 A1 A2
      go_wp2_with fail
      refine ⟨⟨j + 1, hlt, by rw [wj.out]; rfl, HB'⟩, ?_⟩
      rw [wj.out]
      have h1 : (intOf (.int .i64 ((j : Int) + 1))).toNat = j + 1 := rfl
      have h2 : (intOf (.int .i64 (j : Int))).toNat = j := rfl
      rw [h1, h2]
      omega
    · obtain rfl : j = n := by omega
      have hnl := hnn.out
      have p0 : (j : Int) < (len : Int) := by omega
      have hj' : j < xs.length := by have := hlen.out; omega
      obtain ⟨b, off, rfl, ho⟩ : ∃ b o, a = some ⟨b, o, none⟩ ∧ ∀ (j : Nat) (x : Va), xs[j]? = some x → VaAt w3 b (o + j * 3) x := by
        rcases hv.out with h | h
        · rw [h] at hj'; cases hj'
        · exact h
      obtain ⟨A0, A1, A2⟩ := (ho j xb hxb.out).keep HB.out
      obtain ⟨k, i, t⟩ := xb
      clear ho hlo
      go_wp2_with fail
      refine (HX.out _).mono ?_
      rintro e w5 ⟨rfl, hb5⟩
      have B6 := hide (next (step B4.out (vO k i t)) hb5)
      have C6 := hide (((C3.out.keep HB.out).alloc (vO k i t)).keep hb5)
      clear hb5 A0 A1 A2
      have z0 := C6.out.1.1
      have z1 := C6.out.1.2.1
      have z2 := C6.out.1.2.2
      have zf := C6.out.2
      have Bp := hide (below_put3 (b := w.heap.size) B6.out (Nat.le_refl _) (.int .i64 0) (.int .i64 0) (.string no))
      have Cp := C6.out.put (.int .i64 0) (.int .i64 0) (.string no)
      obtain ⟨wp, hwp⟩ : ∃ wp, put3 (w5) w.heap.size (.int .i64 0) (.int .i64 0) (.string no) = wp := ⟨_, rfl⟩
      rw [hwp] at Bp Cp
      unfold put3 at hwp
      have y0 := Cp.1.1
      have y1 := Cp.1.2.1
      have y2 := Cp.1.2.2
      clear Cp
      go_wp2_with fail
      refine bodyPost_ret (by simp [results, Tryz.results6, go_sem, y0, y1, y2]; try rfl) rfl ?_
      exact ⟨rfl, Bp.out⟩
set_option maxHeartbeats 4000000 in
set_option maxRecDepth 100000 in
theorem call_ask (f : Int) (xs : List Va) (a : Option Addr) (cap : Nat) (w : World) (HT : Tb w) (hv : ValsAt w a xs) (hl : xs.length ≤ maxLen) (nm : ByteArray) (mn mx : Int) (HI : InfoIs f nm 2 mn mx 0) (hmn : ¬ (xs.length : Int) < mn) (hmx : ¬ mx < (xs.length : Int)) (HM : ∀ (j : Nat) (x : Va), xs[j]? = some x → CallIs 7 #[x.v] (.bool true)) (asks : ByteArray) (fn : Nat) (HIx : ∀ w, (Instr.index 48 (.agg rcatC) (.int .i64 f)).run Tryz.prog w = .ok (.agg #[.string asks, .func (.func fn) #[] #[]]) w) (k i : Int) (t : ByteArray) (HD : Hid (∀ (w : World) (a : Option Addr) (cap : Nat), Tb w → ValsAt w a xs → Calls Tryz.prog fn #[.slice a xs.length cap] w fun e w' => e = .returned (vV k i t) ∧ Below w.heap.size w w')) (hent : ∀ args w, (callFunc fn args).run Tryz.prog w = .ok (.enter fn args) w) : Calls Tryz.prog 6 #[.int .i64 f, .slice a xs.length cap] w fun e w' => e = .returned (.tuple #[vV k i t, .int .i64 0]) ∧ Below w.heap.size w w' := by
  have HO : CallIs 15 #[.int .i64 2] (.bool true) := isOfOne_is 2
  obtain ⟨len, hlen⟩ : ∃ len, len = xs.length := ⟨_, rfl⟩
  rw [← hlen] at hl ⊢
  replace hl := hide hl
  rw [← hlen] at hmn hmx HD
  replace hlen := hide hlen
  replace HT := hide HT
  replace hv := hide hv
  have B0 := hide (step (Below.refl w.heap.size w) (vO 0 0 no))
  have C0 := O3.new w (.int .i64 0) (.int .i64 0) (.string no) 30
  go_enter Tryz.func6, Tryz.ntmps6
  go_wp2_with fail
  refine (HI.out _).mono ?_
  rintro e w1 ⟨rfl, hb1⟩
  have B2 := hide (step (next B0.out hb1) (.cells #[.string nm, .int .i64 2, .int .i64 mn, .int .i64 mx] 25))
  have C2 := hide ((C0.keep hb1).alloc (.cells #[.string nm, .int .i64 2, .int .i64 mn, .int .i64 mx] 25))
  have t2 := hide (F4.new w1 nm 2 mn mx 25)
  clear hb1 B0 C0
  obtain ⟨w2, hw2⟩ : ∃ w2, w1.alloc (.cells #[.string nm, .int .i64 2, .int .i64 mn, .int .i64 mx] 25) = w2 := ⟨_, rfl⟩
  rw [hw2] at B2 C2 t2
  have t1 := t2.out.2.1
  go_wp2_with fail
  clear hw2
  refine (HO.out _).mono ?_
  rintro e w3 ⟨rfl, hb3⟩
  have B3 := hide (next B2.out hb3)
  have C3 := hide (C2.out.keep hb3)
  have t3 := hide (t2.out.keep hb3)
  clear hb3 t1 B2 C2 t2
  replace HT := hide (HT.out.keep B3.out)
  replace hv := hide (hv.out.keep B3.out)
  have t22 := t3.out.2.2.1
  have t23 := t3.out.2.2.2
  replace HM := hide HM
  go_wp2_with fail
  clear t22 t23
  go_loopw [41] (fun q wr => ∃ j : Nat, j ≤ len ∧ q = .int .i64 j ∧ Hid (Below w3.heap.size w3 wr)) (fun q _ => len - (intOf q).toNat)
  case atStart => exact ⟨0, Nat.zero_le _, rfl, hide (Below.refl _ _)⟩
  case round =>
    obtain ⟨j, hj, rfl, HB⟩ := hrel
    have hlo := hl.out
    unfold maxLen at hlo
    have B4 := hide (next B3.out HB.out)
    by_cases hlt : j < len
    · have p0 : (j : Int) < (len : Int) := by omega
      have hj' : j < xs.length := by have := hlen.out; omega
      obtain ⟨b, off, rfl, ho⟩ : ∃ b o, a = some ⟨b, o, none⟩ ∧ ∀ (j : Nat) (x : Va), xs[j]? = some x → VaAt w3 b (o + j * 3) x := by
        rcases hv.out with h | h
        · rw [h] at hj'; cases hj'
        · exact h
      obtain ⟨x, hx⟩ : ∃ x, xs[j]? = some x := ⟨_, List.getElem?_eq_getElem hj'⟩
      obtain ⟨A0, A1, A2⟩ := (ho j x hx).keep HB.out
      have HM1 := HM.out j x hx
      obtain ⟨k, i, t⟩ := x
      have wj : Hid (wrap64 ((j : Int) + 1) = (j : Int) + 1) := hide (IntWalk.wrap64_in _ ⟨by omega, by omega⟩)
      clear ho hlo hx
      go_wp2_with fail
      refine (HM1.out _).mono ?_
      rintro e w5 ⟨rfl, hb5⟩
      have HB' := hide (next (step HB.out (vO k i t)) hb5)
      clear hb5 A0 A1 A2
      go_wp2_with fail
      refine ⟨⟨j + 1, hlt, by rw [wj.out]; rfl, HB'⟩, ?_⟩
      rw [wj.out]
      have h1 : (intOf (.int .i64 ((j : Int) + 1))).toNat = j + 1 := rfl
      have h2 : (intOf (.int .i64 (j : Int))).toNat = j := rfl
      rw [h1, h2]
      omega
    · obtain rfl : j = len := by omega
      have B5 := hide B4.out
      have C5 := hide (C3.out.keep HB.out)
      have t5 := hide (t3.out.keep HB.out)
      replace hv := hide (hv.out.keep HB.out)
      replace HT := hide (HT.out.keep HB.out)
      have HX := hide (HIx)
      clear hlo B4
      go_wp2_with fail
      refine (rows_any _).mono ?_
      rintro e w6 ⟨rfl, hb6⟩
      have HXi := HX.out
      have B7 := hide (step (next B5.out hb6) (.cells #[.string asks, .func (.func fn) #[] #[]] 47))
      have C7 := hide ((C5.out.keep hb6).alloc (.cells #[.string asks, .func (.func fn) #[] #[]] 47))
      have t7 := hide ((t5.out.keep hb6).keep ((Below.refl _ _).alloc (Nat.le_refl _) (.cells #[.string asks, .func (.func fn) #[] #[]] 47)))
      have r7 := hide (R2.new w6 (.string asks) (.func (.func fn) #[] #[]) 47)
      replace hv := hide ((hv.out.keep hb6).alloc (.cells #[.string asks, .func (.func fn) #[] #[]] 47))
      replace HT := hide ((HT.out.keep hb6).alloc (.cells #[.string asks, .func (.func fn) #[] #[]] 47))
      obtain ⟨w7, hw7⟩ : ∃ w7, w6.alloc (.cells #[.string asks, .func (.func fn) #[] #[]] 47) = w7 := ⟨_, rfl⟩
      rw [hw7] at B7 C7 t7 r7 hv HT
      have s1 := t7.out.2.1
      have s2 := r7.out.1
      have s3 := r7.out.2
      clear hb6 B5 C5 t5 HB
      go_wp2_with fail
      clear HXi
      refine (HD.out _ _ _ HT.out hv.out).mono ?_
      rintro e w8 ⟨rfl, hb8⟩
      have B8 := hide (next B7.out hb8)
      have C8 := hide (C7.out.keep hb8)
      clear hb8 s1 s2 s3 hw7
      have z0 := C8.out.1.1
      have z1 := C8.out.1.2.1
      have z2 := C8.out.1.2.2
      have zf := C8.out.2
      have Bp := hide (below_put3 (b := w.heap.size) B8.out (Nat.le_refl _) (.int .i64 k) (.int .i64 i) (.string t))
      have Cp := C8.out.put (.int .i64 k) (.int .i64 i) (.string t)
      obtain ⟨wp, hwp⟩ : ∃ wp, put3 (w8) w.heap.size (.int .i64 k) (.int .i64 i) (.string t) = wp := ⟨_, rfl⟩
      rw [hwp] at Bp Cp
      unfold put3 at hwp
      have y0 := Cp.1.1
      have y1 := Cp.1.2.1
      have y2 := Cp.1.2.2
      clear Cp
      go_wp2_with fail
      refine bodyPost_ret (by simp [results, Tryz.results6, go_sem, y0, y1, y2]; try rfl) rfl ?_
      exact ⟨rfl, Bp.out⟩
set_option maxHeartbeats 4000000 in
set_option maxRecDepth 100000 in
theorem call_sc (f : Int) (xs : List Va) (a : Option Addr) (cap : Nat) (w : World) (HT : Tb w) (hv : ValsAt w a xs) (hl : xs.length ≤ maxLen) (nm : ByteArray) (mn mx : Int) (HI : InfoIs f nm 1 mn mx 0) (hmn : ¬ (xs.length : Int) < mn) (hmx : ¬ mx < (xs.length : Int)) (HM : ∀ (j : Nat) (x : Va), xs[j]? = some x → CallIs 7 #[x.v] (.bool true)) (asks : ByteArray) (fn : Nat) (HIx : ∀ w, (Instr.index 48 (.agg rcatC) (.int .i64 f)).run Tryz.prog w = .ok (.agg #[.string asks, .func (.func fn) #[] #[]]) w) (k i : Int) (t : ByteArray) (HD : Hid (∀ (w : World) (a : Option Addr) (cap : Nat), Tb w → ValsAt w a xs → Calls Tryz.prog 17 #[.agg #[.string asks, .func (.func fn) #[] #[]], .slice a xs.length cap] w fun e w' => e = .returned (vV k i t) ∧ Below w.heap.size w w')) : Calls Tryz.prog 6 #[.int .i64 f, .slice a xs.length cap] w fun e w' => e = .returned (.tuple #[vV k i t, .int .i64 0]) ∧ Below w.heap.size w w' := by
  have HO : CallIs 15 #[.int .i64 1] (.bool true) := isOfOne_is 1
  obtain ⟨len, hlen⟩ : ∃ len, len = xs.length := ⟨_, rfl⟩
  rw [← hlen] at hl ⊢
  replace hl := hide hl
  rw [← hlen] at hmn hmx HD
  replace hlen := hide hlen
  replace HT := hide HT
  replace hv := hide hv
  have B0 := hide (step (Below.refl w.heap.size w) (vO 0 0 no))
  have C0 := O3.new w (.int .i64 0) (.int .i64 0) (.string no) 30
  go_enter Tryz.func6, Tryz.ntmps6
  go_wp2_with fail
  refine (HI.out _).mono ?_
  rintro e w1 ⟨rfl, hb1⟩
  have B2 := hide (step (next B0.out hb1) (.cells #[.string nm, .int .i64 1, .int .i64 mn, .int .i64 mx] 25))
  have C2 := hide ((C0.keep hb1).alloc (.cells #[.string nm, .int .i64 1, .int .i64 mn, .int .i64 mx] 25))
  have t2 := hide (F4.new w1 nm 1 mn mx 25)
  clear hb1 B0 C0
  obtain ⟨w2, hw2⟩ : ∃ w2, w1.alloc (.cells #[.string nm, .int .i64 1, .int .i64 mn, .int .i64 mx] 25) = w2 := ⟨_, rfl⟩
  rw [hw2] at B2 C2 t2
  have t1 := t2.out.2.1
  go_wp2_with fail
  clear hw2
  refine (HO.out _).mono ?_
  rintro e w3 ⟨rfl, hb3⟩
  have B3 := hide (next B2.out hb3)
  have C3 := hide (C2.out.keep hb3)
  have t3 := hide (t2.out.keep hb3)
  clear hb3 t1 B2 C2 t2
  replace HT := hide (HT.out.keep B3.out)
  replace hv := hide (hv.out.keep B3.out)
  have t22 := t3.out.2.2.1
  have t23 := t3.out.2.2.2
  replace HM := hide HM
  go_wp2_with fail
  clear t22 t23
  go_loopw [41] (fun q wr => ∃ j : Nat, j ≤ len ∧ q = .int .i64 j ∧ Hid (Below w3.heap.size w3 wr)) (fun q _ => len - (intOf q).toNat)
  case atStart => exact ⟨0, Nat.zero_le _, rfl, hide (Below.refl _ _)⟩
  case round =>
    obtain ⟨j, hj, rfl, HB⟩ := hrel
    have hlo := hl.out
    unfold maxLen at hlo
    have B4 := hide (next B3.out HB.out)
    by_cases hlt : j < len
    · have p0 : (j : Int) < (len : Int) := by omega
      have hj' : j < xs.length := by have := hlen.out; omega
      obtain ⟨b, off, rfl, ho⟩ : ∃ b o, a = some ⟨b, o, none⟩ ∧ ∀ (j : Nat) (x : Va), xs[j]? = some x → VaAt w3 b (o + j * 3) x := by
        rcases hv.out with h | h
        · rw [h] at hj'; cases hj'
        · exact h
      obtain ⟨x, hx⟩ : ∃ x, xs[j]? = some x := ⟨_, List.getElem?_eq_getElem hj'⟩
      obtain ⟨A0, A1, A2⟩ := (ho j x hx).keep HB.out
      have HM1 := HM.out j x hx
      obtain ⟨k, i, t⟩ := x
      have wj : Hid (wrap64 ((j : Int) + 1) = (j : Int) + 1) := hide (IntWalk.wrap64_in _ ⟨by omega, by omega⟩)
      clear ho hlo hx
      go_wp2_with fail
      refine (HM1.out _).mono ?_
      rintro e w5 ⟨rfl, hb5⟩
      have HB' := hide (next (step HB.out (vO k i t)) hb5)
      clear hb5 A0 A1 A2
      go_wp2_with fail
      refine ⟨⟨j + 1, hlt, by rw [wj.out]; rfl, HB'⟩, ?_⟩
      rw [wj.out]
      have h1 : (intOf (.int .i64 ((j : Int) + 1))).toNat = j + 1 := rfl
      have h2 : (intOf (.int .i64 (j : Int))).toNat = j := rfl
      rw [h1, h2]
      omega
    · obtain rfl : j = len := by omega
      have B5 := hide B4.out
      have C5 := hide (C3.out.keep HB.out)
      have t5 := hide (t3.out.keep HB.out)
      replace hv := hide (hv.out.keep HB.out)
      replace HT := hide (HT.out.keep HB.out)
      have HX := hide (HIx)
      clear hlo B4
      go_wp2_with fail
      refine (rows_any _).mono ?_
      rintro e w6 ⟨rfl, hb6⟩
      have HXi := HX.out
      have B7 := hide (step (next B5.out hb6) (.cells #[.string asks, .func (.func fn) #[] #[]] 47))
      have C7 := hide ((C5.out.keep hb6).alloc (.cells #[.string asks, .func (.func fn) #[] #[]] 47))
      have t7 := hide ((t5.out.keep hb6).keep ((Below.refl _ _).alloc (Nat.le_refl _) (.cells #[.string asks, .func (.func fn) #[] #[]] 47)))
      have r7 := hide (R2.new w6 (.string asks) (.func (.func fn) #[] #[]) 47)
      replace hv := hide ((hv.out.keep hb6).alloc (.cells #[.string asks, .func (.func fn) #[] #[]] 47))
      replace HT := hide ((HT.out.keep hb6).alloc (.cells #[.string asks, .func (.func fn) #[] #[]] 47))
      obtain ⟨w7, hw7⟩ : ∃ w7, w6.alloc (.cells #[.string asks, .func (.func fn) #[] #[]] 47) = w7 := ⟨_, rfl⟩
      rw [hw7] at B7 C7 t7 r7 hv HT
      have s1 := t7.out.2.1
      have s2 := r7.out.1
      have s3 := r7.out.2
      clear hb6 B5 C5 t5 HB
      go_wp2_with fail
      clear HXi
      refine (HD.out _ _ _ HT.out hv.out).mono ?_
      rintro e w8 ⟨rfl, hb8⟩
      have B8 := hide (next B7.out hb8)
      have C8 := hide (C7.out.keep hb8)
      clear hb8 s1 s2 s3 hw7
      have z0 := C8.out.1.1
      have z1 := C8.out.1.2.1
      have z2 := C8.out.1.2.2
      have zf := C8.out.2
      have Bp := hide (below_put3 (b := w.heap.size) B8.out (Nat.le_refl _) (.int .i64 k) (.int .i64 i) (.string t))
      have Cp := C8.out.put (.int .i64 k) (.int .i64 i) (.string t)
      obtain ⟨wp, hwp⟩ : ∃ wp, put3 (w8) w.heap.size (.int .i64 k) (.int .i64 i) (.string t) = wp := ⟨_, rfl⟩
      rw [hwp] at Bp Cp
      unfold put3 at hwp
      have y0 := Cp.1.1
      have y1 := Cp.1.2.1
      have y2 := Cp.1.2.2
      clear Cp
      go_wp2_with fail
      refine bodyPost_ret (by simp [results, Tryz.results6, go_sem, y0, y1, y2]; try rfl) rfl ?_
      exact ⟨rfl, Bp.out⟩
end Go.Proofs.YtgnmkhjilecdhaaGreatDoor
