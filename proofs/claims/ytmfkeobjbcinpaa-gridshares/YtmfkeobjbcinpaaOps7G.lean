/- What New, has, Get, Len, Set and Drop of a table of things of type quadrillelaw7.thing do. Proved of the Go text. -/
import Derived.Test.YtmfkeobjbcinpaaTabAt7
import Derived.BigRegion
namespace Go.Proofs.Ytmfkeobjbcinpaa
open Go.RowKit Go.Maps
set_option linter.unusedVariables false

abbrev thingV (x : Int) (a : Option Addr) (m k : Nat) (p : Option Addr) : Value := .agg #[.int .i64 x, .slice a m k, .pointer p]
def IsThing (v : Value) : Prop := ∃ x a m k p, v = thingV x a m k p
abbrev thingO (x0 x1 x2 : Value) : Obj := .cells #[x0, x1, x2] 62
theorem zeroG (w : World) : (zeroValue 62).run Try.prog w = .ok (.agg #[.int .i64 0, .slice none 0 0, .pointer none]) w := by kernel_rfl
set_option maxHeartbeats 1000000 in
theorem newG_any (w : World) : Calls Try.prog 20 #[] w fun e w' => ∃ Bt b, e = .returned (.pointer (some ⟨Bt, 0, none⟩)) ∧ w.heap.size ≤ Bt ∧ w.heap.size ≤ b ∧ TabAt w' 108 Bt b [] ∧ Below w.heap.size w w' := by
  have hmm := @run_makeMap Try.prog
  go_enter Try.func20, Try.ntmps20
  go_wp2_with fail
  go_ret
  have hn := Blk.new (w.alloc (.map #[] 0)) #[.map (some w.heap.size)] 108
  rw [World.size_alloc] at hn
  exact ⟨_, _, rfl, Nat.le_succ _, Nat.le_refl _, ⟨hn, (Tab.new w).alloc _⟩, by go_grown⟩
set_option maxHeartbeats 1000000 in
theorem lenG_any {w : World} {Bt b : Nat} {L : Tb Value} (h : TabAt w 108 Bt b L) : Calls Try.prog 26 #[.pointer (some ⟨Bt, 0, none⟩)] w fun e w' => e = .returned (.int .i64 L.length) ∧ w' = w := by
  have c0 := h.1.c1
  have hl := fun ty => Tab.len Try.underlying106 h.2 ty
  go_enter Try.func26, Try.ntmps26
  go_wp2_with fail
  go_ret
  exact ⟨rfl, rfl⟩
set_option maxRecDepth 100000 in
set_option maxHeartbeats 4000000 in
theorem hasG_any {w : World} {Bt b : Nat} {L : Tb Value} {r c : Int} (h : TabAt w 108 Bt b L) (hr : wfI r) (hc : wfI c) (hthing : IsThing ((getT L (r, c)).getD (.agg #[.int .i64 0, .slice none 0 0, .pointer none]))) :
    Calls Try.prog 56 #[.pointer (some ⟨Bt, 0, none⟩), spotV r c] w fun e w' => e = .returned (.bool (hasT L (r, c))) ∧ Below w.heap.size w w' := by
  have c0 := h.1.c1
  have c1 := fun o => (h.1.alloc o).c1
  have c2 := fun o o' => ((h.1.alloc o).alloc o').c1
  have hl := Tab.look true Try.underlying106 (zeroG ((w.alloc (spotO r c)).drew)) (h.2.alloc (spotO r c)).drew hr hc
  have hl' := Tab.look true Try.underlying106 (zeroG (((w.alloc (spotO r c)).alloc (thingO (.int .i64 0) (.slice none 0 0) (.pointer none))).drew)) ((h.2.alloc (spotO r c)).alloc _).drew hr hc
  simp only [if_true] at hl hl'
  generalize hv : (getT L (r, c)).getD (.agg #[.int .i64 0, .slice none 0 0, .pointer none]) = v at hl hl'
  obtain ⟨x, a, m, k, p, rfl⟩ : IsThing v := hv ▸ hthing
  generalize hasT L (r, c) = q at hl hl' ⊢
  clear hv h
  go_enter Try.func56, Try.ntmps56
  go_wp2_with fail
  go_region
  all_goals
    go_wp2_with fail
    go_ret
    exact ⟨rfl, by go_grown⟩
set_option maxRecDepth 100000 in
set_option maxHeartbeats 4000000 in
theorem getG_any {w : World} {Bt b : Nat} {L : Tb Value} {r c : Int} (h : TabAt w 108 Bt b L) (hr : wfI r) (hc : wfI c) (hthing : IsThing ((getT L (r, c)).getD (.agg #[.int .i64 0, .slice none 0 0, .pointer none]))) :
    Calls Try.prog 24 #[.pointer (some ⟨Bt, 0, none⟩), spotV r c] w fun e w' => e = .returned (.tuple #[(getT L (r, c)).getD (.agg #[.int .i64 0, .slice none 0 0, .pointer none]), .bool (hasT L (r, c))]) ∧ Below w.heap.size w w' := by
  have c0 := h.1.c1
  have c1 := fun o => (h.1.alloc o).c1
  have c3 := fun o o' o2 => (((h.1.alloc o).alloc o').alloc o2).c1
  have c2 := fun o o' => ((h.1.alloc o).alloc o').c1
  have hl := Tab.look true Try.underlying106 (zeroG (((w.alloc (spotO r c)).alloc (thingO (.int .i64 0) (.slice none 0 0) (.pointer none))).drew)) ((h.2.alloc (spotO r c)).alloc (thingO (.int .i64 0) (.slice none 0 0) (.pointer none))).drew hr hc
  have hl' := Tab.look true Try.underlying106 (zeroG ((((w.alloc (spotO r c)).alloc (thingO (.int .i64 0) (.slice none 0 0) (.pointer none))).alloc (thingO (.int .i64 0) (.slice none 0 0) (.pointer none))).drew)) (((h.2.alloc (spotO r c)).alloc (thingO (.int .i64 0) (.slice none 0 0) (.pointer none))).alloc (thingO (.int .i64 0) (.slice none 0 0) (.pointer none))).drew hr hc
  simp only [if_true] at hl hl'
  generalize hv : (getT L (r, c)).getD (.agg #[.int .i64 0, .slice none 0 0, .pointer none]) = v at hl hl' ⊢
  obtain ⟨x, a, m, k, p, rfl⟩ : IsThing v := hv ▸ hthing
  generalize hasT L (r, c) = q at hl hl' ⊢
  clear hv h
  go_enter Try.func24, Try.ntmps24
  go_wp2_with fail
  go_region
  all_goals
    go_wp2_with fail
    refine bodyPost_ret (by simp [results, Try.results24, go_sem]; try rfl) rfl ?_
    exact ⟨rfl, by go_grown⟩
theorem thing_get {L : Tb Value} (h : ∀ p ∈ L, IsThing p.2) (s : Sp) : IsThing ((getT L s).getD (.agg #[.int .i64 0, .slice none 0 0, .pointer none])) := by
  cases hg : getT L s with
  | none => exact ⟨0, none, 0, 0, none, rfl⟩
  | some v => exact h _ (getT_some hg)
theorem Blk.c3 {W : World} {B : Nat} {v0 v1 v2 : Value} {t : TypeId} (h : Blk W B #[v0, v1, v2] t) : W.cell? ⟨B, 0, none⟩ = some v0 ∧ W.cell? ⟨B, 1, none⟩ = some v1 ∧ W.cell? ⟨B, 2, none⟩ = some v2 := by refine ⟨?_, ?_, ?_⟩ <;> simp [World.cell?, show W.heap[B]? = _ from h]
set_option maxHeartbeats 1000000 in
theorem setG_no {w : World} {Bt b : Nat} {L : Tb Value} {r c : Int} {x : Int} {a : Option Addr} {m k : Nat} {p : Option Addr} (h : TabAt w 108 Bt b L) (hm : mayB r c = false) :
    Calls Try.prog 22 #[.pointer (some ⟨Bt, 0, none⟩), spotV r c, thingV x a m k p] w fun e w' => e = .returned (.int .i64 10) ∧ Below w.heap.size w w' := by
  have HM := hide (may_any r c)
  rw [hm] at HM
  go_enter Try.func22, Try.ntmps22
  go_wp2_with fail
  refine (HM.out _).mono ?_
  rintro e w' ⟨rfl, rfl⟩
  go_wp2_with fail
  go_ret
  exact ⟨rfl, by go_grown⟩
set_option maxRecDepth 100000 in
set_option maxHeartbeats 1000000 in
theorem setG_full {w : World} {Bt b : Nat} {L : Tb Value} {r c : Int} {x : Int} {a : Option Addr} {m k : Nat} {p : Option Addr} (h : TabAt w 108 Bt b L) (hT : ∀ p ∈ L, IsThing p.2) (hm : mayB r c = true) (hh : hasT L (r, c) = false) (hf : 65536 ≤ (L.length : Int)) :
    Calls Try.prog 22 #[.pointer (some ⟨Bt, 0, none⟩), spotV r c, thingV x a m k p] w fun e w' => e = .returned (.int .i64 4) ∧ Below w.heap.size w w' := by
  have HM := hide (may_any r c)
  rw [hm] at HM
  have HH := hide (fun w' (h' : TabAt w' 108 Bt b L) => hasG_any h' (may_wf hm).1 (may_wf hm).2 (thing_get hT _))
  rw [hh] at HH
  have h1 := hide (((h.alloc (spotO r c)).alloc (thingO (.int .i64 x) (.slice a m k) (.pointer p))).alloc (spotO r c))
  have s0 := hide (((Blk.new w #[.int .i64 r, .int .i64 c] 35).alloc (thingO (.int .i64 x) (.slice a m k) (.pointer p))).alloc (spotO r c))
  have t0 := hide ((Blk.new (w.alloc (spotO r c)) #[.int .i64 x, .slice a m k, .pointer p] 62).alloc (spotO r c))
  simp only [World.size_alloc] at t0
  have B1 := hide (step (step (step (Below.refl w.heap.size w) (spotO r c)) (thingO (.int .i64 x) (.slice a m k) (.pointer p))) (spotO r c))
  clear h
  go_enter Try.func22, Try.ntmps22
  go_wp2_with fail
  refine (HM.out _).mono ?_
  rintro e w' ⟨rfl, rfl⟩
  obtain ⟨a0, a1⟩ := s0.out.c2
  go_wp2_with fail
  refine (HH.out _ h1.out).mono ?_
  rintro e w2 ⟨rfl, hb2⟩
  have h2 := hide (h1.out.keep hb2)
  have s2 := hide (s0.out.keep hb2)
  have t2 := hide (t0.out.keep hb2)
  have B2 := hide (next B1.out hb2)
  clear a0 a1 h1 s0 t0 B1 hb2
  go_wp2_with fail
  refine (lenG_any h2.out).mono ?_
  rintro e w' ⟨rfl, rfl⟩
  generalize hn : (L.length : Int) = n at hf ⊢
  clear hn
  go_wp2_with fail
  go_ret
  exact ⟨rfl, B2.out⟩
set_option maxRecDepth 100000 in
set_option maxHeartbeats 1000000 in
theorem setG_has {w : World} {Bt b : Nat} {L : Tb Value} {r c : Int} {x : Int} {a : Option Addr} {m k : Nat} {p : Option Addr} (h : TabAt w 108 Bt b L) (hT : ∀ p ∈ L, IsThing p.2) (hm : mayB r c = true) (hh : hasT L (r, c) = true) :
    Calls Try.prog 22 #[.pointer (some ⟨Bt, 0, none⟩), spotV r c, thingV x a m k p] w fun e w' => e = .returned (.int .i64 0) ∧ TabAt w' 108 Bt b (insT L (r, c) (thingV x a m k p)) ∧ w.grownBy w' (some b) := by
  have HM := hide (may_any r c)
  rw [hm] at HM
  have HH := hide (fun w' (h' : TabAt w' 108 Bt b L) => hasG_any h' (may_wf hm).1 (may_wf hm).2 (thing_get hT _))
  rw [hh] at HH
  have h1 := hide (((h.alloc (spotO r c)).alloc (thingO (.int .i64 x) (.slice a m k) (.pointer p))).alloc (spotO r c))
  have s0 := hide (((Blk.new w #[.int .i64 r, .int .i64 c] 35).alloc (thingO (.int .i64 x) (.slice a m k) (.pointer p))).alloc (spotO r c))
  have t0 := hide ((Blk.new (w.alloc (spotO r c)) #[.int .i64 x, .slice a m k, .pointer p] 62).alloc (spotO r c))
  simp only [World.size_alloc] at t0
  have B1 := hide (step (step (step (Below.refl w.heap.size w) (spotO r c)) (thingO (.int .i64 x) (.slice a m k) (.pointer p))) (spotO r c))
  clear h
  go_enter Try.func22, Try.ntmps22
  go_wp2_with fail
  refine (HM.out _).mono ?_
  rintro e w' ⟨rfl, rfl⟩
  obtain ⟨a0, a1⟩ := s0.out.c2
  go_wp2_with fail
  refine (HH.out _ h1.out).mono ?_
  rintro e w2 ⟨rfl, hb2⟩
  have h2 := hide (h1.out.keep hb2)
  have s2 := hide (s0.out.keep hb2)
  have t2 := hide (t0.out.keep hb2)
  have B2 := hide (next B1.out hb2)
  clear a0 a1 h1 s0 t0 B1 hb2
  obtain ⟨a0, a1⟩ := s2.out.c2
  obtain ⟨d0, d1, d2⟩ := t2.out.c3
  have c0 := h2.out.1.c1
  go_wp2_with fail
  refine still_tail 6 (by kernel_rfl) (by kernel_rfl) ?_
  simp only [List.take_succ_cons, List.take_zero, List.drop_succ_cons, List.drop_zero]
  repeat still_step
  refine wpStill_nil ?_
  go_wp2_with (at_mapUpdate; refine wpList_store rfl _ _ _ 106 rfl Try.underlying106 rfl h2.out.2.drew hm (thingV x a m k p) rfl rfl ?_; intro w3 t3 g3)
  go_ret
  exact ⟨rfl, ⟨h2.out.1.kept (grown_drew g3) (fun e => h2.out.ne (by cases e; rfl)), t3⟩, below_grown B2.out (grown_drew g3)⟩
set_option maxRecDepth 100000 in
set_option maxHeartbeats 1000000 in
theorem setG_room {w : World} {Bt b : Nat} {L : Tb Value} {r c : Int} {x : Int} {a : Option Addr} {m k : Nat} {p : Option Addr} (h : TabAt w 108 Bt b L) (hT : ∀ p ∈ L, IsThing p.2) (hm : mayB r c = true) (hh : hasT L (r, c) = false) (hf : (L.length : Int) < 65536) :
    Calls Try.prog 22 #[.pointer (some ⟨Bt, 0, none⟩), spotV r c, thingV x a m k p] w fun e w' => e = .returned (.int .i64 0) ∧ TabAt w' 108 Bt b (insT L (r, c) (thingV x a m k p)) ∧ w.grownBy w' (some b) := by
  have HM := hide (may_any r c)
  rw [hm] at HM
  have HH := hide (fun w' (h' : TabAt w' 108 Bt b L) => hasG_any h' (may_wf hm).1 (may_wf hm).2 (thing_get hT _))
  rw [hh] at HH
  have h1 := hide (((h.alloc (spotO r c)).alloc (thingO (.int .i64 x) (.slice a m k) (.pointer p))).alloc (spotO r c))
  have s0 := hide (((Blk.new w #[.int .i64 r, .int .i64 c] 35).alloc (thingO (.int .i64 x) (.slice a m k) (.pointer p))).alloc (spotO r c))
  have t0 := hide ((Blk.new (w.alloc (spotO r c)) #[.int .i64 x, .slice a m k, .pointer p] 62).alloc (spotO r c))
  simp only [World.size_alloc] at t0
  have B1 := hide (step (step (step (Below.refl w.heap.size w) (spotO r c)) (thingO (.int .i64 x) (.slice a m k) (.pointer p))) (spotO r c))
  clear h
  go_enter Try.func22, Try.ntmps22
  go_wp2_with fail
  refine (HM.out _).mono ?_
  rintro e w' ⟨rfl, rfl⟩
  obtain ⟨a0, a1⟩ := s0.out.c2
  go_wp2_with fail
  refine (HH.out _ h1.out).mono ?_
  rintro e w2 ⟨rfl, hb2⟩
  have h2 := hide (h1.out.keep hb2)
  have s2 := hide (s0.out.keep hb2)
  have t2 := hide (t0.out.keep hb2)
  have B2 := hide (next B1.out hb2)
  clear a0 a1 h1 s0 t0 B1 hb2
  go_wp2_with fail
  refine (lenG_any h2.out).mono ?_
  rintro e w' ⟨rfl, rfl⟩
  generalize hn : (L.length : Int) = n at hf ⊢
  clear hn
  obtain ⟨a0, a1⟩ := s2.out.c2
  obtain ⟨d0, d1, d2⟩ := t2.out.c3
  have c0 := h2.out.1.c1
  go_wp2_with fail
  refine still_tail 6 (by kernel_rfl) (by kernel_rfl) ?_
  simp only [List.take_succ_cons, List.take_zero, List.drop_succ_cons, List.drop_zero]
  repeat still_step
  refine wpStill_nil ?_
  go_wp2_with (at_mapUpdate; refine wpList_store rfl _ _ _ 106 rfl Try.underlying106 rfl h2.out.2.drew hm (thingV x a m k p) rfl rfl ?_; intro w3 t3 g3)
  go_ret
  exact ⟨rfl, ⟨h2.out.1.kept (grown_drew g3) (fun e => h2.out.ne (by cases e; rfl)), t3⟩, below_grown B2.out (grown_drew g3)⟩
end Go.Proofs.Ytmfkeobjbcinpaa
