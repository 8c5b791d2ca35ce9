/- What New, has, Get, Len, Set and Drop of a table of things of type string do. Proved of the Go text. -/
import Derived.Test.YtmfkeobjbcinpaaTabAt7
namespace Go.Proofs.Ytmfkeobjbcinpaa
open Go.RowKit Go.Maps
set_option linter.unusedVariables false

theorem zeroS (w : World) : (zeroValue 9).run Try.prog w = .ok (.string ⟨#[]⟩) w := by kernel_rfl
set_option maxHeartbeats 1000000 in
theorem newS_any (w : World) : Calls Try.prog 33 #[] w fun e w' => ∃ Bt b, e = .returned (.pointer (some ⟨Bt, 0, none⟩)) ∧ w.heap.size ≤ Bt ∧ w.heap.size ≤ b ∧ TabAt w' 116 Bt b [] ∧ Below w.heap.size w w' := by
  have hmm := @run_makeMap Try.prog
  go_enter Try.func33, Try.ntmps33
  go_wp2_with fail
  go_ret
  have hn := Blk.new (w.alloc (.map #[] 0)) #[.map (some w.heap.size)] 116
  rw [World.size_alloc] at hn
  exact ⟨_, _, rfl, Nat.le_succ _, Nat.le_refl _, ⟨hn, (Tab.new w).alloc _⟩, by go_grown⟩
set_option maxRecDepth 100000 in
set_option maxHeartbeats 1000000 in
theorem hasS_any {w : World} {Bt b : Nat} {L : Tb Value} {r c : Int} (h : TabAt w 116 Bt b L) (hr : wfI r) (hc : wfI c) :
    Calls Try.prog 60 #[.pointer (some ⟨Bt, 0, none⟩), spotV r c] w fun e w' => e = .returned (.bool (hasT L (r, c))) ∧ Below w.heap.size w w' := by
  have c0 := fun o => (h.1.alloc o).c1
  have hl := Tab.look true Try.underlying114 (zeroS ((w.alloc (spotO r c)).drew)) (h.2.alloc (spotO r c)).drew hr hc
  simp only [if_true] at hl
  generalize (getT L (r, c)).getD (.string ⟨#[]⟩) = v at hl
  generalize hasT L (r, c) = q at hl ⊢
  go_enter Try.func60, Try.ntmps60
  go_wp2_with fail
  refine still_all (by kernel_rfl) (by kernel_rfl) ?_
  repeat still_step
  refine wpStill_nil ?_
  go_wp2_with fail
  go_ret
  exact ⟨rfl, by go_grown⟩
set_option maxHeartbeats 1000000 in
theorem lenS_any {w : World} {Bt b : Nat} {L : Tb Value} (h : TabAt w 116 Bt b L) : Calls Try.prog 38 #[.pointer (some ⟨Bt, 0, none⟩)] w fun e w' => e = .returned (.int .i64 L.length) ∧ w' = w := by
  have c0 := h.1.c1
  have hl := fun ty => Tab.len Try.underlying114 h.2 ty
  go_enter Try.func38, Try.ntmps38
  go_wp2_with fail
  go_ret
  exact ⟨rfl, rfl⟩
set_option maxRecDepth 100000 in
set_option maxHeartbeats 1000000 in
theorem getS_any {w : World} {Bt b : Nat} {L : Tb Value} {r c : Int} (h : TabAt w 116 Bt b L) (hr : wfI r) (hc : wfI c) :
    Calls Try.prog 35 #[.pointer (some ⟨Bt, 0, none⟩), spotV r c] w fun e w' => e = .returned (.tuple #[(getT L (r, c)).getD (.string ⟨#[]⟩), .bool (hasT L (r, c))]) ∧ Below w.heap.size w w' := by
  have c0 := fun o => (h.1.alloc o).c1
  have hl := Tab.look true Try.underlying114 (zeroS ((w.alloc (spotO r c)).drew)) (h.2.alloc (spotO r c)).drew hr hc
  simp only [if_true] at hl
  generalize (getT L (r, c)).getD (.string ⟨#[]⟩) = v at hl ⊢
  generalize hasT L (r, c) = q at hl ⊢
  go_enter Try.func35, Try.ntmps35
  go_wp2_with fail
  refine still_all (by kernel_rfl) (by kernel_rfl) ?_
  repeat still_step
  refine wpStill_nil ?_
  go_wp2_with fail
  go_ret2
  exact ⟨rfl, by go_grown⟩
set_option maxHeartbeats 1000000 in
theorem setS_no {w : World} {Bt b : Nat} {L : Tb Value} {r c : Int} (h : TabAt w 116 Bt b L) (v : Value) (hm : mayB r c = false) :
    Calls Try.prog 34 #[.pointer (some ⟨Bt, 0, none⟩), spotV r c, v] w fun e w' => e = .returned (.int .i64 10) ∧ Below w.heap.size w w' := by
  have HM := hide (may_any r c)
  rw [hm] at HM
  go_enter Try.func34, Try.ntmps34
  go_wp2_with fail
  refine (HM.out _).mono ?_
  rintro e w' ⟨rfl, rfl⟩
  go_wp2_with fail
  go_ret
  exact ⟨rfl, by go_grown⟩
set_option maxHeartbeats 1000000 in
theorem setS_full {w : World} {Bt b : Nat} {L : Tb Value} {r c : Int} (h : TabAt w 116 Bt b L) (v : Value) (hm : mayB r c = true) (hh : hasT L (r, c) = false) (hf : 65536 ≤ (L.length : Int)) :
    Calls Try.prog 34 #[.pointer (some ⟨Bt, 0, none⟩), spotV r c, v] w fun e w' => e = .returned (.int .i64 4) ∧ Below w.heap.size w w' := by
  have HM := hide (may_any r c)
  rw [hm] at HM
  have HH := hide (fun w' (h' : TabAt w' 116 Bt b L) => hasS_any h' (may_wf hm).1 (may_wf hm).2)
  rw [hh] at HH
  have h1 := hide ((h.alloc (spotO r c)).alloc (spotO r c))
  have s0 := hide (O2.alloc (O2.new w (.int .i64 r) (.int .i64 c) 35) (spotO r c))
  have B1 := hide (step (step (Below.refl w.heap.size w) (spotO r c)) (spotO r c))
  clear h
  go_enter Try.func34, Try.ntmps34
  go_wp2_with fail
  refine (HM.out _).mono ?_
  rintro e w' ⟨rfl, rfl⟩
  obtain ⟨⟨a0, a1⟩, _⟩ := s0.out
  go_wp2_with fail
  refine (HH.out _ h1.out).mono ?_
  rintro e w2 ⟨rfl, hb2⟩
  have h2 := hide (h1.out.keep hb2)
  have B2 := hide (next B1.out hb2)
  clear a0 a1 h1 s0 B1
  go_wp2_with fail
  refine (lenS_any h2.out).mono ?_
  rintro e w' ⟨rfl, rfl⟩
  generalize hn : (L.length : Int) = n at hf ⊢
  clear hn
  go_wp2_with fail
  go_ret
  exact ⟨rfl, B2.out⟩
set_option maxRecDepth 100000 in
set_option maxHeartbeats 1000000 in
theorem setS_has {w : World} {Bt b : Nat} {L : Tb Value} {r c : Int} (h : TabAt w 116 Bt b L) (v : Value) (hm : mayB r c = true) (hh : hasT L (r, c) = true) :
    Calls Try.prog 34 #[.pointer (some ⟨Bt, 0, none⟩), spotV r c, v] w fun e w' => e = .returned (.int .i64 0) ∧ TabAt w' 116 Bt b (insT L (r, c) v) ∧ w.grownBy w' (some b) := by
  have HM := hide (may_any r c)
  rw [hm] at HM
  have HH := hide (fun w' (h' : TabAt w' 116 Bt b L) => hasS_any h' (may_wf hm).1 (may_wf hm).2)
  rw [hh] at HH
  have h1 := hide ((h.alloc (spotO r c)).alloc (spotO r c))
  have s0 := hide (O2.alloc (O2.new w (.int .i64 r) (.int .i64 c) 35) (spotO r c))
  have B1 := hide (step (step (Below.refl w.heap.size w) (spotO r c)) (spotO r c))
  clear h
  go_enter Try.func34, Try.ntmps34
  go_wp2_with fail
  refine (HM.out _).mono ?_
  rintro e w' ⟨rfl, rfl⟩
  obtain ⟨⟨a0, a1⟩, _⟩ := s0.out
  go_wp2_with fail
  refine (HH.out _ h1.out).mono ?_
  rintro e w2 ⟨rfl, hb2⟩
  have h2 := hide (h1.out.keep hb2)
  have s2 := hide (s0.out.keep hb2)
  have B2 := hide (next B1.out hb2)
  clear a0 a1 h1 s0 B1 hb2
  obtain ⟨⟨a0, a1⟩, _⟩ := s2.out
  have c0 := h2.out.1.c1
  go_wp2_with fail
  refine still_tail 6 (by kernel_rfl) (by kernel_rfl) ?_
  simp only [List.take_succ_cons, List.take_zero, List.drop_succ_cons, List.drop_zero]
  repeat still_step
  refine wpStill_nil ?_
  go_wp2_with (at_mapUpdate; refine wpList_store rfl _ _ _ 114 rfl Try.underlying114 rfl h2.out.2.drew hm v rfl rfl ?_; intro w3 t3 g3)
  go_ret
  exact ⟨rfl, ⟨h2.out.1.kept (grown_drew g3) (fun e => h2.out.ne (by cases e; rfl)), t3⟩, below_grown B2.out (grown_drew g3)⟩
set_option maxRecDepth 100000 in
set_option maxHeartbeats 1000000 in
theorem setS_room {w : World} {Bt b : Nat} {L : Tb Value} {r c : Int} (h : TabAt w 116 Bt b L) (v : Value) (hm : mayB r c = true) (hh : hasT L (r, c) = false) (hf : (L.length : Int) < 65536) :
    Calls Try.prog 34 #[.pointer (some ⟨Bt, 0, none⟩), spotV r c, v] w fun e w' => e = .returned (.int .i64 0) ∧ TabAt w' 116 Bt b (insT L (r, c) v) ∧ w.grownBy w' (some b) := by
  have HM := hide (may_any r c)
  rw [hm] at HM
  have HH := hide (fun w' (h' : TabAt w' 116 Bt b L) => hasS_any h' (may_wf hm).1 (may_wf hm).2)
  rw [hh] at HH
  have h1 := hide ((h.alloc (spotO r c)).alloc (spotO r c))
  have s0 := hide (O2.alloc (O2.new w (.int .i64 r) (.int .i64 c) 35) (spotO r c))
  have B1 := hide (step (step (Below.refl w.heap.size w) (spotO r c)) (spotO r c))
  clear h
  go_enter Try.func34, Try.ntmps34
  go_wp2_with fail
  refine (HM.out _).mono ?_
  rintro e w' ⟨rfl, rfl⟩
  obtain ⟨⟨a0, a1⟩, _⟩ := s0.out
  go_wp2_with fail
  refine (HH.out _ h1.out).mono ?_
  rintro e w2 ⟨rfl, hb2⟩
  have h2 := hide (h1.out.keep hb2)
  have s2 := hide (s0.out.keep hb2)
  have B2 := hide (next B1.out hb2)
  clear a0 a1 h1 s0 B1 hb2
  go_wp2_with fail
  refine (lenS_any h2.out).mono ?_
  rintro e w' ⟨rfl, rfl⟩
  generalize hn : (L.length : Int) = n at hf ⊢
  clear hn
  obtain ⟨⟨a0, a1⟩, _⟩ := s2.out
  have c0 := h2.out.1.c1
  go_wp2_with fail
  refine still_tail 6 (by kernel_rfl) (by kernel_rfl) ?_
  simp only [List.take_succ_cons, List.take_zero, List.drop_succ_cons, List.drop_zero]
  repeat still_step
  refine wpStill_nil ?_
  go_wp2_with (at_mapUpdate; refine wpList_store rfl _ _ _ 114 rfl Try.underlying114 rfl h2.out.2.drew hm v rfl rfl ?_; intro w3 t3 g3)
  go_ret
  exact ⟨rfl, ⟨h2.out.1.kept (grown_drew g3) (fun e => h2.out.ne (by cases e; rfl)), t3⟩, below_grown B2.out (grown_drew g3)⟩
set_option maxRecDepth 100000 in
set_option maxHeartbeats 1000000 in
theorem dropS_any {w : World} {Bt b : Nat} {L : Tb Value} {r c : Int} (h : TabAt w 116 Bt b L) (hr : wfI r) (hc : wfI c) :
    Calls Try.prog 39 #[.pointer (some ⟨Bt, 0, none⟩), spotV r c] w fun e w' => e = .returned (.bool (hasT L (r, c))) ∧ TabAt w' 116 Bt b (delT L (r, c)) ∧ w.grownBy w' (some b) := by
  have HH := fun w' (h' : TabAt w' 116 Bt b L) => hasS_any h' hr hc
  generalize hasT L (r, c) = q at HH ⊢
  replace HH := hide HH
  have h1 := hide (h.alloc (spotO r c))
  have s0 := hide (O2.new w (.int .i64 r) (.int .i64 c) 35)
  have B1 := hide (step (Below.refl w.heap.size w) (spotO r c))
  clear h
  go_enter Try.func39, Try.ntmps39
  go_wp2_with fail
  refine (HH.out _ h1.out).mono ?_
  rintro e w2 ⟨rfl, hb2⟩
  have h2 := hide (h1.out.keep hb2)
  have s2 := hide (s0.out.keep hb2)
  have B2 := hide (next B1.out hb2)
  clear h1 s0 B1 hb2 HH
  obtain ⟨⟨a0, a1⟩, _⟩ := s2.out
  have c0 := h2.out.1.c1
  go_wp2_with fail
  refine still_tail 5 (by kernel_rfl) (by kernel_rfl) ?_
  simp only [List.take_succ_cons, List.take_zero, List.drop_succ_cons, List.drop_zero]
  repeat still_step
  refine wpStill_nil ?_
  go_wp2_with (at_delete; refine wpList_drop rfl _ _ 114 rfl Try.underlying114 rfl h2.out.2.drew hr hc rfl ?_; intro w3 t3 g3)
  go_ret
  exact ⟨rfl, ⟨h2.out.1.kept (grown_drew g3) (fun e => h2.out.ne (by cases e; rfl)), t3⟩, below_grown B2.out (grown_drew g3)⟩
end Go.Proofs.Ytmfkeobjbcinpaa
