/- PrintFew: the statement's row, proved over the walk of the law, and its tied card: for every input that the row reads the call returns true and the arguments read as before. Condition: the ten listed variables (two of the library's pinned, the others tied: tables of the library's, of package lex and package print, and two of strconv's errors) start as the program's text lays them (the card's given tie). -/
import Derived.Test.YtbmnoiddklafkaaGreatDoorPrintFew
import Derived.Test.YtbmnoiddklafkaaGreatDoorFrP11
import Derived.Test.YtbmnoiddklafkaaGreatDoorOnJ
namespace Go.Proofs.YtbmnoiddklafkaaGreatDoor
open T9
open Go.ChangeShapes Go.WideShapes Go.ChangeAt Go.RowKit
set_option linter.unusedVariables false

set_option maxRecDepth 100000 in
theorem printFew_lifted (os : Os) (started : os.Started) (H : Type) (enc : TypeId × Value → H) :
    ReturnsInHanded {} Tryz.checked os 8 .any (fun w args => (Rows.printFewSpec.pre enc Tryz.prog Tryz.f8 [] false w args ∧ laidMetH Tryz.prog laid6 w) ∧ sizedMet enc Tryz.prog Tryz.f8 (OpenSpec.ofChange Rows.printFewSpec) false w args)
      (Rows.printFewSpec.post enc Tryz.prog Tryz.f8 false true false false) := by
  refine returnsInHanded_of_calls (C := Tryz.checked) own started (by kernel_rfl)
    (ChangeSpec.witness_shaped (enc := enc) (C := Tryz.checked) (os := os) (X := fun w _ => laidMetH Tryz.prog laid6 w) false (World.laidAll Tryz.prog os laid6) #[.agg #[.int .i64 0, .int .i64 0, .int .i64 0, .string ⟨#[]⟩, .int .i64 0, .int .i64 0, .bool false, .bool false, .int .i64 0, .int .i64 0, .bool false, .bool false, .int .i64 0, .slice none 0 0], .int .u8 0] 8 (World.laidAll_os _ _ _) (World.shaped_of_ZipB (by kernel_rfl) (by kernel_rfl)) (by kernel_rfl) (by kernel_rfl) (by kernel_rfl) (met os _)) ?_
  intro w tape i _ hsh _ hok hpre _
  obtain ⟨_, _, _, fn', hfn', _, _, _, _, hval0⟩ := hok
  obtain rfl : fn' = Tryz.f8 := Option.some.inj (hfn'.symm.trans Tryz.func8)
  obtain ⟨⟨⟨ds, gs, before, hw, _⟩, hlm⟩, ⟨_, ds2, gs2, before2, hw2, hsz0⟩⟩ := hpre
  have hW := DataW.Whole.of_heap (w' := w.forCall tape i) (by rfl) hw
  have hW2 := DataW.Whole.of_heap (w' := w.forCall tape i) (by rfl) hw2
  have hlm2 : laidMetH Tryz.prog laid6 (w.forCall tape i) := laidMetH.of_heap (w := (w.forCall tape i).memory) (w' := w.forCall tape i) rfl hlm
  suffices hs : Calls Tryz.prog 8 i.args (w.forCall tape i) fun e W' => ∃ v, e = .returned v ∧ Rows.printFewSpec.post enc Tryz.prog Tryz.f8 false true false false (w.forCall tape i) i.args v W' from
    hs.mono fun e W' ⟨v, he, hp⟩ => by subst he; exact ChangeSpec.post_blind hp
  replace hval0 : ∀ (j : Nat) t v, Tryz.f8.params[j]? = some t → i.args[j]? = some v → Value.okWide Tryz.prog (w.forCall tape i) .any w.heap.size t v := hval0
  replace hsh : (w.forCall tape i).ShapedOpen Tryz.prog := hsh
  clear hw hw2 hfn' hlm
  generalize w.forCall tape i = W at *
  generalize w.heap.size = base at *
  generalize i.args = args at *
  have hval : ∀ (j : Nat) t v, Tryz.f8.params[j]? = some t → args[j]? = some v → Value.okWide Tryz.prog W .any base t v := hval0
  have hsz : (DataW.weightsEach Tryz.prog (Tryz.f8.params.toList ++ Rows.printFewSpec.plain.varTypes Tryz.prog) (ds2 ++ gs2)).all (· ≤ reachBytes) = true := hsz0
  have hW' := hW
  obtain ⟨p, q, hA0, hV, rfl, hfz, hnd⟩ := hW
  obtain ⟨pp, qq, hB0, hVV, _, _, _⟩ := hW2
  have hA : DataW.TrodAll enc Tryz.prog W 0 (fun _ => true) true Tryz.f8.params.toList args.toList ds p := hA0
  have hB : DataW.TrodAll enc Tryz.prog W 0 (fun _ => true) true Tryz.f8.params.toList args.toList ds2 pp := hB0
  rw [Tryz.params8] at hA hB hval hsz
  obtain ⟨v0, vs0, d0, ds0, p0, q0, hargs, rfl, rfl, h0, z0⟩ := trodAll_cons hA
  obtain ⟨v1, vs1, d1, ds1, p1, q1, rfl, rfl, rfl, h1, z1⟩ := trodAll_cons z0
  obtain ⟨rfl, rfl, rfl⟩ := trodAll_nil z1
  obtain rfl : args = #[v0, v1] := by cases args; simp_all
  obtain ⟨x0, xs0, c0, cs0, r0, s0, hx0, rfl, rfl, g0, y0⟩ := trodAll_cons hB
  simp only [List.cons.injEq] at hx0
  obtain ⟨rfl, rfl⟩ := hx0
  obtain ⟨x1, xs1, c1, cs1, r1, s1, hx1, rfl, rfl, g1, y1⟩ := trodAll_cons y0
  simp only [List.cons.injEq] at hx1
  obtain ⟨rfl, rfl⟩ := hx1
  obtain ⟨_, rfl, rfl⟩ := trodAll_nil y1
  obtain ⟨rfl, rfl⟩ := trodVars_none hV
  have lay := (lay_of hlm2 hsh).1
  have lay8 := (lay_of hlm2 hsh).2
  have k0 := h0
  have l0 : ∀ x ∈ p0, x.block < W.heap.size := fun x hx => hW'.lt x (by simp [hx])
  obtain ⟨t0, T0, N0⟩ := tree_ofN g0 (fun y hy => by have := List.all_eq_true.1 hsz y (DataW.weights_mem_each (j := 0) (t := 30) (d := c0) rfl (by simp) y hy); simpa using this)
  have k1 := h1
  have l1 : ∀ x ∈ p1, x.block < W.heap.size := fun x hx => hW'.lt x (by simp [hx])
  obtain ⟨a1, rfl, rfl, rfl, w1⟩ := open_int Tryz.underlying5 (hval 1 5 v1 rfl rfl) h1
  clear hA0 hval0 hsh hlm2
  refine (printFew_walk t0 v0 a1 w1 W lay lay8 T0 N0).mono fun e W' ⟨he, bel⟩ => ?_
  subst he
  exact ⟨_, rfl, _, _, _, [], _, [], hW', trodAll_mk1 (shut_bool Tryz.underlying4 _), (trodAll_cons_mk (Below.trod laidOut (by kernel_rfl) (of_decide_eq_true (by kernel_rfl)) k0 bel l0) (trodAll_cons_mk (Below.trod laidOut (by kernel_rfl) (of_decide_eq_true (by kernel_rfl)) k1 bel l1) trodAll_mk0)), rfl, bel.frame _, fun h => by cases h⟩

theorem printFew_holds : Rows.PrintFewSaid :=
  OpenClaim.holds_of_wide 8 Tryz.f8 rfl rfl rfl rfl rfl rfl rfl ⟨rfl, rfl, rfl, rfl, rfl⟩ rfl rfl rfl rfl rfl (by kernel_rfl) Tryz.func8 (by kernel_rfl)
    (of_decide_eq_true (by kernel_rfl)) (by unfold Func.isWrapper; first | (rw [if_pos (by decide +kernel)]; kernel_rfl) | (rw [if_neg (by decide +kernel)]; exact ⟨rfl, rfl⟩))
    (fun os started H enc _ => printFew_lifted os started H enc)

theorem printFew_card : Rows.PrintFewCardSaid :=
  Claim7.holds_tied_plain_at .later [] [.data, .data, .data, .data, .sentinel, .sentinel, .data, .data, .pinned, .pinned] true (true, "132b303375617f27306f31beb49ab7d2ba914c2b46269a902ffa06f243abb5d3") true
    printFew_holds (fun _ h => by cases h) (by kernel_rfl) (fun _ h => by cases h) printFew_row_tie rfl ⟨rfl, rfl⟩ (by kernel_rfl) rfl
    (fun f fn hf hfn => by
      obtain rfl : f = 8 := Option.some.inj ((show Tryz.prog.funcNamed "quadrille/quadrillelaw11.PrintFew" = some 8 by kernel_rfl).symm.trans hf) |>.symm
      obtain rfl : fn = Tryz.f8 := (Option.some.inj (Tryz.func8.symm.trans hfn)).symm
      exact ⟨by kernel_rfl, fun j t ht => by
        rw [Tryz.params8] at ht
        have hm : t ∈ [30, 5] := by simpa using Array.mem_of_getElem? ht
        have hall : ([30, 5].all fun u => !Tryz.prog.wantsStandIn u) = true := by kernel_rfl
        exact (show Tryz.prog.wantsStandIn t = false by simpa using List.all_eq_true.1 hall t hm)⟩)
    (by kernel_rfl)
#print axioms printFew_card
end Go.Proofs.YtbmnoiddklafkaaGreatDoor
