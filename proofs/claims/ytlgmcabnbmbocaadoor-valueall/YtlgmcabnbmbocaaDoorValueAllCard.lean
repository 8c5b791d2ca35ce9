/- ValueAll: the statement's row, proved over the walk of the law, and its tied card: for every input that the row reads the call returns true and the arguments read as before. Condition: the three listed library tables start as the program's text lays them (the card's given tie). -/
import Derived.Test.YtlgmcabnbmbocaaDoorValueAll
import Derived.Test.YtlgmcabnbmbocaaDoorOpens4
import Derived.Deep.Slices
namespace Go.Proofs.YtlgmcabnbmbocaaDoor
open Go.ChangeShapes Go.WideShapes Go.ChangeAt Go.RowKit
open Go.Deep (open_slice)
set_option linter.unusedVariables false

theorem cellsOp : Tryd.prog.cellsOf 28 = 8 := by kernel_rfl
/-- What the reading of a script gives the walk: each call's eight cells. -/
theorem script_of {H : Type} {enc : TypeId × Value → H} {W : World} {base : Nat} {spare : Nat → Bool} {held : Bool} {fuel : Nat} {a0 : Option Addr} {len cap : Nat} {x : DataW H × List MemPlace}
    (hf : DataW.trod enc Tryd.prog W base spare held fuel 22 (Value.cells (.slice a0 len cap)).toList = some x) :
    len = 0 ∨ ∃ b off, a0 = some ⟨b, off, none⟩ ∧ len ≤ maxLen ∧ ∀ i, i < len → OpAt W b off i := by
  rcases open_slice Tryd.underlying22 hf with ⟨hcs, _⟩ | ⟨a, len', cap', m, n, D, Pl, hcs, _, hl, hm, hmm, _, hel⟩
  · simp [Value.cells] at hcs
    exact .inl hcs.2.1
  · simp [Value.cells] at hcs
    obtain ⟨rfl, rfl, rfl⟩ := hcs
    by_cases z : len = 0
    · exact .inl z
    have hlm : len ≤ m := by rw [hmm]; split <;> omega
    obtain ⟨b, off, spot⟩ := a
    have eight : ∀ cs' : List Value, cs'.length = 8 → ∃ c0 c1 c2 c3 c4 c5 c6 c7, cs' = [c0, c1, c2, c3, c4, c5, c6, c7] := fun cs' h => by
      match cs', h with
      | [c0, c1, c2, c3, c4, c5, c6, c7], _ => exact ⟨c0, c1, c2, c3, c4, c5, c6, c7, rfl⟩
    have hspot : spot = none := by
      obtain ⟨cs', hc0, _⟩ := hel 0 (by omega)
      rw [cellsOp] at hc0
      obtain ⟨_, hl3, hcell⟩ := World.cells?_some hc0
      obtain ⟨c0, c1, c2, c3, c4, c5, c6, c7, rfl⟩ := eight cs' hl3
      have r0 : W.cell? (((⟨b, off, spot⟩ : Addr).add (0 * 8)).add 0) = some c0 := hcell 0 (by omega)
      simpa [Addr.add] using World.cell?_spot r0
    subst hspot
    refine .inr ⟨b, off, rfl, by omega, ?_⟩
    · intro i hi
      obtain ⟨cs', hc0, ht0⟩ := hel i (by omega)
      rw [cellsOp] at hc0
      obtain ⟨_, hl3, hcell⟩ := World.cells?_some hc0
      obtain ⟨c0, c1, c2, c3, c4, c5, c6, c7, rfl⟩ := eight cs' hl3
      obtain ⟨xs, n', _, _, _, hlen, hfs⟩ := DataW.trod_struct Tryd.underlying28 ht0
      match xs, hlen with
      | [y0, y1, y2, y3], _ =>
        have t0 := hfs 0 _ rfl
        have t1 := hfs 1 _ rfl
        have t2 := hfs 2 _ rfl
        have t3 := hfs 3 _ rfl
        obtain ⟨k, e0, _, _⟩ := DataW.trod_int Tryd.underlying3 t0
        obtain ⟨a0, a1, a2, e1, l1, l2, _⟩ := value_cells t1
        obtain ⟨b0, b1, b2, e2, _, _, _⟩ := value_cells t2
        obtain ⟨s, e3, _, w3⟩ := DataW.trod_string Tryd.underlying9 t3
        simp [cellsI] at e0
        simp [cellsValue] at e1
        simp [cellsValue] at e2
        simp [cellsS] at e3
        obtain ⟨rfl, rfl, rfl⟩ := e1
        obtain ⟨rfl, rfl, rfl⟩ := e2
        subst e0 e3
        have r0 := hcell 0 (by omega)
        have r1 := hcell 1 (by omega)
        have r2 := hcell 2 (by omega)
        have r3 := hcell 3 (by omega)
        have r4 := hcell 4 (by omega)
        have r5 := hcell 5 (by omega)
        have r6 := hcell 6 (by omega)
        have r7 := hcell 7 (by omega)
        simp only [Lib.add_plain] at r0 r1 r2 r3 r4 r5 r6 r7
        exact ⟨k, a0, a1, a2, b0, b1, b2, s, r0, r1, r2, r3, r4, r5, r6, r7, l1, l2, w3⟩

set_option maxRecDepth 100000 in
theorem valueAll_lifted (os : Os) (started : os.Started) (H : Type) (enc : TypeId × Value → H) :
    ReturnsInHanded {} Tryd.checked os 3 .any (fun w args => (Rows.valueAllSpec.pre enc Tryd.prog Tryd.f3 [] false w args ∧ laidMetH Tryd.prog laid3 w) ∧ sizedMet enc Tryd.prog Tryd.f3 (OpenSpec.ofChange Rows.valueAllSpec) false w args)
      (Rows.valueAllSpec.post enc Tryd.prog Tryd.f3 false true false false) := by
  refine returnsInHanded_of_change_and (C := Tryd.checked) (X := fun w _ => laidMetH Tryd.prog laid3 w) (fun _ _ _ hh h => h.of_heap hh) own started (by kernel_rfl) Tryd.func3
    (ChangeSpec.witness_shaped (enc := enc) (C := Tryd.checked) (os := os) (X := fun w _ => laidMetH Tryd.prog laid3 w) false (World.doorLaid Tryd.prog 400 os) #[.slice none 0 0] 8 rfl (World.shaped_of_RefB (by kernel_rfl) (by kernel_rfl)) (by kernel_rfl) (by kernel_rfl) (by kernel_rfl) (door_met os _)) ?_
  intro W base args ds gs before hval0 hW _ _ hL _
  have hval : ∀ (j : Nat) t v, Tryd.f3.params[j]? = some t → args[j]? = some v → Value.okWide Tryd.prog W .any base t v := hval0
  have hW' := hW
  obtain ⟨p, q, hA0, hV, rfl, hfz, hnd⟩ := hW
  have hA : DataW.TrodAll enc Tryd.prog W 0 (fun _ => true) true Tryd.f3.params.toList args.toList ds p := hA0
  rw [Tryd.params3] at hA hval
  obtain ⟨v0, d0, rfl, rfl, h0⟩ := trodAll_one hA
  obtain ⟨rfl, rfl⟩ := trodVars_none hV
  have h0k := h0
  obtain ⟨fuel, hf⟩ := h0
  have tb := tab_of_laid hL
  clear hA0 hval0 hL
  simp only [List.append_nil] at hW'
  have hlt : ∀ x ∈ p, x.block < W.heap.size := fun x hx => by simpa using hW'.lt x hx
  obtain ⟨a0, len, cap, rfl⟩ := okWide_slice Tryd.underlying22 (hval 0 22 v0 rfl rfl)
  have walk : Calls Tryd.prog 3 #[.slice a0 len cap] W fun e w' => e = .returned (.bool true) ∧ Below W.heap.size W w' := by
    rcases script_of hf with rfl | ⟨b, off, rfl, hl, ho⟩
    · exact valueAll_none a0 cap W tb
    · exact valueAll_some b off len cap W hl (hide ho) tb
  refine walk.mono fun e W' ⟨he, bel⟩ => ?_
  subst he
  exact ⟨_, rfl, _, _, _, [], _, [], hW', trodAll_mk1 (shut_bool Tryd.underlying4 _), trodAll_mk1 (Below.trod laidOut (by kernel_rfl) (of_decide_eq_true (by kernel_rfl)) h0k bel hlt), rfl, bel.frame _, fun h => by cases h⟩

theorem valueAll_holds : Rows.ValueAllSaid :=
  OpenClaim.holds_of_wide 3 Tryd.f3 rfl rfl rfl rfl rfl rfl rfl ⟨rfl, rfl, rfl, rfl, rfl⟩ rfl rfl rfl rfl rfl (by kernel_rfl) Tryd.func3 (by kernel_rfl)
    (of_decide_eq_true (by kernel_rfl)) (by unfold Func.isWrapper; first | (rw [if_pos (by decide +kernel)]; kernel_rfl) | (rw [if_neg (by decide +kernel)]; exact ⟨rfl, rfl⟩))
    (fun os started H enc _ => valueAll_lifted os started H enc)

theorem valueAll_card : Rows.ValueAllCardSaid :=
  Claim7.holds_tied_plain_at .later [] [.data, .data, .data] true (true, "7158da9d307f091bf6457d8b0aa4af777030944ee6fb336083e293dd220e28b0") false
    valueAll_holds (fun _ h => by cases h) (by kernel_rfl) (fun _ h => by cases h) valueAll_row_tie rfl ⟨rfl, rfl⟩ (by kernel_rfl) rfl
    (fun f fn hf hfn => by
      obtain rfl : f = 3 := Option.some.inj ((show Tryd.prog.funcNamed "quadrille/quadrillelaw4.ValueAll" = some 3 by kernel_rfl).symm.trans hf) |>.symm
      obtain rfl : fn = Tryd.f3 := (Option.some.inj (Tryd.func3.symm.trans hfn)).symm
      exact ⟨by kernel_rfl, fun j t ht => by
        rw [Tryd.params3] at ht
        have hm : t ∈ [22] := by simpa using Array.mem_of_getElem? ht
        have hall : ([22].all fun u => !Tryd.prog.wantsStandIn u) = true := by kernel_rfl
        exact (show Tryd.prog.wantsStandIn t = false by simpa using List.all_eq_true.1 hall t hm)⟩)
    (by kernel_rfl)
#print axioms valueAll_card
end Go.Proofs.YtlgmcabnbmbocaaDoor
