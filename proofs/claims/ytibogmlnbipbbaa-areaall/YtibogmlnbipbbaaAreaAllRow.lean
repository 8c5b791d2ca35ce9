/- AreaAll: the statement's row, proved over the walk of the law: for every script that the row reads the call returns true and the script reads as before. No condition. -/
import Derived.Test.YtibogmlnbipbbaaAreaAll
import Derived.Test.YtibogmlnbipbbaaOpens3
import Derived.Deep.Slices
namespace Go.Proofs.Ytibogmlnbipbbaa
open Go.ChangeShapes Go.WideShapes Go.ChangeAt Go.RowKit
open Go.Deep (open_slice)
set_option linter.unusedVariables false

theorem cellsOp : Try.prog.cellsOf 30 = 15 := by kernel_rfl
theorem addr_plain (b o j : Nat) : (⟨b, o, none⟩ : Addr).add j = ⟨b, o + j, none⟩ := by unfold Addr.add; split <;> simp_all
theorem cellsL : Try.prog.cellsOf 2 = 1 := by kernel_rfl
/-- What the reading of a script gives the walk: each call's fifteen cells. -/
theorem script_of {H : Type} {enc : TypeId × Value → H} {W : World} {base : Nat} {spare : Nat → Bool} {held : Bool} {fuel : Nat} {a0 : Option Addr} {len cap : Nat} {x : DataW H × List MemPlace}
    (hf : DataW.trod enc Try.prog W base spare held fuel 22 (Value.cells (.slice a0 len cap)).toList = some x) :
    len = 0 ∨ ∃ b off, a0 = some ⟨b, off, none⟩ ∧ len ≤ maxLen ∧ ∀ i, i < len → OpAt W b off i := by
  rcases open_slice Try.underlying22 hf with ⟨hcs, _⟩ | ⟨a, len', cap', m, n, D, Pl, hcs, _, hl, hm, hmm, _, hel⟩
  · simp [Value.cells] at hcs
    exact .inl hcs.2.1
  · simp [Value.cells] at hcs
    obtain ⟨rfl, rfl, rfl⟩ := hcs
    by_cases z : len = 0
    · exact .inl z
    have hlm : len ≤ m := by rw [hmm]; split <;> omega
    obtain ⟨b, off, spot⟩ := a
    have all : ∀ cs' : List Value, cs'.length = 15 → ∃ c0 c1 c2 c3 c4 c5 c6 c7 c8 c9 c10 c11 c12 c13 c14, cs' = [c0, c1, c2, c3, c4, c5, c6, c7, c8, c9, c10, c11, c12, c13, c14] := fun cs' h => by
      match cs', h with
      | [c0, c1, c2, c3, c4, c5, c6, c7, c8, c9, c10, c11, c12, c13, c14], _ => exact ⟨c0, c1, c2, c3, c4, c5, c6, c7, c8, c9, c10, c11, c12, c13, c14, rfl⟩
    have hspot : spot = none := by
      obtain ⟨cs', hc0, _⟩ := hel 0 (by omega)
      rw [cellsOp] at hc0
      obtain ⟨_, hl3, hcell⟩ := World.cells?_some hc0
      obtain ⟨c0, c1, c2, c3, c4, c5, c6, c7, c8, c9, c10, c11, c12, c13, c14, rfl⟩ := all cs' hl3
      have r0 : W.cell? (((⟨b, off, spot⟩ : Addr).add (0 * 15)).add 0) = some c0 := hcell 0 (by omega)
      simpa [Addr.add] using World.cell?_spot r0
    subst hspot
    refine .inr ⟨b, off, rfl, by omega, ?_⟩
    · intro i hi
      obtain ⟨cs', hc0, ht0⟩ := hel i (by omega)
      rw [cellsOp] at hc0
      obtain ⟨_, hl3, hcell⟩ := World.cells?_some hc0
      obtain ⟨c0, c1, c2, c3, c4, c5, c6, c7, c8, c9, c10, c11, c12, c13, c14, rfl⟩ := all cs' hl3
      obtain ⟨xs, n', _, _, _, hlen, hfs⟩ := DataW.trod_struct Try.underlying30 ht0
      match xs, hlen with
      | [y0, y1, y2, y3, y4, y5, y6], _ =>
        have t0' := hfs 0 _ rfl
        have t1' := hfs 1 _ rfl
        have t2' := hfs 2 _ rfl
        have t3' := hfs 3 _ rfl
        have t4' := hfs 4 _ rfl
        have t5' := hfs 5 _ rfl
        have t6' := hfs 6 _ rfl
        obtain ⟨k, e0, _, _⟩ := DataW.trod_int Try.underlying3 t0'
        obtain ⟨a0, a1, a2, a3, e1⟩ := area_cells t1'
        obtain ⟨b0, b1, b2, b3, e2⟩ := area_cells t2'
        obtain ⟨s0, s1, e3⟩ := spot_cells t3'
        obtain ⟨t0, t1, e4⟩ := spot_cells t4'
        obtain ⟨dr, e5, _, _⟩ := DataW.trod_int Try.underlying2 t5'
        obtain ⟨dc, e6, _, _⟩ := DataW.trod_int Try.underlying2 t6'
        simp [cellsI] at e0
        simp [cellsArea] at e1
        simp [cellsArea] at e2
        simp [cellsSpot] at e3
        simp [cellsSpot] at e4
        simp [cellsL] at e5
        simp [cellsL] at e6
        obtain ⟨rfl, rfl, rfl, rfl⟩ := e1
        obtain ⟨rfl, rfl, rfl, rfl⟩ := e2
        obtain ⟨rfl, rfl⟩ := e3
        obtain ⟨rfl, rfl⟩ := e4
        subst e0 e5 e6
        have r0 := hcell 0 (by omega)
        have r1 := hcell 1 (by omega)
        have r2 := hcell 2 (by omega)
        have r3 := hcell 3 (by omega)
        have r4 := hcell 4 (by omega)
        have r5 := hcell 5 (by omega)
        have r6 := hcell 6 (by omega)
        have r7 := hcell 7 (by omega)
        have r8 := hcell 8 (by omega)
        have r9 := hcell 9 (by omega)
        have r10 := hcell 10 (by omega)
        have r11 := hcell 11 (by omega)
        have r12 := hcell 12 (by omega)
        have r13 := hcell 13 (by omega)
        have r14 := hcell 14 (by omega)
        simp only [addr_plain] at r0 r1 r2 r3 r4 r5 r6 r7 r8 r9 r10 r11 r12 r13 r14
        exact ⟨k, a0, a1, a2, a3, b0, b1, b2, b3, s0, s1, t0, t1, dr, dc, r0, r1, r2, r3, r4, r5, r6, r7, r8, r9, r10, r11, r12, r13, r14⟩

set_option maxRecDepth 100000 in
theorem areaAll_lifted (os : Os) (started : os.Started) (H : Type) (enc : TypeId × Value → H) :
    ReturnsInHanded {} Try.checked os 3 .any (Rows.areaAllSpec.pre6 enc Try.prog Try.f3 Rows.areaAllRow.domain false) (Rows.areaAllSpec.post enc Try.prog Try.f3 false true false false) := by
  refine returnsInHanded_of_change (C := Try.checked) own started (by kernel_rfl) Try.func3
    (ChangeSpec.witness6 (enc := enc) (C := Try.checked) false ⟨#[], #[.slice none 0 0], []⟩ 8 (by kernel_rfl) (by kernel_rfl) (by kernel_rfl) (by kernel_rfl)) ?_
  intro W base args ds gs before hval0 hW hcnd _
  have hval : ∀ (j : Nat) t v, Try.f3.params[j]? = some t → args[j]? = some v → Value.okWide Try.prog W .any base t v := hval0
  have hW' := hW
  obtain ⟨p, q, hA0, hV, rfl, hfz, hnd⟩ := hW
  have hA : DataW.TrodAll enc Try.prog W 0 (fun _ => true) true Try.f3.params.toList args.toList ds p := hA0
  rw [Try.params3] at hA hval
  obtain ⟨v0, d0, rfl, rfl, h0⟩ := trodAll_one hA
  obtain ⟨rfl, rfl⟩ := trodVars_none hV
  have h0k := h0
  obtain ⟨fuel, hf⟩ := h0
  clear hA0 hval0
  simp only [List.append_nil] at hW'
  have hlt : ∀ x ∈ p, x.block < W.heap.size := fun x hx => by simpa using hW'.lt x hx
  obtain ⟨a0, len, cap, rfl⟩ := okWide_slice Try.underlying22 (hval 0 22 v0 rfl rfl)
  have walk : Calls Try.prog 3 #[.slice a0 len cap] W fun e w' => e = .returned (.bool true) ∧ Below W.heap.size W w' := by
    rcases script_of hf with rfl | ⟨b, off, rfl, hl, ho⟩
    · exact areaAll_none a0 cap W
    · exact areaAll_some b off len cap W hl (hide ho)
  refine walk.mono fun e W' ⟨he, bel⟩ => ?_
  subst he
  exact ⟨_, rfl, _, _, _, [], _, [], hW', trodAll_mk1 (shut_bool Try.underlying4 _), trodAll_mk1 (Below.trod laidOut (by kernel_rfl) (of_decide_eq_true (by kernel_rfl)) h0k bel hlt), rfl, bel.frame _, fun h => by cases h⟩

theorem areaAll_holds : Rows.AreaAllSaid :=
  OpenClaim.holds_of_wide 3 Try.f3 rfl rfl rfl rfl rfl rfl rfl ⟨rfl, rfl, rfl, rfl, rfl⟩ rfl rfl rfl rfl rfl (by kernel_rfl) Try.func3 (by kernel_rfl)
    (of_decide_eq_true (by kernel_rfl)) (by unfold Func.isWrapper; first | (rw [if_pos (by decide +kernel)]; kernel_rfl) | (rw [if_neg (by decide +kernel)]; exact ⟨rfl, rfl⟩))
    (fun os started H enc _ => areaAll_lifted os started H enc)
#print axioms areaAll_holds
end Go.Proofs.Ytibogmlnbipbbaa
