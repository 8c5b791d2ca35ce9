/- A region that draws its order, within a round of a range over a function: what is shown outside a round holds within one, if the region defers nothing. -/
import Derived.Lib.QuietBelowIn
import Derived.Sort.BigQuietIn
import Derived.RangeFuncCalls
namespace Go.Proofs.Ytmfkeobjbcinpaa
open Go Go.Sort Go.RowKit
set_option linter.unusedVariables false
section
variable {F : Fence} {n : Nat} {P : Program} {ops : Array Oper} {Q : Exit → Act → World → Prop}
def noDefer (l : List Oper) : Bool := l.all (fun o => match o.op with | .defer _ => false | _ => true)
theorem noDefer_at {l : List Oper} (h : noDefer l = true) {o : Oper} (ho : o ∈ l) : ∀ c, o.op ≠ .defer c := fun c e => by
  have := List.all_eq_true.1 h o ho
  rw [e] at this
  cases this
theorem opIn_round (lo : Nat) (hro : F.round = none) {l : List Oper} (hd : noDefer l = true) {i : Nat} {K K' : Act → World → Prop} {a : Act} {w : World} (hK : ∀ a w, K a w → K' a w)
    (h : wpOpIn F n P l.toArray Q i K a w) : wpOpIn (F.inRound lo) n P l.toArray Q i K' a w := by
  replace h := wpOpIn_mono hK h
  unfold wpOpIn at *
  cases ho : l.toArray[i]? with
  | none => simpa [ho] using h
  | some o =>
    have hm : o ∈ l := by
      have := Array.mem_of_getElem? ho
      simpa using this
    simp only [ho] at h ⊢
    by_cases hw : Region.wanted o (yielded l.toArray a.tmps) = true
    · simp only [hw, if_true] at h ⊢
      unfold Oper.wpIn at *
      refine ⟨h.1, ?_⟩
      have h2 := h.2
      rw [hro, Oper.semAt_none] at h2
      rw [show (F.inRound lo).round = some lo from rfl, Oper.semAt_some lo _ _ (noDefer_at hd hm)]
      exact h2
    · simp only [hw] at h ⊢
      exact h
theorem anyIn_round (lo : Nat) (hro : F.round = none) {l : List Oper} (hd : noDefer l = true) {md : Region.Mode} : ∀ (fuel : Nat) (listed : Array Bool) (a : Act) (w : World), wpAnyIn F n P md l.toArray Q fuel listed a w → wpAnyIn (F.inRound lo) n P md l.toArray Q fuel listed a w
  | 0, _, _, _, h => h
  | fuel + 1, listed, a, w, h => ⟨h.1, fun i hi => opIn_round lo hro hd (fun a w => anyIn_round lo hro hd fuel _ a w) (h.2 i hi)⟩
/-- Walked once, in the order of the text, within a round; its callees may lay blocks. -/
theorem region_quietR (lo : Nat) {id : Nat} {a : Act} {w : World} {l : List Oper} (hro : F.round = none) (hd : noDefer l = true) (hm : P.follows .mixedOrders = true) (hB : Region.lexB .any l.toArray = true)
    (h : wpQuietIn F n P l.toArray (fun w' => ∃ p : Regrown, w' = grow (redrawn w p.d) p.os) (fun a' => ∀ w', (∃ p : Regrown, w' = grow (redrawn w p.d) p.os) → Q .normal a' w') l a) : (Code.region id l.toArray true).wpIn (F.inRound lo) n P Q a w := by
  simp only [Region.lexB, Bool.and_eq_true] at hB
  refine wpIn_region_any hm (anyIn_round lo hro hd _ _ _ _ (wpAnyIn_of_quiet (C := fun w' => ∃ p : Regrown, w' = grow (redrawn w p.d) p.os) (Q := fun a' => ∀ w', (∃ p : Regrown, w' = grow (redrawn w p.d) p.os) → Q .normal a' w') hro (fun _ w' hw' h => h w' hw') _ _ _ _ ⟨⟨w.drawn + 1, #[]⟩, by rw [grow_empty]; rfl⟩ ?_))
  have := wpAnyQIn_lex (F := F) (n := n) (C := fun w' => ∃ p : Regrown, w' = grow (redrawn w p.d) p.os) (md := .any) hB.1 l 0 (Array.replicate l.toArray.size false) a (by simp) (by simpa using hB.2) h
  simpa using this
theorem wide_fn (f : FuncId) : Fence.wide.fn f = True := by first | rfl | simp [Fence.wide]
end
end Go.Proofs.Ytmfkeobjbcinpaa
