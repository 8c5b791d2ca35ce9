/- Set of a table of things of type quadrillelaw7.thing, in the words of the list that it holds. -/
import Derived.Test.YtmfkeobjbcinpaaOps7G
import Derived.Test.YtmfkeobjbcinpaaSet7
namespace Go.Proofs.Ytmfkeobjbcinpaa
open Go.RowKit Go.Maps
set_option linter.unusedVariables false

theorem tsetG {w : World} {Bt b : Nat} {L : Tb Value} {r c : Int} (h : TabAt w 108 Bt b L) {x : Int} {a : Option Addr} {m k : Nat} {p : Option Addr} (hT : ∀ p ∈ L, IsThing p.2) : Calls Try.prog 22 #[.pointer (some ⟨Bt, 0, none⟩), spotV r c, (thingV x a m k p)] w fun e w' => e = .returned (.int .i64 (setE L (r, c))) ∧ TabAt w' 108 Bt b (setL L (r, c) (thingV x a m k p)) ∧ w.grownBy w' (some b) := by
  rcases setE_cases L (r, c) (thingV x a m k p) with ⟨hm, e1, e2⟩ | ⟨hm, hh, hf, e1, e2⟩ | ⟨hm, hh, hf, e1, e2⟩ | ⟨hm, hh, e1, e2⟩
  · rw [e1, e2]
    exact (setG_no h hm).mono fun e w' ⟨he, hb⟩ => ⟨he, h.keep hb, grown_of_below hb _⟩
  · rw [e1, e2]
    exact (setG_full h hT hm hh hf).mono fun e w' ⟨he, hb⟩ => ⟨he, h.keep hb, grown_of_below hb _⟩
  · rw [e1, e2]
    exact setG_room h hT hm hh hf
  · rw [e1, e2]
    exact setG_has h hT hm hh
end Go.Proofs.Ytmfkeobjbcinpaa
