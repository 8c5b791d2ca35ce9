/- Set of a table of things of type quadrillelaw7.thing, in the words of the list that it holds. -/
import Derived.Test.YtmfkeobjbcinpaaOps7P
import Derived.Test.YtmfkeobjbcinpaaSet7
namespace Go.Proofs.Ytmfkeobjbcinpaa
open Go.RowKit Go.Maps
set_option linter.unusedVariables false

theorem tsetP {w : World} {Bt b : Nat} {L : Tb Value} {r c : Int} (h : TabAt w 105 Bt b L) (v : Value) : Calls Try.prog 21 #[.pointer (some ⟨Bt, 0, none⟩), spotV r c, v] w fun e w' => e = .returned (.int .i64 (setE L (r, c))) ∧ TabAt w' 105 Bt b (setL L (r, c) v) ∧ w.grownBy w' (some b) := by
  rcases setE_cases L (r, c) v with ⟨hm, e1, e2⟩ | ⟨hm, hh, hf, e1, e2⟩ | ⟨hm, hh, hf, e1, e2⟩ | ⟨hm, hh, e1, e2⟩
  · rw [e1, e2]
    exact (setP_no h _ hm).mono fun e w' ⟨he, hb⟩ => ⟨he, h.keep hb, grown_of_below hb _⟩
  · rw [e1, e2]
    exact (setP_full h v hm hh hf).mono fun e w' ⟨he, hb⟩ => ⟨he, h.keep hb, grown_of_below hb _⟩
  · rw [e1, e2]
    exact setP_room h v hm hh hf
  · rw [e1, e2]
    exact setP_has h v hm hh
end Go.Proofs.Ytmfkeobjbcinpaa
