/- LexAll: what the law answers, for every list of texts: true. Proved of the Go text. -/
import Derived.Test.YtcabgnikbgoikaaDoorBegun8
import Derived.Test.YtcabgnikbgoikaaDoorLen8
import Derived.Test.YtcabgnikbgoikaaDoorRf8g
namespace Go.Proofs.YtcabgnikbgoikaaDoor
open Go.RowKit Go.Sort
set_option linter.unusedVariables false

theorem WordsIn.none (w : World) : WordsIn w none [] := ⟨by simp, .inl rfl⟩
/-- A slice of texts: empty, or with its cells. -/
def TextsIn (w : World) (a : Option Addr) (len : Nat) : Prop := len = 0 ∨ ∃ b off, a = some ⟨b, off, none⟩ ∧ len ≤ maxLen ∧ ∀ j, j < len → ∃ s : ByteArray, w.cell? ⟨b, off + j, none⟩ = some (.string s) ∧ s.size ≤ maxLen
end Go.Proofs.YtcabgnikbgoikaaDoor
