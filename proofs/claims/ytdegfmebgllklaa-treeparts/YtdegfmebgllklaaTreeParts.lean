/- TreeParts: the law's walk, for every tree. -/
import Derived.Test.YtdegfmebgllklaaParts9a
import Derived.Test.YtdegfmebgllklaaParts9b
import Derived.Test.YtdegfmebgllklaaParts9c
import Derived.Test.YtdegfmebgllklaaParts9d
import Derived.Test.YtdegfmebgllklaaParts9e
namespace Go.Proofs.Ytdegfmebgllklaa
open Go.RowKit Go.Sort
set_option linter.unusedVariables false

theorem treeParts_walk (t : Ex) (v : Value) (w : World) (ht : Tree w v t) : Calls Try.prog 6 #[v] w fun e w' => e = .returned (.bool true) ∧ Below w.heap.size w w' := by
  obtain ⟨nd, ks⟩ := t
  cases hf : fitB (.mk nd ks)
  · exact parts_great nd ks v w ht hf
  · cases ha : allE (.mk nd ks)
    · by_cases h2 : nd.kind = 2
      · exact parts_no2 nd ks v w ht hf ha h2
      · exact parts_no nd ks v w ht hf ha h2
    · by_cases h2 : nd.kind = 2
      · exact parts_yes2 nd ks v w ht hf ha h2 ⟨by omega, by omega⟩
      · by_cases h5 : nd.kind = 5
        · exact parts_yes5 nd ks v w ht hf ha h2 h5
        · by_cases h6 : nd.kind = 6
          · exact parts_yes6 nd ks v w ht hf ha h2 h6
          · exact parts_yes nd ks v w ht hf ha h2 ⟨h5, h6⟩
end Go.Proofs.Ytdegfmebgllklaa
