/- RunesFound: where a text is found the rest begins with it, and at no rune ahead of it from there on: the law returns true, for every input. Proved of the Go text. -/
import Derived.Test.YtllbgjeibcaajaaFoundyy
import Derived.Test.YtllbgjeibcaajaaFoundyx
import Derived.Test.YtllbgjeibcaajaaFoundxy
import Derived.Test.YtllbgjeibcaajaaFoundxx
namespace Go.Proofs.Ytllbgjeibcaajaa
open Go.RowKit Go.Sort
set_option linter.unusedVariables false

theorem runesFound_walk (what s : ByteArray) (n : Nat) (hn : n ≤ 255) (w : World) (hT : Tab w) :
    Calls Try.prog 5 #[.string what, .string s, .int .u8 n] w fun e w' => e = .returned (.bool true) ∧ Below w.heap.size w w' := by
  by_cases c1 : s.size > 500
  · by_cases c2 : what.size > 500
    · skip
      have hz : (s.extract 0 500).size ≤ 500 := by rw [ByteArray.size_extract]; omega
      have hm := Nat.mod_lt n (show 0 < rc (s.extract 0 500) 0 + 2 by omega)
      by_cases h1 : n % (rc (s.extract 0 500) 0 + 2) + 1 = rc (s.extract 0 500) 0 + 2
      · exact found_no11 s what _ _ c1 rfl c2 rfl hz n _ _ hn rfl rfl h1 w hT
      · cases hF : fnd (s.extract 0 500) (what.extract 0 500) (rc (s.extract 0 500) 0 + 2 - (n % (rc (s.extract 0 500) 0 + 2) + 1)) (n % (rc (s.extract 0 500) 0 + 2) + 1) with
        | some q => exact found_some11 s what _ _ c1 rfl c2 rfl hz n _ _ hn rfl rfl (by omega) q hF w hT
        | none => exact found_none11 s what _ _ c1 rfl c2 rfl hz n _ _ hn rfl rfl (by omega) hF w hT
    · skip
      have hz : (s.extract 0 500).size ≤ 500 := by rw [ByteArray.size_extract]; omega
      have hm := Nat.mod_lt n (show 0 < rc (s.extract 0 500) 0 + 2 by omega)
      by_cases h1 : n % (rc (s.extract 0 500) 0 + 2) + 1 = rc (s.extract 0 500) 0 + 2
      · exact found_no10 s what _ c1 rfl c2 hz n _ _ hn rfl rfl h1 w hT
      · cases hF : fnd (s.extract 0 500) what (rc (s.extract 0 500) 0 + 2 - (n % (rc (s.extract 0 500) 0 + 2) + 1)) (n % (rc (s.extract 0 500) 0 + 2) + 1) with
        | some q => exact found_some10 s what _ c1 rfl c2 hz n _ _ hn rfl rfl (by omega) q hF w hT
        | none => exact found_none10 s what _ c1 rfl c2 hz n _ _ hn rfl rfl (by omega) hF w hT
  · by_cases c2 : what.size > 500
    · skip
      have hz : s.size ≤ 500 := by omega
      have hm := Nat.mod_lt n (show 0 < rc s 0 + 2 by omega)
      by_cases h1 : n % (rc s 0 + 2) + 1 = rc s 0 + 2
      · exact found_no01 s what _ c1 c2 rfl hz n _ _ hn rfl rfl h1 w hT
      · cases hF : fnd s (what.extract 0 500) (rc s 0 + 2 - (n % (rc s 0 + 2) + 1)) (n % (rc s 0 + 2) + 1) with
        | some q => exact found_some01 s what _ c1 c2 rfl hz n _ _ hn rfl rfl (by omega) q hF w hT
        | none => exact found_none01 s what _ c1 c2 rfl hz n _ _ hn rfl rfl (by omega) hF w hT
    · skip
      have hz : s.size ≤ 500 := by omega
      have hm := Nat.mod_lt n (show 0 < rc s 0 + 2 by omega)
      by_cases h1 : n % (rc s 0 + 2) + 1 = rc s 0 + 2
      · exact found_no00 s what c1 c2 hz n _ _ hn rfl rfl h1 w hT
      · cases hF : fnd s what (rc s 0 + 2 - (n % (rc s 0 + 2) + 1)) (n % (rc s 0 + 2) + 1) with
        | some q => exact found_some00 s what c1 c2 hz n _ _ hn rfl rfl (by omega) q hF w hT
        | none => exact found_none00 s what c1 c2 hz n _ _ hn rfl rfl (by omega) hF w hT
end Go.Proofs.Ytllbgjeibcaajaa
