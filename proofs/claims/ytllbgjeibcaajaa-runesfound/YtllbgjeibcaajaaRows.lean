/-
  No cell of these rows narrows 'for every input' (looked for: loops, veiled, ifaces, maps, wideKeys, modest, calm, conditions, laid).
  DERIVED. THE GIVEN ROWS OF THIS SEAT. 5 by the template 'for every input the law returns true; each argument reads behind the call as it read before'; 0 by the template 'total and deterministic' (their statements: YtllbgjeibcaajaaTotals.lean).
  GIVEN WITH THE SEED: the statements are not yours to turn. If you find one false, say at which input.
  Laid BY PROGRAM, IN A SANDBOX (cutbox-rows.mjs): the forced cells as the released guide's own fill.sh prints them over the translation 4dea1a9747697c55… (all of the seat's roots in one cut). By AI agents, Wed Nov 11 2026. No macro, syntax, notation, axiom, sorry.
-/
import Derived.Test.YtllbgjeibcaajaaChecked
import GoSem.Claim
import GoSem.ClaimJoined
import GoSem.ClaimMapViews
import Derived.JoinedTies
import Derived.KernelRfl
namespace Go.Proofs.Ytllbgjeibcaajaa
/- THE CELL 'sum', in the pinned program and in every row, IS THE sha256 OF THE DUMP (.gsa) THAT YtllbgjeibcaajaaProg.lean LOADS. Nothing in Lean hashes anything: it is a label: what it is worth is what the hold of that sum in a sandbox is worth. -/
noncomputable def Try.pinned : Pinned := { name := "ytllbgjeibcaajaa", sum := "4dea1a9747697c556d56ad693167f5cca0b3ff7e420f1e5f795ba5a23a3b6331", checked := Try.checked }
namespace Rows
def none {H : Type} : Left H := { results := [], args := [] }

/-- 'quadrillelaw5.RunesHalves': WHATEVER THE INPUT: true; the input reads as it did. -/
def runesHalvesSpec : ChangeSpec := { name := "runesHalves", fn := fun _ => fun
  | [d1, d2, d3] => { results := [.lit (.bool true)], args := [d1, d2, d3] }
  | _ => none }
def runesHalvesRow : OpenClaim := { program := "ytllbgjeibcaajaa", sum := "4dea1a9747697c556d56ad693167f5cca0b3ff7e420f1e5f795ba5a23a3b6331", func := "quadrille/quadrillelaw5.RunesHalves", spec := "runesHalves", inPlace := ["internal/bytealg.IndexByteString", "internal/bytealg.IndexString"], unfollowed := true, recurses := true, named := ["internal/bytealg.MaxLen"], apart := false }
def RunesHalvesSaid : Prop := runesHalvesRow.holds Try.pinned (OpenSpec.ofChange runesHalvesSpec)

/-- ITS FALSE NEIGHBOUR: 'it returns false'. Refute it at one input. -/
def runesHalvesWrong : ChangeSpec := { name := "runesHalves", fn := fun _ => fun
  | [d1, d2, d3] => { results := [.lit (.bool false)], args := [d1, d2, d3] }
  | _ => none }
def RunesHalvesWrongFalsely : Prop := runesHalvesRow.holds Try.pinned (OpenSpec.ofChange runesHalvesWrong)

/-- 'quadrillelaw5.RunesNumbers': WHATEVER THE INPUT: true; the input reads as it did. -/
def runesNumbersSpec : ChangeSpec := { name := "runesNumbers", fn := fun _ => fun
  | [d1, d2] => { results := [.lit (.bool true)], args := [d1, d2] }
  | _ => none }
def runesNumbersRow : OpenClaim := { program := "ytllbgjeibcaajaa", sum := "4dea1a9747697c556d56ad693167f5cca0b3ff7e420f1e5f795ba5a23a3b6331", func := "quadrille/quadrillelaw5.RunesNumbers", spec := "runesNumbers", inPlace := ["internal/bytealg.IndexByteString", "internal/bytealg.IndexString"], unfollowed := true, recurses := true, named := ["internal/bytealg.MaxLen"], apart := false }
def RunesNumbersSaid : Prop := runesNumbersRow.holds Try.pinned (OpenSpec.ofChange runesNumbersSpec)

/-- ITS FALSE NEIGHBOUR: 'it returns false'. Refute it at one input. -/
def runesNumbersWrong : ChangeSpec := { name := "runesNumbers", fn := fun _ => fun
  | [d1, d2] => { results := [.lit (.bool false)], args := [d1, d2] }
  | _ => none }
def RunesNumbersWrongFalsely : Prop := runesNumbersRow.holds Try.pinned (OpenSpec.ofChange runesNumbersWrong)

/-- 'quadrillelaw5.RunesFound': WHATEVER THE INPUT: true; the input reads as it did. -/
def runesFoundSpec : ChangeSpec := { name := "runesFound", fn := fun _ => fun
  | [d1, d2, d3] => { results := [.lit (.bool true)], args := [d1, d2, d3] }
  | _ => none }
def runesFoundRow : OpenClaim := { program := "ytllbgjeibcaajaa", sum := "4dea1a9747697c556d56ad693167f5cca0b3ff7e420f1e5f795ba5a23a3b6331", func := "quadrille/quadrillelaw5.RunesFound", spec := "runesFound", inPlace := ["internal/bytealg.IndexByteString", "internal/bytealg.IndexString"], unfollowed := true, recurses := true, named := ["internal/bytealg.MaxLen"], apart := false }
def RunesFoundSaid : Prop := runesFoundRow.holds Try.pinned (OpenSpec.ofChange runesFoundSpec)

/-- ITS FALSE NEIGHBOUR: 'it returns false'. Refute it at one input. -/
def runesFoundWrong : ChangeSpec := { name := "runesFound", fn := fun _ => fun
  | [d1, d2, d3] => { results := [.lit (.bool false)], args := [d1, d2, d3] }
  | _ => none }
def RunesFoundWrongFalsely : Prop := runesFoundRow.holds Try.pinned (OpenSpec.ofChange runesFoundWrong)

/-- 'quadrillelaw5.RunesTrimmed': WHATEVER THE INPUT: true; the input reads as it did. -/
def runesTrimmedSpec : ChangeSpec := { name := "runesTrimmed", fn := fun _ => fun
  | [d] => { results := [.lit (.bool true)], args := [d] }
  | _ => none }
def runesTrimmedRow : OpenClaim := { program := "ytllbgjeibcaajaa", sum := "4dea1a9747697c556d56ad693167f5cca0b3ff7e420f1e5f795ba5a23a3b6331", func := "quadrille/quadrillelaw5.RunesTrimmed", spec := "runesTrimmed", inPlace := ["internal/bytealg.IndexByteString", "internal/bytealg.IndexString"], unfollowed := true, recurses := true, named := ["internal/bytealg.MaxLen"], apart := false }
def RunesTrimmedSaid : Prop := runesTrimmedRow.holds Try.pinned (OpenSpec.ofChange runesTrimmedSpec)

/-- ITS FALSE NEIGHBOUR: 'it returns false'. Refute it at one input. -/
def runesTrimmedWrong : ChangeSpec := { name := "runesTrimmed", fn := fun _ => fun
  | [d] => { results := [.lit (.bool false)], args := [d] }
  | _ => none }
def RunesTrimmedWrongFalsely : Prop := runesTrimmedRow.holds Try.pinned (OpenSpec.ofChange runesTrimmedWrong)

/-- 'quadrillelaw5.RunesTimes': WHATEVER THE INPUT: true; the input reads as it did. -/
def runesTimesSpec : ChangeSpec := { name := "runesTimes", fn := fun _ => fun
  | [d1, d2, d3] => { results := [.lit (.bool true)], args := [d1, d2, d3] }
  | _ => none }
def runesTimesRow : OpenClaim := { program := "ytllbgjeibcaajaa", sum := "4dea1a9747697c556d56ad693167f5cca0b3ff7e420f1e5f795ba5a23a3b6331", func := "quadrille/quadrillelaw5.RunesTimes", spec := "runesTimes", inPlace := ["internal/bytealg.IndexByteString", "internal/bytealg.IndexString", "internal/abi.NoEscape", "internal/bytealg.MakeNoZero"], unfollowed := true, recurses := true, named := ["internal/bytealg.MaxLen"], apart := false }
def RunesTimesSaid : Prop := runesTimesRow.holds Try.pinned (OpenSpec.ofChange runesTimesSpec)

/-- ITS FALSE NEIGHBOUR: 'it returns false'. Refute it at one input. -/
def runesTimesWrong : ChangeSpec := { name := "runesTimes", fn := fun _ => fun
  | [d1, d2, d3] => { results := [.lit (.bool false)], args := [d1, d2, d3] }
  | _ => none }
def RunesTimesWrongFalsely : Prop := runesTimesRow.holds Try.pinned (OpenSpec.ofChange runesTimesWrong)

/- THE SECOND FORM. 'bulk': how many values and letters a reading holds, each counted each time it is reached (what is shared counts as often as it is met; a slice's spare places count too). A statement '..UptoSaid' is the law's where the arguments, and the package variables that the reading takes, are together of bulk at most 1048576: NARROWER than '..Said'. Prove '..Said' where nothing that the law and all that it calls make is longer than what came in: it says more and counts as full. Else prove '..UptoSaid'. A law counts once. -/
mutual
def uptoBulk {H : Type} : DataW H → Nat
  | .lit (.string bytes) => bytes.length + 1
  | .lit _ => 1
  | .nil => 1
  | .ptr d => uptoBulk d + 1
  | .slice elems spare => uptoBulkAll elems + uptoBulkAll spare + 1
  | .agg parts => uptoBulkAll parts + 1
  | .iface _ d => uptoBulk d + 1
  | .map entries => uptoBulkEntries entries + 1
  | .held _ => 1
def uptoBulkAll {H : Type} : List (DataW H) → Nat
  | [] => 0
  | d :: r => uptoBulk d + uptoBulkAll r
def uptoBulkEntries {H : Type} : List (Lit × DataW H) → Nat
  | [] => 0
  | x :: r => uptoBulkEntry x + uptoBulkEntries r
def uptoBulkEntry {H : Type} : Lit × DataW H → Nat
  | (.string bytes, d) => bytes.length + uptoBulk d + 1
  | (_, d) => uptoBulk d + 1
 end
def uptoSmall : (H : Type) → List (DataW H) → Bool := fun _ ds => decide (uptoBulkAll ds ≤ 1048576)
def OpenSpec.upto (s : _root_.Go.ChangeSpec) : _root_.Go.OpenSpec := { _root_.Go.OpenSpec.ofChange s with cond := some uptoSmall }

/-- 'quadrillelaw5.RunesHalves', WHERE WHAT IT READS IS OF BULK AT MOST 1048576: true; the input reads as it did. -/
def runesHalvesUptoRow : OpenClaim := { program := "ytllbgjeibcaajaa", sum := "4dea1a9747697c556d56ad693167f5cca0b3ff7e420f1e5f795ba5a23a3b6331", func := "quadrille/quadrillelaw5.RunesHalves", spec := "runesHalves", inPlace := ["internal/bytealg.IndexByteString", "internal/bytealg.IndexString"], unfollowed := true, recurses := true, named := ["internal/bytealg.MaxLen"], apart := false, narrowed := true }
def RunesHalvesUptoSaid : Prop := runesHalvesUptoRow.holds Try.pinned (OpenSpec.upto runesHalvesSpec)

/-- 'quadrillelaw5.RunesNumbers', WHERE WHAT IT READS IS OF BULK AT MOST 1048576: true; the input reads as it did. -/
def runesNumbersUptoRow : OpenClaim := { program := "ytllbgjeibcaajaa", sum := "4dea1a9747697c556d56ad693167f5cca0b3ff7e420f1e5f795ba5a23a3b6331", func := "quadrille/quadrillelaw5.RunesNumbers", spec := "runesNumbers", inPlace := ["internal/bytealg.IndexByteString", "internal/bytealg.IndexString"], unfollowed := true, recurses := true, named := ["internal/bytealg.MaxLen"], apart := false, narrowed := true }
def RunesNumbersUptoSaid : Prop := runesNumbersUptoRow.holds Try.pinned (OpenSpec.upto runesNumbersSpec)

/-- 'quadrillelaw5.RunesFound', WHERE WHAT IT READS IS OF BULK AT MOST 1048576: true; the input reads as it did. -/
def runesFoundUptoRow : OpenClaim := { program := "ytllbgjeibcaajaa", sum := "4dea1a9747697c556d56ad693167f5cca0b3ff7e420f1e5f795ba5a23a3b6331", func := "quadrille/quadrillelaw5.RunesFound", spec := "runesFound", inPlace := ["internal/bytealg.IndexByteString", "internal/bytealg.IndexString"], unfollowed := true, recurses := true, named := ["internal/bytealg.MaxLen"], apart := false, narrowed := true }
def RunesFoundUptoSaid : Prop := runesFoundUptoRow.holds Try.pinned (OpenSpec.upto runesFoundSpec)

/-- 'quadrillelaw5.RunesTrimmed', WHERE WHAT IT READS IS OF BULK AT MOST 1048576: true; the input reads as it did. -/
def runesTrimmedUptoRow : OpenClaim := { program := "ytllbgjeibcaajaa", sum := "4dea1a9747697c556d56ad693167f5cca0b3ff7e420f1e5f795ba5a23a3b6331", func := "quadrille/quadrillelaw5.RunesTrimmed", spec := "runesTrimmed", inPlace := ["internal/bytealg.IndexByteString", "internal/bytealg.IndexString"], unfollowed := true, recurses := true, named := ["internal/bytealg.MaxLen"], apart := false, narrowed := true }
def RunesTrimmedUptoSaid : Prop := runesTrimmedUptoRow.holds Try.pinned (OpenSpec.upto runesTrimmedSpec)

/-- 'quadrillelaw5.RunesTimes', WHERE WHAT IT READS IS OF BULK AT MOST 1048576: true; the input reads as it did. -/
def runesTimesUptoRow : OpenClaim := { program := "ytllbgjeibcaajaa", sum := "4dea1a9747697c556d56ad693167f5cca0b3ff7e420f1e5f795ba5a23a3b6331", func := "quadrille/quadrillelaw5.RunesTimes", spec := "runesTimes", inPlace := ["internal/bytealg.IndexByteString", "internal/bytealg.IndexString", "internal/abi.NoEscape", "internal/bytealg.MakeNoZero"], unfollowed := true, recurses := true, named := ["internal/bytealg.MaxLen"], apart := false, narrowed := true }
def RunesTimesUptoSaid : Prop := runesTimesUptoRow.holds Try.pinned (OpenSpec.upto runesTimesSpec)

end Rows
end Go.Proofs.Ytllbgjeibcaajaa
