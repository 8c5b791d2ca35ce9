/-
  No cell of these rows narrows 'for every input' (looked for: loops, veiled, ifaces, maps, wideKeys, modest, calm, conditions, laid).
  DERIVED. THE GIVEN ROWS OF THIS SEAT. 4 by the template 'for every input the law returns true; each argument reads behind the call as it read before'; 0 by the template 'total and deterministic' (their statements: YtmfkeobjbcinpaaTotals.lean).
  GIVEN WITH THE SEED: the statements are not yours to turn. If you find one false, say at which input.
  Laid BY PROGRAM, IN A SANDBOX (cutbox-rows.mjs): the forced cells as the released guide's own fill.sh prints them over the translation fc1660fd14b6671d… (all of the seat's roots in one cut). By AI agents, Wed Nov 11 2026. No macro, syntax, notation, axiom, sorry.
-/
import Derived.Test.YtmfkeobjbcinpaaChecked
import GoSem.Claim
import GoSem.ClaimJoined
import GoSem.ClaimMapViews
import Derived.JoinedTies
import Derived.KernelRfl
namespace Go.Proofs.Ytmfkeobjbcinpaa
/- THE CELL 'sum', in the pinned program and in every row, IS THE sha256 OF THE DUMP (.gsa) THAT YtmfkeobjbcinpaaProg.lean LOADS. Nothing in Lean hashes anything: it is a label: what it is worth is what the hold of that sum in a sandbox is worth. -/
noncomputable def Try.pinned : Pinned := { name := "ytmfkeobjbcinpaa", sum := "fc1660fd14b6671d4c804373f375bedf1cd441da2ef759bc01a7c0f79c8ac59b", checked := Try.checked }
namespace Rows
def none {H : Type} : Left H := { results := [], args := [] }

/-- 'quadrillelaw7.GridAll': WHATEVER THE INPUT: true; the input reads as it did. -/
def gridAllSpec : ChangeSpec := { name := "gridAll", fn := fun _ => fun
  | [d] => { results := [.lit (.bool true)], args := [d] }
  | _ => none }
def gridAllRow : OpenClaim := { program := "ytmfkeobjbcinpaa", sum := "fc1660fd14b6671d4c804373f375bedf1cd441da2ef759bc01a7c0f79c8ac59b", func := "quadrille/quadrillelaw7.GridAll", spec := "gridAll", unfollowed := true, recurses := true, plainKeys := false, apart := false }
def GridAllSaid : Prop := gridAllRow.holds Try.pinned (OpenSpec.ofChange gridAllSpec)

/-- ITS FALSE NEIGHBOUR: 'it returns false'. Refute it at one input. -/
def gridAllWrong : ChangeSpec := { name := "gridAll", fn := fun _ => fun
  | [d] => { results := [.lit (.bool false)], args := [d] }
  | _ => none }
def GridAllWrongFalsely : Prop := gridAllRow.holds Try.pinned (OpenSpec.ofChange gridAllWrong)

/-- 'quadrillelaw7.GridOrder': WHATEVER THE INPUT: true; the input reads as it did. -/
def gridOrderSpec : ChangeSpec := { name := "gridOrder", fn := fun _ => fun
  | [d1, d2] => { results := [.lit (.bool true)], args := [d1, d2] }
  | _ => none }
def gridOrderRow : OpenClaim := { program := "ytmfkeobjbcinpaa", sum := "fc1660fd14b6671d4c804373f375bedf1cd441da2ef759bc01a7c0f79c8ac59b", func := "quadrille/quadrillelaw7.GridOrder", spec := "gridOrder", unfollowed := true, recurses := true, plainKeys := false, apart := false }
def GridOrderSaid : Prop := gridOrderRow.holds Try.pinned (OpenSpec.ofChange gridOrderSpec)

/-- ITS FALSE NEIGHBOUR: 'it returns false'. Refute it at one input. -/
def gridOrderWrong : ChangeSpec := { name := "gridOrder", fn := fun _ => fun
  | [d1, d2] => { results := [.lit (.bool false)], args := [d1, d2] }
  | _ => none }
def GridOrderWrongFalsely : Prop := gridOrderRow.holds Try.pinned (OpenSpec.ofChange gridOrderWrong)

/-- 'quadrillelaw7.GridShares': WHATEVER THE INPUT: true; the input reads as it did. -/
def gridSharesSpec : ChangeSpec := { name := "gridShares", fn := fun _ => fun
  | [d] => { results := [.lit (.bool true)], args := [d] }
  | _ => none }
def gridSharesRow : OpenClaim := { program := "ytmfkeobjbcinpaa", sum := "fc1660fd14b6671d4c804373f375bedf1cd441da2ef759bc01a7c0f79c8ac59b", func := "quadrille/quadrillelaw7.GridShares", spec := "gridShares", unfollowed := true, recurses := true, plainKeys := false, apart := false }
def GridSharesSaid : Prop := gridSharesRow.holds Try.pinned (OpenSpec.ofChange gridSharesSpec)

/-- ITS FALSE NEIGHBOUR: 'it returns false'. Refute it at one input. -/
def gridSharesWrong : ChangeSpec := { name := "gridShares", fn := fun _ => fun
  | [d] => { results := [.lit (.bool false)], args := [d] }
  | _ => none }
def GridSharesWrongFalsely : Prop := gridSharesRow.holds Try.pinned (OpenSpec.ofChange gridSharesWrong)

/-- 'quadrillelaw7.GridFull': WHATEVER THE INPUT: true; the input reads as it did. -/
def gridFullSpec : ChangeSpec := { name := "gridFull", fn := fun _ => fun
  | [] => { results := [.lit (.bool true)], args := [] }
  | _ => none }
def gridFullRow : OpenClaim := { program := "ytmfkeobjbcinpaa", sum := "fc1660fd14b6671d4c804373f375bedf1cd441da2ef759bc01a7c0f79c8ac59b", func := "quadrille/quadrillelaw7.GridFull", spec := "gridFull", unfollowed := true, recurses := true, plainKeys := false, apart := false }
def GridFullSaid : Prop := gridFullRow.holds Try.pinned (OpenSpec.ofChange gridFullSpec)

/-- ITS FALSE NEIGHBOUR: 'it returns false'. Refute it at one input. -/
def gridFullWrong : ChangeSpec := { name := "gridFull", fn := fun _ => fun
  | [] => { results := [.lit (.bool false)], args := [] }
  | _ => none }
def GridFullWrongFalsely : Prop := gridFullRow.holds Try.pinned (OpenSpec.ofChange gridFullWrong)

/- THE SECOND FORM. 'bulk': how many values and letters a reading holds, each counted each time it is reached (what is shared counts as often as it is met; a slice's spare places count too). A statement '..UptoSaid' is the law's where the arguments, and the package variables that the reading takes, are together of bulk at most 1048576: NARROWER than '..Said'. Prove '..Said' where nothing that the law and all that it calls make is longer than what came in: it says more and counts as full. Else prove '..UptoSaid'. A law counts once. -/
mutual
def uptoBulk {H : Type} : DataW H → Nat
  | .lit (.string bytes) => bytes.length + 1
  | .lit _ => 1
  | .nil => 1
  | .ptr d => uptoBulk d + 1
  | .slice elems spare => uptoBulkAll elems + uptoBulkAll spare + 1
  | .agg parts => uptoBulkAll parts + 1
  | .iface _ d => uptoBulk d + 1
  | .map entries => uptoBulkEntries entries + 1
  | .held _ => 1
def uptoBulkAll {H : Type} : List (DataW H) → Nat
  | [] => 0
  | d :: r => uptoBulk d + uptoBulkAll r
def uptoBulkEntries {H : Type} : List (Lit × DataW H) → Nat
  | [] => 0
  | x :: r => uptoBulkEntry x + uptoBulkEntries r
def uptoBulkEntry {H : Type} : Lit × DataW H → Nat
  | (.string bytes, d) => bytes.length + uptoBulk d + 1
  | (_, d) => uptoBulk d + 1
 end
def uptoSmall : (H : Type) → List (DataW H) → Bool := fun _ ds => decide (uptoBulkAll ds ≤ 1048576)
def OpenSpec.upto (s : _root_.Go.ChangeSpec) : _root_.Go.OpenSpec := { _root_.Go.OpenSpec.ofChange s with cond := some uptoSmall }

/-- 'quadrillelaw7.GridAll', WHERE WHAT IT READS IS OF BULK AT MOST 1048576: true; the input reads as it did. -/
def gridAllUptoRow : OpenClaim := { program := "ytmfkeobjbcinpaa", sum := "fc1660fd14b6671d4c804373f375bedf1cd441da2ef759bc01a7c0f79c8ac59b", func := "quadrille/quadrillelaw7.GridAll", spec := "gridAll", unfollowed := true, recurses := true, plainKeys := false, apart := false, narrowed := true }
def GridAllUptoSaid : Prop := gridAllUptoRow.holds Try.pinned (OpenSpec.upto gridAllSpec)

/-- 'quadrillelaw7.GridOrder', WHERE WHAT IT READS IS OF BULK AT MOST 1048576: true; the input reads as it did. -/
def gridOrderUptoRow : OpenClaim := { program := "ytmfkeobjbcinpaa", sum := "fc1660fd14b6671d4c804373f375bedf1cd441da2ef759bc01a7c0f79c8ac59b", func := "quadrille/quadrillelaw7.GridOrder", spec := "gridOrder", unfollowed := true, recurses := true, plainKeys := false, apart := false, narrowed := true }
def GridOrderUptoSaid : Prop := gridOrderUptoRow.holds Try.pinned (OpenSpec.upto gridOrderSpec)

/-- 'quadrillelaw7.GridShares', WHERE WHAT IT READS IS OF BULK AT MOST 1048576: true; the input reads as it did. -/
def gridSharesUptoRow : OpenClaim := { program := "ytmfkeobjbcinpaa", sum := "fc1660fd14b6671d4c804373f375bedf1cd441da2ef759bc01a7c0f79c8ac59b", func := "quadrille/quadrillelaw7.GridShares", spec := "gridShares", unfollowed := true, recurses := true, plainKeys := false, apart := false, narrowed := true }
def GridSharesUptoSaid : Prop := gridSharesUptoRow.holds Try.pinned (OpenSpec.upto gridSharesSpec)

/-- 'quadrillelaw7.GridFull', WHERE WHAT IT READS IS OF BULK AT MOST 1048576: true; the input reads as it did. -/
def gridFullUptoRow : OpenClaim := { program := "ytmfkeobjbcinpaa", sum := "fc1660fd14b6671d4c804373f375bedf1cd441da2ef759bc01a7c0f79c8ac59b", func := "quadrille/quadrillelaw7.GridFull", spec := "gridFull", unfollowed := true, recurses := true, plainKeys := false, apart := false, narrowed := true }
def GridFullUptoSaid : Prop := gridFullUptoRow.holds Try.pinned (OpenSpec.upto gridFullSpec)

end Rows
end Go.Proofs.Ytmfkeobjbcinpaa
