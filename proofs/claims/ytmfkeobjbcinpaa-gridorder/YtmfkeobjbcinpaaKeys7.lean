/- Ranging over the places of a map: what the iterator asks of a round, what it answers; slices.AppendSeq, slices.Collect and slices.SortedFunc over it. Proved of the Go text. -/
import Derived.Test.YtmfkeobjbcinpaaSort7
import Derived.Maps.AppendAt
namespace Go.Proofs.Ytmfkeobjbcinpaa
open Go.RowKit Go.Shelf Go.Sort Go.Maps
set_option linter.unusedVariables false
attribute [local go_sem] Oper.semAt_some

abbrev KeyYields (n l N : Nat) (J Jx : List Sp → World → Prop) : Prop :=
  ∀ pre (x : Sp) W, J pre W → pre.length < N → YieldAt Fence.wide (n - 1) Try.prog l #[spotV x.1 x.2] W fun e W' =>
      (e = .returned (.bool true) ∧ J (pre ++ [x]) W' ∧ KeepsWalks W W') ∨ (e = .returned (.bool false) ∧ Jx (pre ++ [x]) W')
abbrev KeysGive (n g : Nat) (lb : Array Value) (S : List Sp → Prop) (N : Nat) (w : World) : Prop :=
  SeqStopsK Fence.wide n Try.prog g lb (fun x : Sp => #[spotV x.1 x.2]) KeepsWalks S (fun _ => True) N w
theorem Rng.walk {w : World} {b r0 : Nat} {L : Tb Value} {C : List Sp} (h : Rng w b r0 L C) : ∃ o : Obj, w.heap[r0]? = some o ∧ o.isWalk = true := by obtain ⟨m, s, q, c, e⟩ := h.iter; exact ⟨_, e, rfl⟩
theorem Rng.walks {w w' : World} {b r0 : Nat} {L : Tb Value} {C : List Sp} (h : Rng w b r0 L C) (hk : KeepsWalks w w') : Rng w' b r0 L C := by
  obtain ⟨es, clock, since, seen, c0, hb, F, hr, rest⟩ := h
  exact ⟨es, clock, since, seen, c0, hk.same _ _ hb rfl, F, hk.same _ _ hr rfl, rest⟩
end Go.Proofs.Ytmfkeobjbcinpaa
