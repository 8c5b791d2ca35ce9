/- What Set answers of a table, and what the table holds then. -/
import Derived.Test.YtmfkeobjbcinpaaTabAt7
namespace Go.Proofs.Ytmfkeobjbcinpaa
open Go.RowKit Go.Maps
set_option linter.unusedVariables false

section
variable {α : Type}
def setE (L : Tb α) (s : Sp) : Int := if mayB s.1 s.2 = true then (if hasT L s = true ∨ (L.length : Int) < 65536 then 0 else 4) else 10
def setL (L : Tb α) (s : Sp) (x : α) : Tb α := if setE L s = 0 then insT L s x else L
theorem setE_cases (L : Tb α) (s : Sp) (x : α) : (mayB s.1 s.2 = false ∧ setE L s = 10 ∧ setL L s x = L) ∨ (mayB s.1 s.2 = true ∧ hasT L s = false ∧ 65536 ≤ (L.length : Int) ∧ setE L s = 4 ∧ setL L s x = L) ∨
    (mayB s.1 s.2 = true ∧ hasT L s = false ∧ (L.length : Int) < 65536 ∧ setE L s = 0 ∧ setL L s x = insT L s x) ∨ (mayB s.1 s.2 = true ∧ hasT L s = true ∧ setE L s = 0 ∧ setL L s x = insT L s x) := by
  unfold setL
  cases hm : mayB s.1 s.2
  · have e : setE L s = 10 := by unfold setE; rw [hm]; simp
    exact .inl ⟨rfl, e, by rw [e]; simp⟩
  · cases hh : hasT L s
    · by_cases hf : (L.length : Int) < 65536
      · have e : setE L s = 0 := by unfold setE; rw [hm, hh]; simp [hf]
        exact .inr (.inr (.inl ⟨rfl, rfl, hf, e, by rw [e]; simp⟩))
      · have e : setE L s = 4 := by unfold setE; rw [hm, hh]; simp [hf]
        exact .inr (.inl ⟨rfl, rfl, by omega, e, by rw [e]; simp⟩)
    · have e : setE L s = 0 := by unfold setE; rw [hm, hh]; simp
      exact .inr (.inr (.inr ⟨rfl, rfl, e, by rw [e]; simp⟩))
theorem setL_len {L : Tb α} (h : SortT L) (hl : L.length ≤ 65536) (s : Sp) (x : α) : (setL L s x).length ≤ 65536 := by
  rcases setE_cases L s x with ⟨_, _, e2⟩ | ⟨_, _, _, _, e2⟩ | ⟨_, hh, hf, _, e2⟩ | ⟨_, hh, _, e2⟩
  · rw [e2]; exact hl
  · rw [e2]; exact hl
  · rw [e2, insT_len h, hh]; simp; omega
  · rw [e2, insT_len h, hh]; simpa using hl
end
theorem grown_of_below {w w' : World} (hb : Below w.heap.size w w') (row : Option Nat) : w.grownBy w' row := ⟨hb.os, hb.tape, hb.output, hb.size, fun k hk _ => hb.block k hk⟩
set_option maxHeartbeats 1000000 in
theorem place_any (r c : Int) (w : World) : Calls Try.prog 12 #[.int .i64 r, .int .i64 c] w fun e w' => e = .returned (spotV r c) ∧ Below w.heap.size w w' := by
  go_enter Try.func12, Try.ntmps12
  go_wp2_with fail
  go_returns
  exact ⟨rfl, by go_grown⟩
end Go.Proofs.Ytmfkeobjbcinpaa
