/- TreeBounds' mathematics: chains, lists and texts just at the bounds. -/
import Derived.Test.YtdegfmebgllklaaTurnM9
namespace Go.Proofs.Ytdegfmebgllklaa
open Go.RowKit Go.Sort
set_option linter.unusedVariables false

abbrev rf0 : Rf := ⟨0, 0, false, false⟩
abbrev ndI : Nd := ⟨1, 0, 0, no, ⟨0, 0, false, false⟩, ⟨0, 0, false, false⟩, 0⟩
abbrev ndU : Nd := ⟨7, 1, 0, no, ⟨0, 0, false, false⟩, ⟨0, 0, false, false⟩, 0⟩
abbrev ndS : Nd := ⟨9, 0, 0, no, ⟨0, 0, false, false⟩, ⟨0, 0, false, false⟩, 54⟩
abbrev ndL : Nd := ⟨3, 0, 0, no, ⟨0, 0, false, false⟩, ⟨0, 0, false, false⟩, 0⟩
abbrev ndX (s : ByteArray) : Nd := ⟨2, 0, 0, s, ⟨0, 0, false, false⟩, ⟨0, 0, false, false⟩, 0⟩
/-- A chain of signs above a number. -/
def ch : Nat → Ex
  | 0 => .mk ndI []
  | k + 1 => .mk ndU [ch k]
def chN : Nat → Nd
  | 0 => ndI
  | _ + 1 => ndU
theorem ch_nd : ∀ k, (ch k).nd = chN k
  | 0 => rfl
  | _ + 1 => rfl
theorem ch_size : ∀ k, nodesE (ch k) = k + 1 ∧ depthE (ch k) = k + 1 ∧ bytesE (ch k) = 0 ∧ allE (ch k) = true ∧ SmE (ch k)
  | 0 => ⟨by decide +kernel, by decide +kernel, by decide +kernel, by decide +kernel, by rw [ch]; unfold SmE; exact ⟨by decide, by decide, by unfold SmL; trivial⟩⟩
  | k + 1 => by
    obtain ⟨h1, h2, h3, h4, h5⟩ := ch_size k
    rw [ch, nodesE, depthE, bytesE, allE, nodesL, depthL, bytesL, allL, nodesL, depthL, bytesL, allL, h1, h2, h3, h4]
    refine ⟨by omega, by omega, by decide, ?_, ?_⟩
    · show (toldB ndU 1 && (true && true)) = true
      decide +kernel
    · unfold SmE
      exact ⟨by decide, by show 1 ≤ _; decide, by unfold SmL; exact ⟨h5, by unfold SmL; trivial⟩⟩
theorem fit_ch {k : Nat} (hk : k ≤ 100) : fitB (ch k) = decide (k + 1 ≤ 64) := by
  obtain ⟨h1, h2, h3, _, _⟩ := ch_size k
  unfold fitB
  rw [h1, h2, h3]
  by_cases h : k + 1 ≤ 64
  · rw [decide_eq_true h]; exact decide_eq_true ⟨by omega, by omega, by omega⟩
  · rw [decide_eq_false h]; exact decide_eq_false (fun e => h e.2.1)
theorem may_ch {k : Nat} (hk : k ≤ 100) : mayR (ch k) = if 64 < k + 1 then 2 else 0 := by
  unfold mayR
  rw [fit_ch hk, (ch_size k).2.2.2.1]
  by_cases h : k + 1 ≤ 64
  · rw [decide_eq_true h]; simp; omega
  · rw [decide_eq_false h]; simp; omega
/-- A list of truths. -/
abbrev leafL : Ex := .mk ndL []
def li (w : Nat) : Ex := .mk ndS (List.replicate w leafL)
theorem rep_size : ∀ w : Nat, nodesL (List.replicate w leafL) = w ∧ depthL (List.replicate w leafL) ≤ 1 ∧ bytesL (List.replicate w leafL) = 0 ∧ allL (List.replicate w leafL) = true
  | 0 => ⟨rfl, by decide, rfl, rfl⟩
  | w + 1 => by
    obtain ⟨h1, h2, h3, h4⟩ := rep_size w
    rw [List.replicate_succ, nodesL, depthL, bytesL, allL, h1, h3, h4]
    refine ⟨?_, ?_, ?_, ?_⟩
    · rw [show nodesE leafL = 1 by decide +kernel]; omega
    · rw [show depthE leafL = 1 by decide +kernel]; omega
    · decide +kernel
    · decide +kernel
theorem tab53 : (tab[53]'(by rw [tab_len]; omega)).2 = ((1 : Int), (-1 : Int)) := by decide +kernel
theorem told_sum {w : Nat} (hw : 1 ≤ w) : toldB ndS w = true := by
  unfold toldB okOf leftOf restOf
  simp only [Bool.and_eq_true]
  refine ⟨⟨?_, rfl⟩, by decide +kernel⟩
  show takesB 54 w = true
  unfold takesB
  rw [dif_pos (by omega)]
  have h1 : (tab[((54 : Int) - 1).toNat]'(by rw [tab_len]; decide)).2 = ((1 : Int), (-1 : Int)) := tab53
  rw [h1]
  simp only [Bool.and_eq_true, Bool.or_eq_true, decide_eq_true_eq]
  exact ⟨by omega, .inr (by decide)⟩
theorem li_size {w : Nat} (hw : 1 ≤ w) : nodesE (li w) = 1 + w ∧ depthE (li w) ≤ 2 ∧ bytesE (li w) = 0 ∧ allE (li w) = true := by
  obtain ⟨h1, h2, h3, h4⟩ := rep_size w
  unfold li
  rw [nodesE, depthE, bytesE, allE, h1, h3, h4, List.length_replicate, told_sum hw]
  exact ⟨rfl, by omega, by decide, rfl⟩
theorem fit_li {w : Nat} (hw : 1 ≤ w) : fitB (li w) = decide (w ≤ 511) := by
  obtain ⟨h1, h2, h3, _⟩ := li_size hw
  unfold fitB
  rw [h1, h3]
  by_cases h : w ≤ 511
  · rw [decide_eq_true h]; exact decide_eq_true ⟨by omega, by omega, by omega⟩
  · rw [decide_eq_false h]; exact decide_eq_false (fun e => by have := e.1; omega)
theorem may_li {w : Nat} (hw : 1 ≤ w) : mayR (li w) = if 511 < w then 2 else 0 := by
  unfold mayR
  rw [fit_li hw, (li_size hw).2.2.2]
  by_cases h : w ≤ 511
  · rw [decide_eq_true h]; simp; omega
  · rw [decide_eq_false h]; simp; omega
theorem rep_sm (w : Nat) : SmL (List.replicate w leafL) := SmL_of fun k hk => by
  rw [List.eq_of_mem_replicate hk]; unfold SmE; exact ⟨by decide, by decide, by unfold SmL; trivial⟩
/-- A text. -/
def tx (s : ByteArray) : Ex := .mk (ndX s) []
theorem fit_tx (s : ByteArray) : fitB (tx s) = decide (s.size ≤ 16384) := by
  unfold fitB tx
  rw [nodesE, depthE, bytesE, nodesL, depthL, bytesL]
  by_cases h : s.size ≤ 16384
  · rw [decide_eq_true h]; exact decide_eq_true ⟨by omega, by omega, by rw [if_pos rfl]; exact h⟩
  · rw [decide_eq_false h]; exact decide_eq_false (fun e => h (by have := e.2.2; rw [if_pos rfl] at this; exact this))
theorem all_tx (s : ByteArray) : allE (tx s) = true := by
  unfold tx; rw [allE, allL]
  have : toldB (ndX s) ([] : List Ex).length = true := by
    unfold toldB okOf leftOf restOf
    simp [ndB, rfB]
  rw [this]; rfl
theorem may_tx (s : ByteArray) : mayR (tx s) = if 16384 < s.size then 2 else 0 := by
  unfold mayR
  rw [fit_tx, all_tx]
  by_cases h : s.size ≤ 16384
  · rw [decide_eq_true h]; simp; omega
  · rw [decide_eq_false h]; simp; omega
end Go.Proofs.Ytdegfmebgllklaa
