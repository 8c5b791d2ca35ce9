/- quadrillelaw13.begun is true. -/
import Derived.Test.YtmoekapoajkaiaaPair13
namespace Go.Proofs.Ytmoekapoajkaiaa
open Go.RowKit Go.Sort Go.Maps
set_option linter.unusedVariables false

theorem fn_info (n : ByteArray) (c mn mx : Int) : (Try.prog.info? 28).map (·.size) = some (#[Value.string n, .int .i64 c, .int .i64 mn, .int .i64 mx] : Array Value).size := by
  show _ = some 4
  kernel_rfl
theorem nm53 : nm 53 = ⟨#[83, 85, 77]⟩ := by decide +kernel
theorem nm_sum : ∀ i, i < 76 → nm i ≠ ⟨#[115, 117, 109]⟩ := by decide +kernel
theorem tab41 : tab.getD 41 (no, 0, 0) = (⟨#[73, 70]⟩, 2, 3) := by decide +kernel
theorem info42 (w : World) : Calls Try.prog 9 #[.int .i64 42] w fun e w' => e = .returned (.tuple #[fnV ⟨#[73, 70]⟩ 3 2 3, .int .i64 0]) ∧ Below w.heap.size w w' := by
  have q := info_yes 41 (by omega) w
  have h : (tab[41]'(by rw [tab_len]; omega)) = (⟨#[73, 70]⟩, 2, 3) := by
    have := tab41
    rwa [List.getD_eq_getElem?_getD, List.getElem?_eq_getElem (by rw [tab_len]; omega)] at this
  rw [h] at q
  exact q
set_option maxHeartbeats 2000000 in
set_option maxRecDepth 100000 in
theorem begun13 (w : World) : Calls Try.prog 6 #[] w fun e w' => e = .returned (.bool true) ∧ Below w.heap.size w w' := by
  have H1 := hide (fun w => find_yes 53 (by omega) w)
  rw [nm53] at H1
  have H2 := hide (fun w => find_no ⟨#[115, 117, 109]⟩ (by decide) nm_sum w)
  have H3 := hide info42
  go_enter Try.func6, Try.ntmps6
  go_wp2_with (first
    | (go_at_call 7; refine (H1.out _).mono ?_; rintro e w1 ⟨rfl, b1⟩; replace b1 := hide b1; clear H1)
    | (go_at_call 7; refine (H2.out _).mono ?_; rintro e w2 ⟨rfl, b2⟩; replace b2 := hide (next b1.out b2); clear b1 H2)
    | (go_at_call 9; refine (H3.out _).mono ?_; rintro e w3 ⟨rfl, b3⟩; replace b3 := hide (next b2.out b3); clear b2 H3))
  go_ret
  refine ⟨rfl, ?_⟩
  have bb := b3.out
  have bz := bb.size
  go_grown
  all_goals exact bz
end Go.Proofs.Ytmoekapoajkaiaa
