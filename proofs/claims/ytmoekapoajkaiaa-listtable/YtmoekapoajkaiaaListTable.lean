/- ListTable: the law's walk. -/
import Derived.Test.YtmoekapoajkaiaaBegun13
namespace Go.Proofs.Ytmoekapoajkaiaa
open Go.RowKit Go.Sort Go.Maps
set_option linter.unusedVariables false

set_option maxHeartbeats 2000000 in
set_option maxRecDepth 100000 in
theorem listTable_walk (w : World) : Calls Try.prog 4 #[] w fun e w' => e = .returned (.bool true) ∧ Below w.heap.size w w' := by
  have HG := hide (begun13 w)
  go_enter Try.func4, Try.ntmps4
  go_wp2_with (go_at_call 6; refine HG.out.mono ?_; rintro e w0 ⟨rfl, hb⟩; have b0 := hide hb; clear hb)
  go_loopw [1] (fun i wr => ∃ f : Int, -2 ≤ f ∧ f ≤ 79 ∧ i = .int .i64 f ∧ Hid (Below w.heap.size w wr)) (fun i _ => (79 - intOf i).toNat)
  case atStart => exact ⟨-2, by omega, by omega, rfl, b0⟩
  case round =>
    obtain ⟨f, hf1, hf2, rfl, B⟩ := hrel
    by_cases hkt : f ≤ 78
    · have wk := IntWalk.wrap64_in (f + 1) ⟨by omega, by omega⟩
      obtain ⟨n, c, mn, mx, er, H1, H2⟩ := pair_info f
      replace H1 := hide H1
      replace H2 := hide H2
      replace hf1 := hide hf1
      replace hf2 := hide hf2
      go_wp2_with (first
        | (go_at_call 9; refine (H1.out _).mono ?_; rintro e w1 ⟨rfl, b1⟩; have B1 := hide (step (next B.out b1) (.cells #[.string n, .int .i64 c, .int .i64 mn, .int .i64 mx] 28)); have X1 := hide (Blk.new w1 #[.string n, .int .i64 c, .int .i64 mn, .int .i64 mx] 28); clear b1 H1)
        | (refine wpList_store_new rfl 28 _ _ rfl _ #[.string n, .int .i64 c, .int .i64 mn, .int .i64 mx] _ rfl rfl (by rfl) (fn_info n c mn mx) rfl (by rfl) ?_)
        | (go_at_call 10; refine (H2.out _).mono ?_; rintro e w2 ⟨rfl, b2⟩; have B2 := hide (step (next B1.out b2) (.cells #[.string n, .int .i64 c, .int .i64 mn, .int .i64 mx] 28)); have X2 := hide ((X1.out.keep b2).alloc (.cells #[.string n, .int .i64 c, .int .i64 mn, .int .i64 mx] 28)); have X3 := hide (Blk.new w2 #[.string n, .int .i64 c, .int .i64 mn, .int .i64 mx] 28); clear b2 X1 H2)
        | (refine wpList_load_blk rfl 28 _ rfl _ rfl _ (by with_reducible exact X2.out) _ Try.underlying28 rfl (fn_info n c mn mx) ?_)
        | (refine wpList_load_blk rfl 28 _ rfl _ rfl _ (by with_reducible exact X3.out) _ Try.underlying28 rfl (fn_info n c mn mx) ?_))
      trace_state
      refine ⟨⟨f + 1, by have := hf1.out; omega, by have := hf2.out; omega, by first | rfl | rw [wk], B2⟩, ?_⟩
      first
        | (show (79 - (f + 1)).toNat < (79 - f).toNat; omega)
        | (rw [wk]; show (79 - (f + 1)).toNat < (79 - f).toNat; omega)
    · go_wp2_with fail
      go_ret
      exact ⟨rfl, B.out⟩
end Go.Proofs.Ytmoekapoajkaiaa
