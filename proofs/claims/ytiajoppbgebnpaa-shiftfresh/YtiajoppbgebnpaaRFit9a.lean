/- quadrilleref9.fits, by the kind. -/
import Derived.Test.YtiajoppbgebnpaaRInf9
namespace Go.Proofs.Ytiajoppbgebnpaa
open Go.RowKit Go.Sort
set_option linter.unusedVariables false

theorem eq_ref (r : Rf) (w : World) : (binOp .eql 35 (.agg #[.int .i64 r.row, .int .i64 r.col, .bool r.pr, .bool r.pc]) (.agg #[.int .i64 0, .int .i64 0, .bool false, .bool false])).run Try.prog w = .ok (.bool (rfB r ⟨0, 0, false, false⟩)) w := by
  obtain ⟨r, c, p, q⟩ := r
  by_cases h1 : r = 0
  · by_cases h2 : c = 0
    · subst h1 h2
      cases p <;> cases q <;> kernel_rfl
    · subst h1
      cases p <;> cases q
      all_goals first
        | (go_simp; simp [rfB, *]; done)
        | (go_simp; done)
        | (simp [go_sem, rfB, *]; done)
  · cases p <;> cases q
    all_goals first
      | (go_simp; simp [rfB, *]; done)
      | (go_simp; done)
      | (simp [go_sem, rfB, *]; done)
theorem txt_nil {s : ByteArray} : s.toList = [] ↔ s = no := by
  have h0 : (no : ByteArray).toList = [] := by simp
  constructor
  · intro h
    refine Classical.byContradiction fun hn => ?_
    have := tl_ne hn
    rw [h, h0] at this
    cases this
  · rintro rfl; exact h0
set_option maxHeartbeats 4000000 in
set_option maxRecDepth 100000 in
theorem fits_1 (n : Nd) (a : Option Addr) (len cap : Nat) (hlen : len ≤ 4611686018427387904) (hk : n.kind = 1) (w : World) : Calls Try.prog 55 #[exV n (.slice a len cap)] w fun e w' => e = .returned (.bool (toldB n len)) ∧ Below w.heap.size w w' := by
  have P0 := hide ((Blk.new w (exC n (.slice a len cap)) 37).alloc (.cells #[.int .i64 0, .int .i64 0, .bool false, .bool false] 35))
  have Q0 := hide (Blk.new w (exC n (.slice a len cap)) 37)
  have B0 := hide (step (step (Below.refl w.heap.size w) (exO n (.slice a len cap))) (.cells #[.int .i64 0, .int .i64 0, .bool false, .bool false] 35))
  obtain ⟨c0, c1, c2, c3, c4, c5, c6, c7, c8, c9, c10, c11, c12, c13⟩ := at14 n (.slice a len cap)
  have x0 := (P0.out.at' 0).trans c0
  have x1 := (P0.out.at' 1).trans c1
  have x2 := (P0.out.at' 2).trans c2
  have x3 := (P0.out.at' 3).trans c3
  have x4 := (P0.out.at' 4).trans c4
  have x5 := (P0.out.at' 5).trans c5
  have x6 := (P0.out.at' 6).trans c6
  have x7 := (P0.out.at' 7).trans c7
  have x8 := (P0.out.at' 8).trans c8
  have x9 := (P0.out.at' 9).trans c9
  have x10 := (P0.out.at' 10).trans c10
  have x11 := (P0.out.at' 11).trans c11
  have x12 := (P0.out.at' 12).trans c12
  have x13 := (P0.out.at' 13).trans c13
  have er := fun w => eq_ref n.ref w
  have et := fun w => eq_ref n.to w
  have x14 := (Q0.out.at' 13).trans c13
  replace hlen := hide hlen
  clear c0 c1 c2 c3 c4 c5 c6 c7 c8 c9 c10 c11 c12 c13
  go_enter Try.func55, Try.ntmps55
  go_wp2_with fail
  all_goals go_ret
  all_goals refine ⟨ret_bool ?_, by go_grown⟩
  all_goals clear x0 x1 x2 x3 x4 x5 x6 x7 x8 x9 x10 x11 x12 x13 x14 P0 Q0 B0 er et
  all_goals rw [Bool.eq_iff_iff]
  all_goals try simp only [txt_nil] at *
  all_goals first
    | (simp [toldB, okOf, leftOf, restOf, ndB, *]; done)
    | (simp [toldB, okOf, leftOf, restOf, ndB, *]; omega)
set_option maxHeartbeats 4000000 in
set_option maxRecDepth 100000 in
theorem fits_2 (n : Nd) (a : Option Addr) (len cap : Nat) (hlen : len ≤ 4611686018427387904) (hk : n.kind = 2) (w : World) : Calls Try.prog 55 #[exV n (.slice a len cap)] w fun e w' => e = .returned (.bool (toldB n len)) ∧ Below w.heap.size w w' := by
  have P0 := hide ((Blk.new w (exC n (.slice a len cap)) 37).alloc (.cells #[.int .i64 0, .int .i64 0, .bool false, .bool false] 35))
  have Q0 := hide (Blk.new w (exC n (.slice a len cap)) 37)
  have B0 := hide (step (step (Below.refl w.heap.size w) (exO n (.slice a len cap))) (.cells #[.int .i64 0, .int .i64 0, .bool false, .bool false] 35))
  obtain ⟨c0, c1, c2, c3, c4, c5, c6, c7, c8, c9, c10, c11, c12, c13⟩ := at14 n (.slice a len cap)
  have x0 := (P0.out.at' 0).trans c0
  have x1 := (P0.out.at' 1).trans c1
  have x2 := (P0.out.at' 2).trans c2
  have x3 := (P0.out.at' 3).trans c3
  have x4 := (P0.out.at' 4).trans c4
  have x5 := (P0.out.at' 5).trans c5
  have x6 := (P0.out.at' 6).trans c6
  have x7 := (P0.out.at' 7).trans c7
  have x8 := (P0.out.at' 8).trans c8
  have x9 := (P0.out.at' 9).trans c9
  have x10 := (P0.out.at' 10).trans c10
  have x11 := (P0.out.at' 11).trans c11
  have x12 := (P0.out.at' 12).trans c12
  have x13 := (P0.out.at' 13).trans c13
  have er := fun w => eq_ref n.ref w
  have et := fun w => eq_ref n.to w
  have x14 := (Q0.out.at' 13).trans c13
  replace hlen := hide hlen
  clear c0 c1 c2 c3 c4 c5 c6 c7 c8 c9 c10 c11 c12 c13
  go_enter Try.func55, Try.ntmps55
  go_wp2_with fail
  all_goals go_ret
  all_goals refine ⟨ret_bool ?_, by go_grown⟩
  all_goals clear x0 x1 x2 x3 x4 x5 x6 x7 x8 x9 x10 x11 x12 x13 x14 P0 Q0 B0 er et
  all_goals rw [Bool.eq_iff_iff]
  all_goals try simp only [txt_nil] at *
  all_goals first
    | (simp [toldB, okOf, leftOf, restOf, ndB, *]; done)
    | (simp [toldB, okOf, leftOf, restOf, ndB, *]; omega)
end Go.Proofs.Ytiajoppbgebnpaa
