/- quadrilleref9.fits, by the kind. quadrilleref9.fits, by the kind. quadrilleref9.fits, by the kind. quadrilleref9.fits, by the kind. quadrilleref9.fits, by the kind. quadrilleref9.fits: what it answers of every node. quadrilleref9.all, May, Same, Copy: what they answer of every tree. -/
import Derived.Test.YtbljdmegdejboaaRInf9
import Derived.Test.YtbljdmegdejboaaRWg9
import Derived.Test.YtbljdmegdejboaaROwnW9
import Derived.Test.YtbljdmegdejboaaEq9
namespace Go.Proofs.Ytbljdmegdejboaa
open Go.RowKit Go.Sort
set_option linter.unusedVariables false

theorem eq_ref (r : Rf) (w : World) : (binOp .eql 26 (.agg #[.int .i64 r.row, .int .i64 r.col, .bool r.pr, .bool r.pc]) (.agg #[.int .i64 0, .int .i64 0, .bool false, .bool false])).run Try.prog w = .ok (.bool (rfB r ⟨0, 0, false, false⟩)) w := by
  obtain ⟨r, c, p, q⟩ := r
  by_cases h1 : r = 0
  · by_cases h2 : c = 0
    · subst h1 h2
      cases p <;> cases q <;> kernel_rfl
    · subst h1
      cases p <;> cases q
      all_goals first
        | (go_simp; simp [rfB, *]; done)
        | (go_simp; done)
        | (simp [go_sem, rfB, *]; done)
  · cases p <;> cases q
    all_goals first
      | (go_simp; simp [rfB, *]; done)
      | (go_simp; done)
      | (simp [go_sem, rfB, *]; done)
theorem txt_nil {s : ByteArray} : s.toList = [] ↔ s = no := by
  have h0 : (no : ByteArray).toList = [] := by simp
  constructor
  · intro h
    refine Classical.byContradiction fun hn => ?_
    have := tl_ne hn
    rw [h, h0] at this
    cases this
  · rintro rfl; exact h0
set_option maxHeartbeats 4000000 in
set_option maxRecDepth 100000 in
theorem fits_1 (n : Nd) (a : Option Addr) (len cap : Nat) (hlen : len ≤ 4611686018427387904) (hk : n.kind = 1) (w : World) : Calls Try.prog 64 #[exV n (.slice a len cap)] w fun e w' => e = .returned (.bool (toldB n len)) ∧ Below w.heap.size w w' := by
  have P0 := hide ((Blk.new w (exC n (.slice a len cap)) 29).alloc (.cells #[.int .i64 0, .int .i64 0, .bool false, .bool false] 26))
  have Q0 := hide (Blk.new w (exC n (.slice a len cap)) 29)
  have B0 := hide (step (step (Below.refl w.heap.size w) (exO n (.slice a len cap))) (.cells #[.int .i64 0, .int .i64 0, .bool false, .bool false] 26))
  obtain ⟨c0, c1, c2, c3, c4, c5, c6, c7, c8, c9, c10, c11, c12, c13⟩ := at14 n (.slice a len cap)
  have x0 := (P0.out.at' 0).trans c0
  have x1 := (P0.out.at' 1).trans c1
  have x2 := (P0.out.at' 2).trans c2
  have x3 := (P0.out.at' 3).trans c3
  have x4 := (P0.out.at' 4).trans c4
  have x5 := (P0.out.at' 5).trans c5
  have x6 := (P0.out.at' 6).trans c6
  have x7 := (P0.out.at' 7).trans c7
  have x8 := (P0.out.at' 8).trans c8
  have x9 := (P0.out.at' 9).trans c9
  have x10 := (P0.out.at' 10).trans c10
  have x11 := (P0.out.at' 11).trans c11
  have x12 := (P0.out.at' 12).trans c12
  have x13 := (P0.out.at' 13).trans c13
  have er := fun w => eq_ref n.ref w
  have et := fun w => eq_ref n.to w
  have x14 := (Q0.out.at' 13).trans c13
  replace hlen := hide hlen
  clear c0 c1 c2 c3 c4 c5 c6 c7 c8 c9 c10 c11 c12 c13
  go_enter Try.func64, Try.ntmps64
  go_wp2_with fail
  all_goals go_ret
  all_goals refine ⟨ret_bool ?_, by go_grown⟩
  all_goals clear x0 x1 x2 x3 x4 x5 x6 x7 x8 x9 x10 x11 x12 x13 x14 P0 Q0 B0 er et
  all_goals rw [Bool.eq_iff_iff]
  all_goals try simp only [txt_nil] at *
  all_goals first
    | (simp [toldB, okOf, leftOf, restOf, ndB, *]; done)
    | (simp [toldB, okOf, leftOf, restOf, ndB, *]; omega)
set_option maxHeartbeats 4000000 in
set_option maxRecDepth 100000 in
theorem fits_2 (n : Nd) (a : Option Addr) (len cap : Nat) (hlen : len ≤ 4611686018427387904) (hk : n.kind = 2) (w : World) : Calls Try.prog 64 #[exV n (.slice a len cap)] w fun e w' => e = .returned (.bool (toldB n len)) ∧ Below w.heap.size w w' := by
  have P0 := hide ((Blk.new w (exC n (.slice a len cap)) 29).alloc (.cells #[.int .i64 0, .int .i64 0, .bool false, .bool false] 26))
  have Q0 := hide (Blk.new w (exC n (.slice a len cap)) 29)
  have B0 := hide (step (step (Below.refl w.heap.size w) (exO n (.slice a len cap))) (.cells #[.int .i64 0, .int .i64 0, .bool false, .bool false] 26))
  obtain ⟨c0, c1, c2, c3, c4, c5, c6, c7, c8, c9, c10, c11, c12, c13⟩ := at14 n (.slice a len cap)
  have x0 := (P0.out.at' 0).trans c0
  have x1 := (P0.out.at' 1).trans c1
  have x2 := (P0.out.at' 2).trans c2
  have x3 := (P0.out.at' 3).trans c3
  have x4 := (P0.out.at' 4).trans c4
  have x5 := (P0.out.at' 5).trans c5
  have x6 := (P0.out.at' 6).trans c6
  have x7 := (P0.out.at' 7).trans c7
  have x8 := (P0.out.at' 8).trans c8
  have x9 := (P0.out.at' 9).trans c9
  have x10 := (P0.out.at' 10).trans c10
  have x11 := (P0.out.at' 11).trans c11
  have x12 := (P0.out.at' 12).trans c12
  have x13 := (P0.out.at' 13).trans c13
  have er := fun w => eq_ref n.ref w
  have et := fun w => eq_ref n.to w
  have x14 := (Q0.out.at' 13).trans c13
  replace hlen := hide hlen
  clear c0 c1 c2 c3 c4 c5 c6 c7 c8 c9 c10 c11 c12 c13
  go_enter Try.func64, Try.ntmps64
  go_wp2_with fail
  all_goals go_ret
  all_goals refine ⟨ret_bool ?_, by go_grown⟩
  all_goals clear x0 x1 x2 x3 x4 x5 x6 x7 x8 x9 x10 x11 x12 x13 x14 P0 Q0 B0 er et
  all_goals rw [Bool.eq_iff_iff]
  all_goals try simp only [txt_nil] at *
  all_goals first
    | (simp [toldB, okOf, leftOf, restOf, ndB, *]; done)
    | (simp [toldB, okOf, leftOf, restOf, ndB, *]; omega)
end Go.Proofs.Ytbljdmegdejboaa
namespace Go.Proofs.Ytbljdmegdejboaa
open Go.RowKit Go.Sort
set_option linter.unusedVariables false

set_option maxHeartbeats 4000000 in
set_option maxRecDepth 100000 in
theorem fits_3 (n : Nd) (a : Option Addr) (len cap : Nat) (hlen : len ≤ 4611686018427387904) (hk : n.kind = 3) (w : World) : Calls Try.prog 64 #[exV n (.slice a len cap)] w fun e w' => e = .returned (.bool (toldB n len)) ∧ Below w.heap.size w w' := by
  have P0 := hide ((Blk.new w (exC n (.slice a len cap)) 29).alloc (.cells #[.int .i64 0, .int .i64 0, .bool false, .bool false] 26))
  have Q0 := hide (Blk.new w (exC n (.slice a len cap)) 29)
  have B0 := hide (step (step (Below.refl w.heap.size w) (exO n (.slice a len cap))) (.cells #[.int .i64 0, .int .i64 0, .bool false, .bool false] 26))
  obtain ⟨c0, c1, c2, c3, c4, c5, c6, c7, c8, c9, c10, c11, c12, c13⟩ := at14 n (.slice a len cap)
  have x0 := (P0.out.at' 0).trans c0
  have x1 := (P0.out.at' 1).trans c1
  have x2 := (P0.out.at' 2).trans c2
  have x3 := (P0.out.at' 3).trans c3
  have x4 := (P0.out.at' 4).trans c4
  have x5 := (P0.out.at' 5).trans c5
  have x6 := (P0.out.at' 6).trans c6
  have x7 := (P0.out.at' 7).trans c7
  have x8 := (P0.out.at' 8).trans c8
  have x9 := (P0.out.at' 9).trans c9
  have x10 := (P0.out.at' 10).trans c10
  have x11 := (P0.out.at' 11).trans c11
  have x12 := (P0.out.at' 12).trans c12
  have x13 := (P0.out.at' 13).trans c13
  have er := fun w => eq_ref n.ref w
  have et := fun w => eq_ref n.to w
  have x14 := (Q0.out.at' 13).trans c13
  replace hlen := hide hlen
  clear c0 c1 c2 c3 c4 c5 c6 c7 c8 c9 c10 c11 c12 c13
  go_enter Try.func64, Try.ntmps64
  go_wp2_with fail
  all_goals go_ret
  all_goals refine ⟨ret_bool ?_, by go_grown⟩
  all_goals clear x0 x1 x2 x3 x4 x5 x6 x7 x8 x9 x10 x11 x12 x13 x14 P0 Q0 B0 er et
  all_goals rw [Bool.eq_iff_iff]
  all_goals try simp only [txt_nil] at *
  all_goals first
    | (simp [toldB, okOf, leftOf, restOf, ndB, *]; done)
    | (simp [toldB, okOf, leftOf, restOf, ndB, *]; omega)
set_option maxHeartbeats 4000000 in
set_option maxRecDepth 100000 in
theorem fits_4 (n : Nd) (a : Option Addr) (len cap : Nat) (hlen : len ≤ 4611686018427387904) (hk : n.kind = 4) (w : World) : Calls Try.prog 64 #[exV n (.slice a len cap)] w fun e w' => e = .returned (.bool (toldB n len)) ∧ Below w.heap.size w w' := by
  have P0 := hide ((Blk.new w (exC n (.slice a len cap)) 29).alloc (.cells #[.int .i64 0, .int .i64 0, .bool false, .bool false] 26))
  have Q0 := hide (Blk.new w (exC n (.slice a len cap)) 29)
  have B0 := hide (step (step (Below.refl w.heap.size w) (exO n (.slice a len cap))) (.cells #[.int .i64 0, .int .i64 0, .bool false, .bool false] 26))
  obtain ⟨c0, c1, c2, c3, c4, c5, c6, c7, c8, c9, c10, c11, c12, c13⟩ := at14 n (.slice a len cap)
  have x0 := (P0.out.at' 0).trans c0
  have x1 := (P0.out.at' 1).trans c1
  have x2 := (P0.out.at' 2).trans c2
  have x3 := (P0.out.at' 3).trans c3
  have x4 := (P0.out.at' 4).trans c4
  have x5 := (P0.out.at' 5).trans c5
  have x6 := (P0.out.at' 6).trans c6
  have x7 := (P0.out.at' 7).trans c7
  have x8 := (P0.out.at' 8).trans c8
  have x9 := (P0.out.at' 9).trans c9
  have x10 := (P0.out.at' 10).trans c10
  have x11 := (P0.out.at' 11).trans c11
  have x12 := (P0.out.at' 12).trans c12
  have x13 := (P0.out.at' 13).trans c13
  have er := fun w => eq_ref n.ref w
  have et := fun w => eq_ref n.to w
  have x14 := (Q0.out.at' 13).trans c13
  replace hlen := hide hlen
  clear c0 c1 c2 c3 c4 c5 c6 c7 c8 c9 c10 c11 c12 c13
  go_enter Try.func64, Try.ntmps64
  go_wp2_with fail
  all_goals go_ret
  all_goals refine ⟨ret_bool ?_, by go_grown⟩
  all_goals clear x0 x1 x2 x3 x4 x5 x6 x7 x8 x9 x10 x11 x12 x13 x14 P0 Q0 B0 er et
  all_goals rw [Bool.eq_iff_iff]
  all_goals try simp only [txt_nil] at *
  all_goals first
    | (simp [toldB, okOf, leftOf, restOf, ndB, *]; done)
    | (simp [toldB, okOf, leftOf, restOf, ndB, *]; omega)
end Go.Proofs.Ytbljdmegdejboaa
namespace Go.Proofs.Ytbljdmegdejboaa
open Go.RowKit Go.Sort
set_option linter.unusedVariables false

set_option maxHeartbeats 4000000 in
set_option maxRecDepth 100000 in
theorem fits_7 (n : Nd) (a : Option Addr) (len cap : Nat) (hlen : len ≤ 4611686018427387904) (hk : n.kind = 7) (w : World) : Calls Try.prog 64 #[exV n (.slice a len cap)] w fun e w' => e = .returned (.bool (toldB n len)) ∧ Below w.heap.size w w' := by
  have P0 := hide ((Blk.new w (exC n (.slice a len cap)) 29).alloc (.cells #[.int .i64 0, .int .i64 0, .bool false, .bool false] 26))
  have Q0 := hide (Blk.new w (exC n (.slice a len cap)) 29)
  have B0 := hide (step (step (Below.refl w.heap.size w) (exO n (.slice a len cap))) (.cells #[.int .i64 0, .int .i64 0, .bool false, .bool false] 26))
  obtain ⟨c0, c1, c2, c3, c4, c5, c6, c7, c8, c9, c10, c11, c12, c13⟩ := at14 n (.slice a len cap)
  have x0 := (P0.out.at' 0).trans c0
  have x1 := (P0.out.at' 1).trans c1
  have x2 := (P0.out.at' 2).trans c2
  have x3 := (P0.out.at' 3).trans c3
  have x4 := (P0.out.at' 4).trans c4
  have x5 := (P0.out.at' 5).trans c5
  have x6 := (P0.out.at' 6).trans c6
  have x7 := (P0.out.at' 7).trans c7
  have x8 := (P0.out.at' 8).trans c8
  have x9 := (P0.out.at' 9).trans c9
  have x10 := (P0.out.at' 10).trans c10
  have x11 := (P0.out.at' 11).trans c11
  have x12 := (P0.out.at' 12).trans c12
  have x13 := (P0.out.at' 13).trans c13
  have er := fun w => eq_ref n.ref w
  have et := fun w => eq_ref n.to w
  have x14 := (Q0.out.at' 13).trans c13
  have wl := IntWalk.wrap64_in ((len : Int) - 1) ⟨by omega, by omega⟩
  replace hlen := hide hlen
  clear c0 c1 c2 c3 c4 c5 c6 c7 c8 c9 c10 c11 c12 c13
  go_enter Try.func64, Try.ntmps64
  go_wp2_with fail
  all_goals go_ret
  all_goals refine ⟨ret_bool ?_, by go_grown⟩
  all_goals clear x0 x1 x2 x3 x4 x5 x6 x7 x8 x9 x10 x11 x12 x13 x14 P0 Q0 B0 er et
  all_goals rw [Bool.eq_iff_iff]
  all_goals try simp only [txt_nil] at *
  all_goals first
    | (simp [toldB, okOf, leftOf, restOf, ndB, *]; done)
    | (simp [toldB, okOf, leftOf, restOf, ndB, *]; omega)
set_option maxHeartbeats 4000000 in
set_option maxRecDepth 100000 in
theorem fits_8 (n : Nd) (a : Option Addr) (len cap : Nat) (hlen : len ≤ 4611686018427387904) (hk : n.kind = 8) (w : World) : Calls Try.prog 64 #[exV n (.slice a len cap)] w fun e w' => e = .returned (.bool (toldB n len)) ∧ Below w.heap.size w w' := by
  have P0 := hide ((Blk.new w (exC n (.slice a len cap)) 29).alloc (.cells #[.int .i64 0, .int .i64 0, .bool false, .bool false] 26))
  have Q0 := hide (Blk.new w (exC n (.slice a len cap)) 29)
  have B0 := hide (step (step (Below.refl w.heap.size w) (exO n (.slice a len cap))) (.cells #[.int .i64 0, .int .i64 0, .bool false, .bool false] 26))
  obtain ⟨c0, c1, c2, c3, c4, c5, c6, c7, c8, c9, c10, c11, c12, c13⟩ := at14 n (.slice a len cap)
  have x0 := (P0.out.at' 0).trans c0
  have x1 := (P0.out.at' 1).trans c1
  have x2 := (P0.out.at' 2).trans c2
  have x3 := (P0.out.at' 3).trans c3
  have x4 := (P0.out.at' 4).trans c4
  have x5 := (P0.out.at' 5).trans c5
  have x6 := (P0.out.at' 6).trans c6
  have x7 := (P0.out.at' 7).trans c7
  have x8 := (P0.out.at' 8).trans c8
  have x9 := (P0.out.at' 9).trans c9
  have x10 := (P0.out.at' 10).trans c10
  have x11 := (P0.out.at' 11).trans c11
  have x12 := (P0.out.at' 12).trans c12
  have x13 := (P0.out.at' 13).trans c13
  have er := fun w => eq_ref n.ref w
  have et := fun w => eq_ref n.to w
  have x14 := (Q0.out.at' 13).trans c13
  have wl := IntWalk.wrap64_in ((len : Int) - 2) ⟨by omega, by omega⟩
  replace hlen := hide hlen
  clear c0 c1 c2 c3 c4 c5 c6 c7 c8 c9 c10 c11 c12 c13
  go_enter Try.func64, Try.ntmps64
  go_wp2_with fail
  all_goals go_ret
  all_goals refine ⟨ret_bool ?_, by go_grown⟩
  all_goals clear x0 x1 x2 x3 x4 x5 x6 x7 x8 x9 x10 x11 x12 x13 x14 P0 Q0 B0 er et
  all_goals rw [Bool.eq_iff_iff]
  all_goals try simp only [txt_nil] at *
  all_goals first
    | (simp [toldB, okOf, leftOf, restOf, ndB, *]; done)
    | (simp [toldB, okOf, leftOf, restOf, ndB, *]; omega)
set_option maxHeartbeats 4000000 in
set_option maxRecDepth 100000 in
theorem fits_0 (n : Nd) (a : Option Addr) (len cap : Nat) (hlen : len ≤ 4611686018427387904) (hk : ¬ (n.kind = 1) ∧ ¬ (n.kind = 2) ∧ ¬ (n.kind = 3) ∧ ¬ (n.kind = 4) ∧ ¬ (n.kind = 5) ∧ ¬ (n.kind = 6) ∧ ¬ (n.kind = 7) ∧ ¬ (n.kind = 8) ∧ ¬ (n.kind = 9)) (w : World) : Calls Try.prog 64 #[exV n (.slice a len cap)] w fun e w' => e = .returned (.bool (toldB n len)) ∧ Below w.heap.size w w' := by
  have P0 := hide ((Blk.new w (exC n (.slice a len cap)) 29).alloc (.cells #[.int .i64 0, .int .i64 0, .bool false, .bool false] 26))
  have Q0 := hide (Blk.new w (exC n (.slice a len cap)) 29)
  have B0 := hide (step (step (Below.refl w.heap.size w) (exO n (.slice a len cap))) (.cells #[.int .i64 0, .int .i64 0, .bool false, .bool false] 26))
  obtain ⟨c0, c1, c2, c3, c4, c5, c6, c7, c8, c9, c10, c11, c12, c13⟩ := at14 n (.slice a len cap)
  have x0 := (P0.out.at' 0).trans c0
  have x1 := (P0.out.at' 1).trans c1
  have x2 := (P0.out.at' 2).trans c2
  have x3 := (P0.out.at' 3).trans c3
  have x4 := (P0.out.at' 4).trans c4
  have x5 := (P0.out.at' 5).trans c5
  have x6 := (P0.out.at' 6).trans c6
  have x7 := (P0.out.at' 7).trans c7
  have x8 := (P0.out.at' 8).trans c8
  have x9 := (P0.out.at' 9).trans c9
  have x10 := (P0.out.at' 10).trans c10
  have x11 := (P0.out.at' 11).trans c11
  have x12 := (P0.out.at' 12).trans c12
  have x13 := (P0.out.at' 13).trans c13
  have er := fun w => eq_ref n.ref w
  have et := fun w => eq_ref n.to w
  have x14 := (Q0.out.at' 13).trans c13
  obtain ⟨k1, k2, k3, k4, k5, k6, k7, k8, k9⟩ := hk
  replace hlen := hide hlen
  clear c0 c1 c2 c3 c4 c5 c6 c7 c8 c9 c10 c11 c12 c13
  go_enter Try.func64, Try.ntmps64
  go_wp2_with fail
  all_goals go_ret
  all_goals refine ⟨ret_bool ?_, by go_grown⟩
  all_goals clear x0 x1 x2 x3 x4 x5 x6 x7 x8 x9 x10 x11 x12 x13 x14 P0 Q0 B0 er et
  all_goals rw [Bool.eq_iff_iff]
  all_goals try simp only [txt_nil] at *
  all_goals first
    | (simp [toldB, okOf, leftOf, restOf, ndB, *]; done)
    | (simp [toldB, okOf, leftOf, restOf, ndB, *]; omega)
end Go.Proofs.Ytbljdmegdejboaa
namespace Go.Proofs.Ytbljdmegdejboaa
open Go.RowKit Go.Sort
set_option linter.unusedVariables false

theorem rf00 : rfB ⟨0, 0, false, false⟩ ⟨0, 0, false, false⟩ = true := by decide
set_option maxHeartbeats 4000000 in
set_option maxRecDepth 100000 in
theorem fits_5 (n : Nd) (a : Option Addr) (len cap : Nat) (hlen : len ≤ 4611686018427387904) (hk : n.kind = 5) (w : World) : Calls Try.prog 64 #[exV n (.slice a len cap)] w fun e w' => e = .returned (.bool (toldB n len)) ∧ Below w.heap.size w w' := by
  have P0 := hide ((Blk.new w (exC n (.slice a len cap)) 29).alloc (.cells #[.int .i64 0, .int .i64 0, .bool false, .bool false] 26))
  have Q0 := hide (Blk.new w (exC n (.slice a len cap)) 29)
  have B0 := hide (step (step (Below.refl w.heap.size w) (exO n (.slice a len cap))) (.cells #[.int .i64 0, .int .i64 0, .bool false, .bool false] 26))
  obtain ⟨c0, c1, c2, c3, c4, c5, c6, c7, c8, c9, c10, c11, c12, c13⟩ := at14 n (.slice a len cap)
  have x0 := (P0.out.at' 0).trans c0
  have x1 := (P0.out.at' 1).trans c1
  have x2 := (P0.out.at' 2).trans c2
  have x3 := (P0.out.at' 3).trans c3
  have x4 := (P0.out.at' 4).trans c4
  have x5 := (P0.out.at' 5).trans c5
  have x6 := (P0.out.at' 6).trans c6
  have x7 := (P0.out.at' 7).trans c7
  have x8 := (P0.out.at' 8).trans c8
  have x9 := (P0.out.at' 9).trans c9
  have x10 := (P0.out.at' 10).trans c10
  have x11 := (P0.out.at' 11).trans c11
  have x12 := (P0.out.at' 12).trans c12
  have x13 := (P0.out.at' 13).trans c13
  have er := fun w => eq_ref n.ref w
  have et := fun w => eq_ref n.to w
  have x14 := (Q0.out.at' 13).trans c13
  replace hlen := hide hlen
  clear c0 c1 c2 c3 c4 c5 c6 c7 c8 c9 c10 c11 c12 c13
  have HP := hide (fun w' => place_any n.ref.row n.ref.col n.ref.pr n.ref.pc w')
  go_enter Try.func64, Try.ntmps64
  go_wp2_with (go_at_call 74; refine (HP.out _).mono ?_; rintro e w1 ⟨rfl, hb⟩; have b1 := hide (next B0.out hb); clear hb)
  all_goals go_ret
  all_goals refine ⟨ret_bool ?_, b1.out⟩
  all_goals clear x0 x1 x2 x3 x4 x5 x6 x7 x8 x9 x10 x11 x12 x13 x14 P0 Q0 B0 er et
  all_goals rw [Bool.eq_iff_iff]
  all_goals try simp only [txt_nil] at *
  all_goals first
    | (simp [toldB, okOf, leftOf, restOf, ndB, rf00, *]; done)
    | (simp [toldB, okOf, leftOf, restOf, ndB, rf00, *]; omega)
set_option maxHeartbeats 4000000 in
set_option maxRecDepth 100000 in
theorem fits_6 (n : Nd) (a : Option Addr) (len cap : Nat) (hlen : len ≤ 4611686018427387904) (hk : n.kind = 6) (w : World) : Calls Try.prog 64 #[exV n (.slice a len cap)] w fun e w' => e = .returned (.bool (toldB n len)) ∧ Below w.heap.size w w' := by
  have P0 := hide ((Blk.new w (exC n (.slice a len cap)) 29).alloc (.cells #[.int .i64 0, .int .i64 0, .bool false, .bool false] 26))
  have Q0 := hide (Blk.new w (exC n (.slice a len cap)) 29)
  have B0 := hide (step (step (Below.refl w.heap.size w) (exO n (.slice a len cap))) (.cells #[.int .i64 0, .int .i64 0, .bool false, .bool false] 26))
  obtain ⟨c0, c1, c2, c3, c4, c5, c6, c7, c8, c9, c10, c11, c12, c13⟩ := at14 n (.slice a len cap)
  have x0 := (P0.out.at' 0).trans c0
  have x1 := (P0.out.at' 1).trans c1
  have x2 := (P0.out.at' 2).trans c2
  have x3 := (P0.out.at' 3).trans c3
  have x4 := (P0.out.at' 4).trans c4
  have x5 := (P0.out.at' 5).trans c5
  have x6 := (P0.out.at' 6).trans c6
  have x7 := (P0.out.at' 7).trans c7
  have x8 := (P0.out.at' 8).trans c8
  have x9 := (P0.out.at' 9).trans c9
  have x10 := (P0.out.at' 10).trans c10
  have x11 := (P0.out.at' 11).trans c11
  have x12 := (P0.out.at' 12).trans c12
  have x13 := (P0.out.at' 13).trans c13
  have er := fun w => eq_ref n.ref w
  have et := fun w => eq_ref n.to w
  have x14 := (Q0.out.at' 13).trans c13
  replace hlen := hide hlen
  clear c0 c1 c2 c3 c4 c5 c6 c7 c8 c9 c10 c11 c12 c13
  have HP := hide (fun w' => place_any n.ref.row n.ref.col n.ref.pr n.ref.pc w')
  have HQ := hide (fun w' => place_any n.to.row n.to.col n.to.pr n.to.pc w')
  go_enter Try.func64, Try.ntmps64
  go_wp2_with (first
    | (go_at_call 74; have b1' := b1.out; refine (HQ.out _).mono ?_; rintro e w2 ⟨rfl, hb⟩; have b2 := hide (next b1' hb); clear hb b1')
    | (go_at_call 74; refine (HP.out _).mono ?_; rintro e w1 ⟨rfl, hb⟩; have b1 := hide (next B0.out hb); have P1 := hide (P0.out.keep hb); have y8 := (P1.out.at' 8).trans (at14 n (.slice a len cap)).c8; have y9 := (P1.out.at' 9).trans (at14 n (.slice a len cap)).c9; have y10 := (P1.out.at' 10).trans (at14 n (.slice a len cap)).c10; have y11 := (P1.out.at' 11).trans (at14 n (.slice a len cap)).c11; clear hb))
  all_goals go_ret
  all_goals refine ⟨ret_bool ?_, b2.out⟩
  all_goals clear x0 x1 x2 x3 x4 x5 x6 x7 x8 x9 x10 x11 x12 x13 x14 P0 Q0 B0 er et
  all_goals rw [Bool.eq_iff_iff]
  all_goals try simp only [txt_nil] at *
  all_goals first
    | (simp [toldB, okOf, leftOf, restOf, ndB, rf00, *]; done)
    | (simp [toldB, okOf, leftOf, restOf, ndB, rf00, *]; omega)
end Go.Proofs.Ytbljdmegdejboaa
namespace Go.Proofs.Ytbljdmegdejboaa
open Go.RowKit Go.Sort
set_option linter.unusedVariables false

set_option maxHeartbeats 4000000 in
set_option maxRecDepth 100000 in
theorem fits_9y (n : Nd) (a : Option Addr) (len cap : Nat) (hlen : len ≤ 4611686018427387904) (hk : n.kind = 9) (k : Nat) (hk7 : k < 76) (hf : n.fn = (k : Int) + 1) (w : World) : Calls Try.prog 64 #[exV n (.slice a len cap)] w fun e w' => e = .returned (.bool (toldB n len)) ∧ Below w.heap.size w w' := by
  have P0 := hide ((Blk.new w (exC n (.slice a len cap)) 29).alloc (.cells #[.int .i64 0, .int .i64 0, .bool false, .bool false] 26))
  have Q0 := hide (Blk.new w (exC n (.slice a len cap)) 29)
  have B0 := hide (step (step (Below.refl w.heap.size w) (exO n (.slice a len cap))) (.cells #[.int .i64 0, .int .i64 0, .bool false, .bool false] 26))
  obtain ⟨c0, c1, c2, c3, c4, c5, c6, c7, c8, c9, c10, c11, c12, c13⟩ := at14 n (.slice a len cap)
  have x0 := (P0.out.at' 0).trans c0
  have x1 := (P0.out.at' 1).trans c1
  have x2 := (P0.out.at' 2).trans c2
  have x3 := (P0.out.at' 3).trans c3
  have x4 := (P0.out.at' 4).trans c4
  have x5 := (P0.out.at' 5).trans c5
  have x6 := (P0.out.at' 6).trans c6
  have x7 := (P0.out.at' 7).trans c7
  have x8 := (P0.out.at' 8).trans c8
  have x9 := (P0.out.at' 9).trans c9
  have x10 := (P0.out.at' 10).trans c10
  have x11 := (P0.out.at' 11).trans c11
  have x12 := (P0.out.at' 12).trans c12
  have x13 := (P0.out.at' 13).trans c13
  have er := fun w => eq_ref n.ref w
  have et := fun w => eq_ref n.to w
  have x14 := (Q0.out.at' 13).trans c13
  replace hlen := hide hlen
  clear c0 c1 c2 c3 c4 c5 c6 c7 c8 c9 c10 c11 c12 c13
  have HI := hide (rinfo_yes k hk7)
  have hT : takesB n.fn len = (decide ((tab[k]'(by rw [tab_len]; exact hk7)).2.1 ≤ len) && (decide ((len : Int) ≤ (tab[k]'(by rw [tab_len]; exact hk7)).2.2) || decide ((tab[k]'(by rw [tab_len]; exact hk7)).2.2 < 0))) := by
    unfold takesB
    rw [dif_pos (by omega)]
    have : (n.fn - 1).toNat = k := by omega
    simp only [this]
  generalize tab[k] = r at *
  obtain ⟨nm, mn, mx⟩ := r
  replace hT := hide hT
  clear hk7
  go_enter Try.func64, Try.ntmps64
  go_wp2_with (go_at_call 75; refine (HI.out _).mono ?_; rintro e w1 ⟨⟨nm', cl', rfl⟩, hb⟩; have b1 := hide (next B0.out hb); have P1 := hide (P0.out.keep hb); clear hb)
  all_goals go_ret
  all_goals refine ⟨ret_bool ?_, step b1.out _⟩
  all_goals clear x0 x1 x2 x3 x4 x5 x6 x7 x8 x9 x10 x11 x12 x13 x14 P0 Q0 B0 er et P1 b1 HI
  all_goals have hT' := hT.out
  all_goals clear hT
  all_goals rw [hf] at hT'
  all_goals rw [Bool.eq_iff_iff]
  all_goals try simp only [txt_nil] at *
  all_goals first
    | (simp [toldB, okOf, leftOf, restOf, ndB, *]; done)
    | (simp [toldB, okOf, leftOf, restOf, ndB, *]; omega)
set_option maxHeartbeats 4000000 in
set_option maxRecDepth 100000 in
theorem fits_9n (n : Nd) (a : Option Addr) (len cap : Nat) (hlen : len ≤ 4611686018427387904) (hk : n.kind = 9) (hf : ¬ (1 ≤ n.fn ∧ n.fn ≤ 76)) (w : World) : Calls Try.prog 64 #[exV n (.slice a len cap)] w fun e w' => e = .returned (.bool (toldB n len)) ∧ Below w.heap.size w w' := by
  have P0 := hide ((Blk.new w (exC n (.slice a len cap)) 29).alloc (.cells #[.int .i64 0, .int .i64 0, .bool false, .bool false] 26))
  have Q0 := hide (Blk.new w (exC n (.slice a len cap)) 29)
  have B0 := hide (step (step (Below.refl w.heap.size w) (exO n (.slice a len cap))) (.cells #[.int .i64 0, .int .i64 0, .bool false, .bool false] 26))
  obtain ⟨c0, c1, c2, c3, c4, c5, c6, c7, c8, c9, c10, c11, c12, c13⟩ := at14 n (.slice a len cap)
  have x0 := (P0.out.at' 0).trans c0
  have x1 := (P0.out.at' 1).trans c1
  have x2 := (P0.out.at' 2).trans c2
  have x3 := (P0.out.at' 3).trans c3
  have x4 := (P0.out.at' 4).trans c4
  have x5 := (P0.out.at' 5).trans c5
  have x6 := (P0.out.at' 6).trans c6
  have x7 := (P0.out.at' 7).trans c7
  have x8 := (P0.out.at' 8).trans c8
  have x9 := (P0.out.at' 9).trans c9
  have x10 := (P0.out.at' 10).trans c10
  have x11 := (P0.out.at' 11).trans c11
  have x12 := (P0.out.at' 12).trans c12
  have x13 := (P0.out.at' 13).trans c13
  have er := fun w => eq_ref n.ref w
  have et := fun w => eq_ref n.to w
  have x14 := (Q0.out.at' 13).trans c13
  replace hlen := hide hlen
  clear c0 c1 c2 c3 c4 c5 c6 c7 c8 c9 c10 c11 c12 c13
  have HI := hide (rinfo_no n.fn hf)
  have hT : Hid (takesB n.fn len = false) := hide (by unfold takesB; rw [dif_neg hf])
  go_enter Try.func64, Try.ntmps64
  go_wp2_with (go_at_call 75; refine (HI.out _).mono ?_; rintro e w1 ⟨rfl, hb⟩; have b1 := hide (next B0.out hb); have P1 := hide (P0.out.keep hb); clear hb)
  all_goals go_ret
  all_goals refine ⟨ret_bool ?_, step b1.out _⟩
  all_goals clear x0 x1 x2 x3 x4 x5 x6 x7 x8 x9 x10 x11 x12 x13 x14 P0 Q0 B0 er et P1 b1 HI
  all_goals have hT' := hT.out
  all_goals clear hT
  all_goals rw [Bool.eq_iff_iff]
  all_goals try simp only [txt_nil] at *
  all_goals first
    | (simp [toldB, okOf, leftOf, restOf, ndB, *]; done)
    | (simp [toldB, okOf, leftOf, restOf, ndB, *]; omega)
end Go.Proofs.Ytbljdmegdejboaa
namespace Go.Proofs.Ytbljdmegdejboaa
open Go.RowKit Go.Sort
set_option linter.unusedVariables false

theorem rfits_any (n : Nd) (a : Option Addr) (len cap : Nat) (hlen : len ≤ 4611686018427387904) (w : World) : Calls Try.prog 64 #[exV n (.slice a len cap)] w fun e w' => e = .returned (.bool (toldB n len)) ∧ Below w.heap.size w w' := by
  by_cases h1 : n.kind = 1
  · exact fits_1 n a len cap hlen h1 w
  by_cases h2 : n.kind = 2
  · exact fits_2 n a len cap hlen h2 w
  by_cases h3 : n.kind = 3
  · exact fits_3 n a len cap hlen h3 w
  by_cases h4 : n.kind = 4
  · exact fits_4 n a len cap hlen h4 w
  by_cases h5 : n.kind = 5
  · exact fits_5 n a len cap hlen h5 w
  by_cases h6 : n.kind = 6
  · exact fits_6 n a len cap hlen h6 w
  by_cases h7 : n.kind = 7
  · exact fits_7 n a len cap hlen h7 w
  by_cases h8 : n.kind = 8
  · exact fits_8 n a len cap hlen h8 w
  by_cases h9 : n.kind = 9
  · by_cases hf : 1 ≤ n.fn ∧ n.fn ≤ 76
    · exact fits_9y n a len cap hlen h9 (n.fn - 1).toNat (by omega) (by omega) w
    · exact fits_9n n a len cap hlen h9 hf w
  exact fits_0 n a len cap hlen ⟨h1, h2, h3, h4, h5, h6, h7, h8, h9⟩ w
end Go.Proofs.Ytbljdmegdejboaa
namespace Go.Proofs.Ytbljdmegdejboaa
open Go.RowKit Go.Sort
set_option linter.unusedVariables false

abbrev RAllIs (t : Ex) : Prop := ∀ (v : Value) (w : World), Tree w v t → Calls Try.prog 56 #[v] w fun e w' => e = .returned (.bool (allE t)) ∧ Below w.heap.size w w'
theorem allL_drop (ks : List Ex) (k : Nat) (hk : k < ks.length) : allL (ks.drop k) = (allE ks[k] && allL (ks.drop (k + 1))) := by
  rw [List.drop_eq_getElem_cons hk, allL]
set_option maxHeartbeats 1000000 in
set_option maxRecDepth 100000 in
theorem rall_any : ∀ t, RAllIs t := by
  refine Ex.ind fun nd ks ih => ?_
  intro v w ht
  obtain ⟨a, len, cap, rfl, _, _, _, _⟩ := ht.un
  have hK := ht.kidsAt
  have hlen := hide hK.lq
  have hsml := hide hK.small
  have c13 := (at14 nd (.slice a len cap)).c13
  have P0 := hide (Blk.new w (exC nd (.slice a len cap)) 29)
  have B0 := hide (step (Below.refl w.heap.size w) (exO nd (.slice a len cap)))
  have HF := hide (rfits_any nd a len cap hsml.out (w.alloc (exO nd (.slice a len cap))))
  have hE : allE (.mk nd ks) = (toldB nd len && allL ks) := by rw [allE, ← hlen.out]
  rw [hE]
  replace ih := hide ih
  replace hK := hide hK
  clear hE ht
  cases hq : toldB nd len
  · rw [hq] at HF
    go_enter Try.func56, Try.ntmps56
    go_wp2_with (first
      | (refine wpList_load_blk rfl 29 _ rfl _ rfl _ (by with_reducible exact P0.out) _ Try.underlying29 rfl (exC_info _ _) ?_)
      | (go_at_call 64; refine HF.out.mono ?_; rintro e w1 ⟨rfl, hb⟩; have b1 := hide (next B0.out hb); clear hb))
    go_ret
    exact ⟨rfl, b1.out⟩
  · rw [hq] at HF
    go_enter Try.func56, Try.ntmps56
    go_wp2_with (first
      | (refine wpList_load_blk rfl 29 _ rfl _ rfl _ (by with_reducible exact P0.out) _ Try.underlying29 rfl (exC_info _ _) ?_)
      | (go_at_call 64; refine HF.out.mono ?_; rintro e w1 ⟨rfl, hb⟩; have b1 := hide (next B0.out hb); have P1 := hide (P0.out.keep hb); clear hb))
    go_loopw [3] (fun i wr => ∃ (k : Nat), k ≤ len ∧ i = .int .i64 k ∧ Hid (allL ks = allL (ks.drop k)) ∧ Hid (Below w1.heap.size w1 wr)) (fun i _ => len - (intOf i).toNat)
    case atStart => exact ⟨0, Nat.zero_le _, rfl, by rw [List.drop_zero]; rfl, Below.refl _ _⟩
    case round =>
      obtain ⟨k, hkl, rfl, HL, HB⟩ := hrel
      have z13 := ((P1.out.keep HB.out).at' 13).trans c13
      by_cases hlt : k < len
      · have p0 : (k : Int) < (len : Int) := by omega
        obtain ⟨b0, o0, rfl, hk1, aa, ll, cc, tk, rk⟩ := hK.out.get hlt
        have bw := hide (next b1.out HB.out)
        have R1 := hide (range_of_block rk (bw.out.block b0 (World.block_lt_of_cell? w ⟨b0, _, none⟩ (rk 0 _ rfl))))
        have IH := ih.out _ (List.getElem_mem hk1) _ wr (tk.step bw.out)
        have hat := hide (allL_drop ks k hk1)
        have wk := IntWalk.wrap64_in ((k : Int) + 1) ⟨by omega, by have := hsml.out; omega⟩
        generalize ks[k] = tk' at *
        clear tk rk
        cases hq2 : allE tk'
        · rw [hq2] at IH
          replace IH := hide IH
          go_wp2_with (first
            | (refine wpList_load_at rfl 29 _ rfl _ _ rfl _ _ (by with_reducible exact R1.out) Try.underlying29 rfl (exC_info _ _) ?_)
            | (go_at_call 56; refine IH.out.mono ?_; rintro e w4 ⟨rfl, hb4⟩; have b4 := hide (next bw.out hb4); clear hb4))
          go_ret
          have hh := HL.out.trans hat.out
          rw [hq2] at hh
          exact ⟨by rw [hh]; rfl, b4.out⟩
        · rw [hq2] at IH
          replace IH := hide IH
          go_wp2_with (first
            | (refine wpList_load_at rfl 29 _ rfl _ _ rfl _ _ (by with_reducible exact R1.out) Try.underlying29 rfl (exC_info _ _) ?_)
            | (go_at_call 56; refine IH.out.mono ?_; rintro e w4 ⟨rfl, hb4⟩; have b4 := hide (next HB.out hb4); clear hb4))
          refine ⟨⟨k + 1, hlt, by rw [wk]; rfl, hide (by rw [HL.out, hat.out, hq2]; rfl), b4⟩, ?_⟩
          rw [wk]
          exact meas_lt hlt
      · obtain rfl : k = len := by omega
        go_wp2_with fail
        go_ret
        have hh := HL.out
        rw [List.drop_eq_nil_of_le (by have := hlen.out; omega)] at hh
        exact ⟨by rw [hh]; rfl, next b1.out HB.out⟩
theorem size_great {t : Ex} (h : fitB t = false) : (sizeR t).1 = 513 := by rw [sizeR_no h]
theorem size_fine {t : Ex} (h : fitB t = true) : ¬ (512 < (sizeR t).1) := by
  have := sizeR_fst t
  rw [h] at this
  exact of_decide_eq_false this
set_option maxHeartbeats 1000000 in
set_option maxRecDepth 100000 in
theorem rmay_any (t : Ex) (v : Value) (w : World) (ht : Tree w v t) : Calls Try.prog 45 #[v] w fun e w' => e = .returned (.int .i64 (mayR t)) ∧ Below w.heap.size w w' := by
  obtain ⟨nd, ks⟩ := t
  obtain ⟨a, len, cap, rfl, _, _, _, _⟩ := ht.un
  have P0 := hide (Blk.new w (exC nd (.slice a len cap)) 29)
  have B0 := hide (step (Below.refl w.heap.size w) (exO nd (.slice a len cap)))
  have HS := hide (rsize_any (.mk nd ks) _ _ (ht.step B0.out))
  have HA := hide (fun w' (h : Below w.heap.size w w') => rall_any (.mk nd ks) _ w' (ht.step h))
  clear ht
  cases hf : fitB (.mk nd ks)
  · have q1 := size_great hf
    rw [mayR_no hf]
    generalize sizeR (.mk nd ks) = S at *
    clear HA hf
    go_enter Try.func45, Try.ntmps45
    go_wp2_with (first
      | (refine wpList_load_blk rfl 29 _ rfl _ rfl _ (by with_reducible exact P0.out) _ Try.underlying29 rfl (exC_info _ _) ?_)
      | (go_at_call 55; refine HS.out.mono ?_; rintro e w1 ⟨rfl, hb⟩; have b1 := hide (next B0.out hb); clear hb))
    go_ret
    exact ⟨rfl, b1.out⟩
  · have q1 := size_fine hf
    cases ha : allE (.mk nd ks)
    · rw [mayR_two hf ha]
      rw [ha] at HA
      generalize sizeR (.mk nd ks) = S at *
      clear hf ha
      go_enter Try.func45, Try.ntmps45
      go_wp2_with (first
        | (refine wpList_load_blk rfl 29 _ rfl _ rfl _ (by with_reducible exact P0.out) _ Try.underlying29 rfl (exC_info _ _) ?_)
        | (go_at_call 55; refine HS.out.mono ?_; rintro e w1 ⟨rfl, hb⟩; have b1 := hide (next B0.out hb); have P1 := hide (P0.out.keep hb); clear hb)
        | (refine wpList_load_blk rfl 29 _ rfl _ rfl _ (by with_reducible exact P1.out) _ Try.underlying29 rfl (exC_info _ _) ?_)
        | (go_at_call 56; refine (HA.out _ b1.out).mono ?_; rintro e w2 ⟨rfl, hb⟩; have b2 := hide (next b1.out hb); clear hb))
      go_ret
      exact ⟨rfl, b2.out⟩
    · rw [mayR_ok hf ha]
      rw [ha] at HA
      generalize sizeR (.mk nd ks) = S at *
      clear hf ha
      go_enter Try.func45, Try.ntmps45
      go_wp2_with (first
        | (refine wpList_load_blk rfl 29 _ rfl _ rfl _ (by with_reducible exact P0.out) _ Try.underlying29 rfl (exC_info _ _) ?_)
        | (go_at_call 55; refine HS.out.mono ?_; rintro e w1 ⟨rfl, hb⟩; have b1 := hide (next B0.out hb); have P1 := hide (P0.out.keep hb); clear hb)
        | (refine wpList_load_blk rfl 29 _ rfl _ rfl _ (by with_reducible exact P1.out) _ Try.underlying29 rfl (exC_info _ _) ?_)
        | (go_at_call 56; refine (HA.out _ b1.out).mono ?_; rintro e w2 ⟨rfl, hb⟩; have b2 := hide (next b1.out hb); clear hb))
      go_ret
      exact ⟨rfl, b2.out⟩
end Go.Proofs.Ytbljdmegdejboaa
