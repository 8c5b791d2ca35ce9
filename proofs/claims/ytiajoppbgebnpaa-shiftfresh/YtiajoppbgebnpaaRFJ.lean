/- quadrilleref9.fits, by the kind. quadrilleref9.fits, by the kind. quadrilleref9.fits, by the kind. quadrilleref9.fits, by the kind. quadrilleref9.fits: what it answers of every node. -/
import Derived.Test.YtiajoppbgebnpaaRFit9a
namespace Go.Proofs.Ytiajoppbgebnpaa
open Go.RowKit Go.Sort
set_option linter.unusedVariables false

set_option maxHeartbeats 4000000 in
set_option maxRecDepth 100000 in
theorem fits_3 (n : Nd) (a : Option Addr) (len cap : Nat) (hlen : len ≤ 4611686018427387904) (hk : n.kind = 3) (w : World) : Calls Try.prog 55 #[exV n (.slice a len cap)] w fun e w' => e = .returned (.bool (toldB n len)) ∧ Below w.heap.size w w' := by
  have P0 := hide ((Blk.new w (exC n (.slice a len cap)) 37).alloc (.cells #[.int .i64 0, .int .i64 0, .bool false, .bool false] 35))
  have Q0 := hide (Blk.new w (exC n (.slice a len cap)) 37)
  have B0 := hide (step (step (Below.refl w.heap.size w) (exO n (.slice a len cap))) (.cells #[.int .i64 0, .int .i64 0, .bool false, .bool false] 35))
  obtain ⟨c0, c1, c2, c3, c4, c5, c6, c7, c8, c9, c10, c11, c12, c13⟩ := at14 n (.slice a len cap)
  have x0 := (P0.out.at' 0).trans c0
  have x1 := (P0.out.at' 1).trans c1
  have x2 := (P0.out.at' 2).trans c2
  have x3 := (P0.out.at' 3).trans c3
  have x4 := (P0.out.at' 4).trans c4
  have x5 := (P0.out.at' 5).trans c5
  have x6 := (P0.out.at' 6).trans c6
  have x7 := (P0.out.at' 7).trans c7
  have x8 := (P0.out.at' 8).trans c8
  have x9 := (P0.out.at' 9).trans c9
  have x10 := (P0.out.at' 10).trans c10
  have x11 := (P0.out.at' 11).trans c11
  have x12 := (P0.out.at' 12).trans c12
  have x13 := (P0.out.at' 13).trans c13
  have er := fun w => eq_ref n.ref w
  have et := fun w => eq_ref n.to w
  have x14 := (Q0.out.at' 13).trans c13
  replace hlen := hide hlen
  clear c0 c1 c2 c3 c4 c5 c6 c7 c8 c9 c10 c11 c12 c13
  go_enter Try.func55, Try.ntmps55
  go_wp2_with fail
  all_goals go_ret
  all_goals refine ⟨ret_bool ?_, by go_grown⟩
  all_goals clear x0 x1 x2 x3 x4 x5 x6 x7 x8 x9 x10 x11 x12 x13 x14 P0 Q0 B0 er et
  all_goals rw [Bool.eq_iff_iff]
  all_goals try simp only [txt_nil] at *
  all_goals first
    | (simp [toldB, okOf, leftOf, restOf, ndB, *]; done)
    | (simp [toldB, okOf, leftOf, restOf, ndB, *]; omega)
set_option maxHeartbeats 4000000 in
set_option maxRecDepth 100000 in
theorem fits_4 (n : Nd) (a : Option Addr) (len cap : Nat) (hlen : len ≤ 4611686018427387904) (hk : n.kind = 4) (w : World) : Calls Try.prog 55 #[exV n (.slice a len cap)] w fun e w' => e = .returned (.bool (toldB n len)) ∧ Below w.heap.size w w' := by
  have P0 := hide ((Blk.new w (exC n (.slice a len cap)) 37).alloc (.cells #[.int .i64 0, .int .i64 0, .bool false, .bool false] 35))
  have Q0 := hide (Blk.new w (exC n (.slice a len cap)) 37)
  have B0 := hide (step (step (Below.refl w.heap.size w) (exO n (.slice a len cap))) (.cells #[.int .i64 0, .int .i64 0, .bool false, .bool false] 35))
  obtain ⟨c0, c1, c2, c3, c4, c5, c6, c7, c8, c9, c10, c11, c12, c13⟩ := at14 n (.slice a len cap)
  have x0 := (P0.out.at' 0).trans c0
  have x1 := (P0.out.at' 1).trans c1
  have x2 := (P0.out.at' 2).trans c2
  have x3 := (P0.out.at' 3).trans c3
  have x4 := (P0.out.at' 4).trans c4
  have x5 := (P0.out.at' 5).trans c5
  have x6 := (P0.out.at' 6).trans c6
  have x7 := (P0.out.at' 7).trans c7
  have x8 := (P0.out.at' 8).trans c8
  have x9 := (P0.out.at' 9).trans c9
  have x10 := (P0.out.at' 10).trans c10
  have x11 := (P0.out.at' 11).trans c11
  have x12 := (P0.out.at' 12).trans c12
  have x13 := (P0.out.at' 13).trans c13
  have er := fun w => eq_ref n.ref w
  have et := fun w => eq_ref n.to w
  have x14 := (Q0.out.at' 13).trans c13
  replace hlen := hide hlen
  clear c0 c1 c2 c3 c4 c5 c6 c7 c8 c9 c10 c11 c12 c13
  go_enter Try.func55, Try.ntmps55
  go_wp2_with fail
  all_goals go_ret
  all_goals refine ⟨ret_bool ?_, by go_grown⟩
  all_goals clear x0 x1 x2 x3 x4 x5 x6 x7 x8 x9 x10 x11 x12 x13 x14 P0 Q0 B0 er et
  all_goals rw [Bool.eq_iff_iff]
  all_goals try simp only [txt_nil] at *
  all_goals first
    | (simp [toldB, okOf, leftOf, restOf, ndB, *]; done)
    | (simp [toldB, okOf, leftOf, restOf, ndB, *]; omega)
end Go.Proofs.Ytiajoppbgebnpaa
namespace Go.Proofs.Ytiajoppbgebnpaa
open Go.RowKit Go.Sort
set_option linter.unusedVariables false

set_option maxHeartbeats 4000000 in
set_option maxRecDepth 100000 in
theorem fits_7 (n : Nd) (a : Option Addr) (len cap : Nat) (hlen : len ≤ 4611686018427387904) (hk : n.kind = 7) (w : World) : Calls Try.prog 55 #[exV n (.slice a len cap)] w fun e w' => e = .returned (.bool (toldB n len)) ∧ Below w.heap.size w w' := by
  have P0 := hide ((Blk.new w (exC n (.slice a len cap)) 37).alloc (.cells #[.int .i64 0, .int .i64 0, .bool false, .bool false] 35))
  have Q0 := hide (Blk.new w (exC n (.slice a len cap)) 37)
  have B0 := hide (step (step (Below.refl w.heap.size w) (exO n (.slice a len cap))) (.cells #[.int .i64 0, .int .i64 0, .bool false, .bool false] 35))
  obtain ⟨c0, c1, c2, c3, c4, c5, c6, c7, c8, c9, c10, c11, c12, c13⟩ := at14 n (.slice a len cap)
  have x0 := (P0.out.at' 0).trans c0
  have x1 := (P0.out.at' 1).trans c1
  have x2 := (P0.out.at' 2).trans c2
  have x3 := (P0.out.at' 3).trans c3
  have x4 := (P0.out.at' 4).trans c4
  have x5 := (P0.out.at' 5).trans c5
  have x6 := (P0.out.at' 6).trans c6
  have x7 := (P0.out.at' 7).trans c7
  have x8 := (P0.out.at' 8).trans c8
  have x9 := (P0.out.at' 9).trans c9
  have x10 := (P0.out.at' 10).trans c10
  have x11 := (P0.out.at' 11).trans c11
  have x12 := (P0.out.at' 12).trans c12
  have x13 := (P0.out.at' 13).trans c13
  have er := fun w => eq_ref n.ref w
  have et := fun w => eq_ref n.to w
  have x14 := (Q0.out.at' 13).trans c13
  have wl := IntWalk.wrap64_in ((len : Int) - 1) ⟨by omega, by omega⟩
  replace hlen := hide hlen
  clear c0 c1 c2 c3 c4 c5 c6 c7 c8 c9 c10 c11 c12 c13
  go_enter Try.func55, Try.ntmps55
  go_wp2_with fail
  all_goals go_ret
  all_goals refine ⟨ret_bool ?_, by go_grown⟩
  all_goals clear x0 x1 x2 x3 x4 x5 x6 x7 x8 x9 x10 x11 x12 x13 x14 P0 Q0 B0 er et
  all_goals rw [Bool.eq_iff_iff]
  all_goals try simp only [txt_nil] at *
  all_goals first
    | (simp [toldB, okOf, leftOf, restOf, ndB, *]; done)
    | (simp [toldB, okOf, leftOf, restOf, ndB, *]; omega)
set_option maxHeartbeats 4000000 in
set_option maxRecDepth 100000 in
theorem fits_8 (n : Nd) (a : Option Addr) (len cap : Nat) (hlen : len ≤ 4611686018427387904) (hk : n.kind = 8) (w : World) : Calls Try.prog 55 #[exV n (.slice a len cap)] w fun e w' => e = .returned (.bool (toldB n len)) ∧ Below w.heap.size w w' := by
  have P0 := hide ((Blk.new w (exC n (.slice a len cap)) 37).alloc (.cells #[.int .i64 0, .int .i64 0, .bool false, .bool false] 35))
  have Q0 := hide (Blk.new w (exC n (.slice a len cap)) 37)
  have B0 := hide (step (step (Below.refl w.heap.size w) (exO n (.slice a len cap))) (.cells #[.int .i64 0, .int .i64 0, .bool false, .bool false] 35))
  obtain ⟨c0, c1, c2, c3, c4, c5, c6, c7, c8, c9, c10, c11, c12, c13⟩ := at14 n (.slice a len cap)
  have x0 := (P0.out.at' 0).trans c0
  have x1 := (P0.out.at' 1).trans c1
  have x2 := (P0.out.at' 2).trans c2
  have x3 := (P0.out.at' 3).trans c3
  have x4 := (P0.out.at' 4).trans c4
  have x5 := (P0.out.at' 5).trans c5
  have x6 := (P0.out.at' 6).trans c6
  have x7 := (P0.out.at' 7).trans c7
  have x8 := (P0.out.at' 8).trans c8
  have x9 := (P0.out.at' 9).trans c9
  have x10 := (P0.out.at' 10).trans c10
  have x11 := (P0.out.at' 11).trans c11
  have x12 := (P0.out.at' 12).trans c12
  have x13 := (P0.out.at' 13).trans c13
  have er := fun w => eq_ref n.ref w
  have et := fun w => eq_ref n.to w
  have x14 := (Q0.out.at' 13).trans c13
  have wl := IntWalk.wrap64_in ((len : Int) - 2) ⟨by omega, by omega⟩
  replace hlen := hide hlen
  clear c0 c1 c2 c3 c4 c5 c6 c7 c8 c9 c10 c11 c12 c13
  go_enter Try.func55, Try.ntmps55
  go_wp2_with fail
  all_goals go_ret
  all_goals refine ⟨ret_bool ?_, by go_grown⟩
  all_goals clear x0 x1 x2 x3 x4 x5 x6 x7 x8 x9 x10 x11 x12 x13 x14 P0 Q0 B0 er et
  all_goals rw [Bool.eq_iff_iff]
  all_goals try simp only [txt_nil] at *
  all_goals first
    | (simp [toldB, okOf, leftOf, restOf, ndB, *]; done)
    | (simp [toldB, okOf, leftOf, restOf, ndB, *]; omega)
set_option maxHeartbeats 4000000 in
set_option maxRecDepth 100000 in
theorem fits_0 (n : Nd) (a : Option Addr) (len cap : Nat) (hlen : len ≤ 4611686018427387904) (hk : ¬ (n.kind = 1) ∧ ¬ (n.kind = 2) ∧ ¬ (n.kind = 3) ∧ ¬ (n.kind = 4) ∧ ¬ (n.kind = 5) ∧ ¬ (n.kind = 6) ∧ ¬ (n.kind = 7) ∧ ¬ (n.kind = 8) ∧ ¬ (n.kind = 9)) (w : World) : Calls Try.prog 55 #[exV n (.slice a len cap)] w fun e w' => e = .returned (.bool (toldB n len)) ∧ Below w.heap.size w w' := by
  have P0 := hide ((Blk.new w (exC n (.slice a len cap)) 37).alloc (.cells #[.int .i64 0, .int .i64 0, .bool false, .bool false] 35))
  have Q0 := hide (Blk.new w (exC n (.slice a len cap)) 37)
  have B0 := hide (step (step (Below.refl w.heap.size w) (exO n (.slice a len cap))) (.cells #[.int .i64 0, .int .i64 0, .bool false, .bool false] 35))
  obtain ⟨c0, c1, c2, c3, c4, c5, c6, c7, c8, c9, c10, c11, c12, c13⟩ := at14 n (.slice a len cap)
  have x0 := (P0.out.at' 0).trans c0
  have x1 := (P0.out.at' 1).trans c1
  have x2 := (P0.out.at' 2).trans c2
  have x3 := (P0.out.at' 3).trans c3
  have x4 := (P0.out.at' 4).trans c4
  have x5 := (P0.out.at' 5).trans c5
  have x6 := (P0.out.at' 6).trans c6
  have x7 := (P0.out.at' 7).trans c7
  have x8 := (P0.out.at' 8).trans c8
  have x9 := (P0.out.at' 9).trans c9
  have x10 := (P0.out.at' 10).trans c10
  have x11 := (P0.out.at' 11).trans c11
  have x12 := (P0.out.at' 12).trans c12
  have x13 := (P0.out.at' 13).trans c13
  have er := fun w => eq_ref n.ref w
  have et := fun w => eq_ref n.to w
  have x14 := (Q0.out.at' 13).trans c13
  obtain ⟨k1, k2, k3, k4, k5, k6, k7, k8, k9⟩ := hk
  replace hlen := hide hlen
  clear c0 c1 c2 c3 c4 c5 c6 c7 c8 c9 c10 c11 c12 c13
  go_enter Try.func55, Try.ntmps55
  go_wp2_with fail
  all_goals go_ret
  all_goals refine ⟨ret_bool ?_, by go_grown⟩
  all_goals clear x0 x1 x2 x3 x4 x5 x6 x7 x8 x9 x10 x11 x12 x13 x14 P0 Q0 B0 er et
  all_goals rw [Bool.eq_iff_iff]
  all_goals try simp only [txt_nil] at *
  all_goals first
    | (simp [toldB, okOf, leftOf, restOf, ndB, *]; done)
    | (simp [toldB, okOf, leftOf, restOf, ndB, *]; omega)
end Go.Proofs.Ytiajoppbgebnpaa
namespace Go.Proofs.Ytiajoppbgebnpaa
open Go.RowKit Go.Sort
set_option linter.unusedVariables false

theorem rf00 : rfB ⟨0, 0, false, false⟩ ⟨0, 0, false, false⟩ = true := by decide
set_option maxHeartbeats 4000000 in
set_option maxRecDepth 100000 in
theorem fits_5 (n : Nd) (a : Option Addr) (len cap : Nat) (hlen : len ≤ 4611686018427387904) (hk : n.kind = 5) (w : World) : Calls Try.prog 55 #[exV n (.slice a len cap)] w fun e w' => e = .returned (.bool (toldB n len)) ∧ Below w.heap.size w w' := by
  have P0 := hide ((Blk.new w (exC n (.slice a len cap)) 37).alloc (.cells #[.int .i64 0, .int .i64 0, .bool false, .bool false] 35))
  have Q0 := hide (Blk.new w (exC n (.slice a len cap)) 37)
  have B0 := hide (step (step (Below.refl w.heap.size w) (exO n (.slice a len cap))) (.cells #[.int .i64 0, .int .i64 0, .bool false, .bool false] 35))
  obtain ⟨c0, c1, c2, c3, c4, c5, c6, c7, c8, c9, c10, c11, c12, c13⟩ := at14 n (.slice a len cap)
  have x0 := (P0.out.at' 0).trans c0
  have x1 := (P0.out.at' 1).trans c1
  have x2 := (P0.out.at' 2).trans c2
  have x3 := (P0.out.at' 3).trans c3
  have x4 := (P0.out.at' 4).trans c4
  have x5 := (P0.out.at' 5).trans c5
  have x6 := (P0.out.at' 6).trans c6
  have x7 := (P0.out.at' 7).trans c7
  have x8 := (P0.out.at' 8).trans c8
  have x9 := (P0.out.at' 9).trans c9
  have x10 := (P0.out.at' 10).trans c10
  have x11 := (P0.out.at' 11).trans c11
  have x12 := (P0.out.at' 12).trans c12
  have x13 := (P0.out.at' 13).trans c13
  have er := fun w => eq_ref n.ref w
  have et := fun w => eq_ref n.to w
  have x14 := (Q0.out.at' 13).trans c13
  replace hlen := hide hlen
  clear c0 c1 c2 c3 c4 c5 c6 c7 c8 c9 c10 c11 c12 c13
  have HP := hide (fun w' => place_any n.ref.row n.ref.col n.ref.pr n.ref.pc w')
  go_enter Try.func55, Try.ntmps55
  go_wp2_with (go_at_call 65; refine (HP.out _).mono ?_; rintro e w1 ⟨rfl, hb⟩; have b1 := hide (next B0.out hb); clear hb)
  all_goals go_ret
  all_goals refine ⟨ret_bool ?_, b1.out⟩
  all_goals clear x0 x1 x2 x3 x4 x5 x6 x7 x8 x9 x10 x11 x12 x13 x14 P0 Q0 B0 er et
  all_goals rw [Bool.eq_iff_iff]
  all_goals try simp only [txt_nil] at *
  all_goals first
    | (simp [toldB, okOf, leftOf, restOf, ndB, rf00, *]; done)
    | (simp [toldB, okOf, leftOf, restOf, ndB, rf00, *]; omega)
set_option maxHeartbeats 4000000 in
set_option maxRecDepth 100000 in
theorem fits_6 (n : Nd) (a : Option Addr) (len cap : Nat) (hlen : len ≤ 4611686018427387904) (hk : n.kind = 6) (w : World) : Calls Try.prog 55 #[exV n (.slice a len cap)] w fun e w' => e = .returned (.bool (toldB n len)) ∧ Below w.heap.size w w' := by
  have P0 := hide ((Blk.new w (exC n (.slice a len cap)) 37).alloc (.cells #[.int .i64 0, .int .i64 0, .bool false, .bool false] 35))
  have Q0 := hide (Blk.new w (exC n (.slice a len cap)) 37)
  have B0 := hide (step (step (Below.refl w.heap.size w) (exO n (.slice a len cap))) (.cells #[.int .i64 0, .int .i64 0, .bool false, .bool false] 35))
  obtain ⟨c0, c1, c2, c3, c4, c5, c6, c7, c8, c9, c10, c11, c12, c13⟩ := at14 n (.slice a len cap)
  have x0 := (P0.out.at' 0).trans c0
  have x1 := (P0.out.at' 1).trans c1
  have x2 := (P0.out.at' 2).trans c2
  have x3 := (P0.out.at' 3).trans c3
  have x4 := (P0.out.at' 4).trans c4
  have x5 := (P0.out.at' 5).trans c5
  have x6 := (P0.out.at' 6).trans c6
  have x7 := (P0.out.at' 7).trans c7
  have x8 := (P0.out.at' 8).trans c8
  have x9 := (P0.out.at' 9).trans c9
  have x10 := (P0.out.at' 10).trans c10
  have x11 := (P0.out.at' 11).trans c11
  have x12 := (P0.out.at' 12).trans c12
  have x13 := (P0.out.at' 13).trans c13
  have er := fun w => eq_ref n.ref w
  have et := fun w => eq_ref n.to w
  have x14 := (Q0.out.at' 13).trans c13
  replace hlen := hide hlen
  clear c0 c1 c2 c3 c4 c5 c6 c7 c8 c9 c10 c11 c12 c13
  have HP := hide (fun w' => place_any n.ref.row n.ref.col n.ref.pr n.ref.pc w')
  have HQ := hide (fun w' => place_any n.to.row n.to.col n.to.pr n.to.pc w')
  go_enter Try.func55, Try.ntmps55
  go_wp2_with (first
    | (go_at_call 65; have b1' := b1.out; refine (HQ.out _).mono ?_; rintro e w2 ⟨rfl, hb⟩; have b2 := hide (next b1' hb); clear hb b1')
    | (go_at_call 65; refine (HP.out _).mono ?_; rintro e w1 ⟨rfl, hb⟩; have b1 := hide (next B0.out hb); have P1 := hide (P0.out.keep hb); have y8 := (P1.out.at' 8).trans (at14 n (.slice a len cap)).c8; have y9 := (P1.out.at' 9).trans (at14 n (.slice a len cap)).c9; have y10 := (P1.out.at' 10).trans (at14 n (.slice a len cap)).c10; have y11 := (P1.out.at' 11).trans (at14 n (.slice a len cap)).c11; clear hb))
  all_goals go_ret
  all_goals refine ⟨ret_bool ?_, b2.out⟩
  all_goals clear x0 x1 x2 x3 x4 x5 x6 x7 x8 x9 x10 x11 x12 x13 x14 P0 Q0 B0 er et
  all_goals rw [Bool.eq_iff_iff]
  all_goals try simp only [txt_nil] at *
  all_goals first
    | (simp [toldB, okOf, leftOf, restOf, ndB, rf00, *]; done)
    | (simp [toldB, okOf, leftOf, restOf, ndB, rf00, *]; omega)
end Go.Proofs.Ytiajoppbgebnpaa
namespace Go.Proofs.Ytiajoppbgebnpaa
open Go.RowKit Go.Sort
set_option linter.unusedVariables false

set_option maxHeartbeats 4000000 in
set_option maxRecDepth 100000 in
theorem fits_9y (n : Nd) (a : Option Addr) (len cap : Nat) (hlen : len ≤ 4611686018427387904) (hk : n.kind = 9) (k : Nat) (hk7 : k < 76) (hf : n.fn = (k : Int) + 1) (w : World) : Calls Try.prog 55 #[exV n (.slice a len cap)] w fun e w' => e = .returned (.bool (toldB n len)) ∧ Below w.heap.size w w' := by
  have P0 := hide ((Blk.new w (exC n (.slice a len cap)) 37).alloc (.cells #[.int .i64 0, .int .i64 0, .bool false, .bool false] 35))
  have Q0 := hide (Blk.new w (exC n (.slice a len cap)) 37)
  have B0 := hide (step (step (Below.refl w.heap.size w) (exO n (.slice a len cap))) (.cells #[.int .i64 0, .int .i64 0, .bool false, .bool false] 35))
  obtain ⟨c0, c1, c2, c3, c4, c5, c6, c7, c8, c9, c10, c11, c12, c13⟩ := at14 n (.slice a len cap)
  have x0 := (P0.out.at' 0).trans c0
  have x1 := (P0.out.at' 1).trans c1
  have x2 := (P0.out.at' 2).trans c2
  have x3 := (P0.out.at' 3).trans c3
  have x4 := (P0.out.at' 4).trans c4
  have x5 := (P0.out.at' 5).trans c5
  have x6 := (P0.out.at' 6).trans c6
  have x7 := (P0.out.at' 7).trans c7
  have x8 := (P0.out.at' 8).trans c8
  have x9 := (P0.out.at' 9).trans c9
  have x10 := (P0.out.at' 10).trans c10
  have x11 := (P0.out.at' 11).trans c11
  have x12 := (P0.out.at' 12).trans c12
  have x13 := (P0.out.at' 13).trans c13
  have er := fun w => eq_ref n.ref w
  have et := fun w => eq_ref n.to w
  have x14 := (Q0.out.at' 13).trans c13
  replace hlen := hide hlen
  clear c0 c1 c2 c3 c4 c5 c6 c7 c8 c9 c10 c11 c12 c13
  have HI := hide (rinfo_yes k hk7)
  have hT : takesB n.fn len = (decide ((tab[k]'(by rw [tab_len]; exact hk7)).2.1 ≤ len) && (decide ((len : Int) ≤ (tab[k]'(by rw [tab_len]; exact hk7)).2.2) || decide ((tab[k]'(by rw [tab_len]; exact hk7)).2.2 < 0))) := by
    unfold takesB
    rw [dif_pos (by omega)]
    have : (n.fn - 1).toNat = k := by omega
    simp only [this]
  generalize tab[k] = r at *
  obtain ⟨nm, mn, mx⟩ := r
  replace hT := hide hT
  clear hk7
  go_enter Try.func55, Try.ntmps55
  go_wp2_with (go_at_call 66; refine (HI.out _).mono ?_; rintro e w1 ⟨⟨nm', cl', rfl⟩, hb⟩; have b1 := hide (next B0.out hb); have P1 := hide (P0.out.keep hb); clear hb)
  all_goals go_ret
  all_goals refine ⟨ret_bool ?_, step b1.out _⟩
  all_goals clear x0 x1 x2 x3 x4 x5 x6 x7 x8 x9 x10 x11 x12 x13 x14 P0 Q0 B0 er et P1 b1 HI
  all_goals have hT' := hT.out
  all_goals clear hT
  all_goals rw [hf] at hT'
  all_goals rw [Bool.eq_iff_iff]
  all_goals try simp only [txt_nil] at *
  all_goals first
    | (simp [toldB, okOf, leftOf, restOf, ndB, *]; done)
    | (simp [toldB, okOf, leftOf, restOf, ndB, *]; omega)
set_option maxHeartbeats 4000000 in
set_option maxRecDepth 100000 in
theorem fits_9n (n : Nd) (a : Option Addr) (len cap : Nat) (hlen : len ≤ 4611686018427387904) (hk : n.kind = 9) (hf : ¬ (1 ≤ n.fn ∧ n.fn ≤ 76)) (w : World) : Calls Try.prog 55 #[exV n (.slice a len cap)] w fun e w' => e = .returned (.bool (toldB n len)) ∧ Below w.heap.size w w' := by
  have P0 := hide ((Blk.new w (exC n (.slice a len cap)) 37).alloc (.cells #[.int .i64 0, .int .i64 0, .bool false, .bool false] 35))
  have Q0 := hide (Blk.new w (exC n (.slice a len cap)) 37)
  have B0 := hide (step (step (Below.refl w.heap.size w) (exO n (.slice a len cap))) (.cells #[.int .i64 0, .int .i64 0, .bool false, .bool false] 35))
  obtain ⟨c0, c1, c2, c3, c4, c5, c6, c7, c8, c9, c10, c11, c12, c13⟩ := at14 n (.slice a len cap)
  have x0 := (P0.out.at' 0).trans c0
  have x1 := (P0.out.at' 1).trans c1
  have x2 := (P0.out.at' 2).trans c2
  have x3 := (P0.out.at' 3).trans c3
  have x4 := (P0.out.at' 4).trans c4
  have x5 := (P0.out.at' 5).trans c5
  have x6 := (P0.out.at' 6).trans c6
  have x7 := (P0.out.at' 7).trans c7
  have x8 := (P0.out.at' 8).trans c8
  have x9 := (P0.out.at' 9).trans c9
  have x10 := (P0.out.at' 10).trans c10
  have x11 := (P0.out.at' 11).trans c11
  have x12 := (P0.out.at' 12).trans c12
  have x13 := (P0.out.at' 13).trans c13
  have er := fun w => eq_ref n.ref w
  have et := fun w => eq_ref n.to w
  have x14 := (Q0.out.at' 13).trans c13
  replace hlen := hide hlen
  clear c0 c1 c2 c3 c4 c5 c6 c7 c8 c9 c10 c11 c12 c13
  have HI := hide (rinfo_no n.fn hf)
  have hT : Hid (takesB n.fn len = false) := hide (by unfold takesB; rw [dif_neg hf])
  go_enter Try.func55, Try.ntmps55
  go_wp2_with (go_at_call 66; refine (HI.out _).mono ?_; rintro e w1 ⟨rfl, hb⟩; have b1 := hide (next B0.out hb); have P1 := hide (P0.out.keep hb); clear hb)
  all_goals go_ret
  all_goals refine ⟨ret_bool ?_, step b1.out _⟩
  all_goals clear x0 x1 x2 x3 x4 x5 x6 x7 x8 x9 x10 x11 x12 x13 x14 P0 Q0 B0 er et P1 b1 HI
  all_goals have hT' := hT.out
  all_goals clear hT
  all_goals rw [Bool.eq_iff_iff]
  all_goals try simp only [txt_nil] at *
  all_goals first
    | (simp [toldB, okOf, leftOf, restOf, ndB, *]; done)
    | (simp [toldB, okOf, leftOf, restOf, ndB, *]; omega)
end Go.Proofs.Ytiajoppbgebnpaa
namespace Go.Proofs.Ytiajoppbgebnpaa
open Go.RowKit Go.Sort
set_option linter.unusedVariables false

theorem rfits_any (n : Nd) (a : Option Addr) (len cap : Nat) (hlen : len ≤ 4611686018427387904) (w : World) : Calls Try.prog 55 #[exV n (.slice a len cap)] w fun e w' => e = .returned (.bool (toldB n len)) ∧ Below w.heap.size w w' := by
  by_cases h1 : n.kind = 1
  · exact fits_1 n a len cap hlen h1 w
  by_cases h2 : n.kind = 2
  · exact fits_2 n a len cap hlen h2 w
  by_cases h3 : n.kind = 3
  · exact fits_3 n a len cap hlen h3 w
  by_cases h4 : n.kind = 4
  · exact fits_4 n a len cap hlen h4 w
  by_cases h5 : n.kind = 5
  · exact fits_5 n a len cap hlen h5 w
  by_cases h6 : n.kind = 6
  · exact fits_6 n a len cap hlen h6 w
  by_cases h7 : n.kind = 7
  · exact fits_7 n a len cap hlen h7 w
  by_cases h8 : n.kind = 8
  · exact fits_8 n a len cap hlen h8 w
  by_cases h9 : n.kind = 9
  · by_cases hf : 1 ≤ n.fn ∧ n.fn ≤ 76
    · exact fits_9y n a len cap hlen h9 (n.fn - 1).toNat (by omega) (by omega) w
    · exact fits_9n n a len cap hlen h9 hf w
  exact fits_0 n a len cap hlen ⟨h1, h2, h3, h4, h5, h6, h7, h8, h9⟩ w
end Go.Proofs.Ytiajoppbgebnpaa
