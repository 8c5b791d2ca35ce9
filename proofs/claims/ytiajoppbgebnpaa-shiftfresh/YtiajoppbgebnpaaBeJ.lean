/- What every statement of layer 12 asks ahead. quadrillelaw10.Nodes and Small; quadrillelaw12.refs and lost; sound. -/
import Derived.Test.YtiajoppbgebnpaaWkJ
import Derived.Test.YtiajoppbgebnpaaEq12
namespace Go.Proofs.Ytiajoppbgebnpaa
open Go.RowKit Go.Sort
set_option linter.unusedVariables false

abbrev ndR (r c : Int) : Nd := ⟨5, 0, 0, no, ⟨r, c, false, false⟩, rf0, 0⟩
abbrev ndG (r s : Int) : Nd := ⟨6, 0, 0, no, ⟨r, 0, false, false⟩, ⟨s, 0, false, false⟩, 0⟩
abbrev ndS : Nd := ⟨9, 0, 0, no, rf0, rf0, 54⟩
abbrev refT (r c : Int) : Ex := .mk (ndR r c) []
abbrev sumT (r s : Int) : Ex := .mk ndS [.mk (ndG r s) []]
set_option maxHeartbeats 1000000 in
theorem ref_any (r c : Int) : CallIs 15 #[.int .i64 r, .int .i64 c] (exV (ndR r c) (.slice none 0 0)) := by
  intro w
  go_enter Try.func15, Try.ntmps15
  go_wp2_with fail
  refine bodyPost_ret (v := exV (ndR r c) (.slice none 0 0)) (by simp [results, Try.results15, go_sem]; try rfl) rfl ?_
  exact ⟨rfl, by go_grown⟩
/-- A tree that is answered is a tree. -/
theorem ShP.tree {w : World} {n : Nd} {ks : List Ex} {e : Ending} {w' : World} (h : ShP w 0 (.mk n ks) e w') (hs : SmE (.mk n ks)) : ∃ a len cap, e = .returned (.tuple #[exV n (.slice a len cap), .int .i64 0]) ∧ Tree w' (exV n (.slice a len cap)) (.mk n ks) ∧ Below w.heap.size w w' := by
  rcases h with ⟨h, _⟩ | ⟨_, a, len, cap, bs, h1, h2, h3⟩
  · exact absurd rfl h
  · exact ⟨a, len, cap, h1, h2.ow.in' _ (fun x hx => (h2.at' x hx).2) hs, h3⟩
theorem ShP.err {w : World} {er : Int} {t : Ex} {e : Ending} {w' : World} (h : ShP w er t e w') (hn : er ≠ 0) : e = .returned (.tuple #[exV nd0 (.slice none 0 0), .int .i64 er]) ∧ Below w.heap.size w w' := by
  rcases h with ⟨_, h1, h2⟩ | ⟨h, _⟩
  · exact ⟨h1, h2⟩
  · exact absurd h hn
theorem sm_leaf {n : Nd} (h : n.text.size ≤ 4611686018427387904) : SmE (.mk n []) := by unfold SmE; exact ⟨h, by simp, by unfold SmL; trivial⟩
theorem sum_tree (W : World) (r s : Int) (o : Obj) : Tree ((W.alloc (exO (ndG r s) (.slice none 0 0))).alloc o) (exV ndS (.slice (some ⟨W.heap.size, 0, none⟩) 1 1)) (sumT r s) := by
  unfold Tree In
  refine ⟨_, 1, 1, rfl, rfl, by omega, Nat.zero_le _, .inr ⟨W.heap.size, 0, rfl, by simp; omega, ?_⟩⟩
  unfold Kids
  refine ⟨⟨exC (ndG r s) (.slice none 0 0), leaf_in _ _ _ (Nat.zero_le _), range_of_block (range_ex W (ndG r s) _) (Below.heap_alloc _ _ _ (by simp))⟩, by unfold Kids; trivial⟩
theorem sum_tree2 (W : World) (b : Nat) (hb : W.heap.size = b) (r s : Int) (o : Obj) : Tree ((W.alloc (.cells #[.int .i64 6, .int .i64 0, .int .i64 0, .string { data := #[] }, .int .i64 r, .int .i64 0, .bool false, .bool false, .int .i64 s, .int .i64 0, .bool false, .bool false, .int .i64 0, .slice none 0 0] 37)).alloc o) (.agg #[.int .i64 9, .int .i64 0, .int .i64 0, .string { data := #[] }, .int .i64 0, .int .i64 0, .bool false, .bool false, .int .i64 0, .int .i64 0, .bool false, .bool false, .int .i64 54, .slice (some ⟨b, 0, none⟩) 1 1]) (sumT r s) := by
  subst hb
  exact sum_tree W r s o
theorem paste1 : movE (pasR 1 2) (refT 0 0) = refT 1 2 := by kernel_rfl
theorem paste2 : movE (pasR (-1) 0) (refT 0 0) = .mk lostN [] := by kernel_rfl
theorem rows1 : movE (rowR 4 (-2)) (sumT 8 4) = sumT 6 4 := by kernel_rfl
theorem er1 : mayR (refT 0 0) = 0 := by decide +kernel
theorem er2 : spotR (sumT 8 4) 4 0 = 0 := by decide +kernel
theorem er3 : spotR (refT 0 0) 65536 0 = 1 := by decide +kernel
theorem er4 : spotR (.mk nd0 []) 0 0 = 22 := by decide +kernel
theorem sm_sum (r s : Int) : SmE (sumT r s) := by unfold SmE; exact ⟨Nat.zero_le _, by simp, by unfold SmL; exact ⟨sm_leaf (Nat.zero_le _), by unfold SmL; trivial⟩⟩
set_option maxHeartbeats 1000000 in
set_option maxRecDepth 100000 in
theorem begun12 (w : World) : Calls Try.prog 4 #[] w fun e w' => e = .returned (.bool true) ∧ Below w.heap.size w w' := by
  have B0 := hide (Below.refl w.heap.size w)
  go_enter Try.func4, Try.ntmps4
  go_wp2_with fail
  refine ((ref_any 0 0).out _).mono ?_
  rintro e w1 ⟨rfl, hb⟩
  have B1 := hide (next B0.out hb)
  clear hb
  go_wp2_with fail
  refine (paste_any (refT 0 0) (exV (ndR 0 0) (.slice none 0 0)) 1 2 _ (leaf_tree _ (ndR 0 0) (Nat.zero_le _))).mono ?_
  intro e w2 hh
  rw [er1, paste1] at hh
  obtain ⟨a2, l2, c2, rfl, T2, hb⟩ := hh.tree (sm_leaf (Nat.zero_le _))
  clear hh
  have B2 := hide (next B1.out hb)
  have hsn2 := run_putnew w2 (ndR 1 2) a2 l2 c2
  replace T2 := hide T2
  clear hb
  go_wp2_with fail
  refine ((ref_any 0 0).out _).mono ?_
  rintro e w3 ⟨rfl, hb⟩
  have B3 := hide (next (step B2.out (exO (ndR 1 2) (.slice a2 l2 c2))) hb)
  have C3 := hide (next (step (Below.refl w2.heap.size w2) (exO (ndR 1 2) (.slice a2 l2 c2))) hb)
  have X3 := hide ((Blk.new w2 (exC (ndR 1 2) (.slice a2 l2 c2)) 37).keep hb)
  clear hb
  go_wp2_with fail
  refine (paste_any (refT 0 0) (exV (ndR 0 0) (.slice none 0 0)) (-1) 0 _ (leaf_tree _ (ndR 0 0) (Nat.zero_le _))).mono ?_
  intro e w4 hh
  rw [er1, paste2] at hh
  obtain ⟨a4, l4, c4, rfl, T4, hb⟩ := hh.tree (sm_leaf (Nat.zero_le _))
  clear hh
  have B4 := hide (next B3.out hb)
  have C4 := hide (next C3.out hb)
  have hsn4 := run_putnew w4 lostN a4 l4 c4
  replace T4 := hide T4
  have J4 := hide hb
  clear hb
  go_wp2_with fail
  have TR : Hid (Tree (((w4.alloc (exO lostN (.slice a4 l4 c4))).alloc (.cells #[.int .i64 6, .int .i64 0, .int .i64 0, .string { data := #[] }, .int .i64 8, .int .i64 0, .bool false, .bool false, .int .i64 4, .int .i64 0, .bool false, .bool false, .int .i64 0, .slice none 0 0] 37)).alloc (.cells #[.int .i64 9, .int .i64 0, .int .i64 0, .string { data := #[] }, .int .i64 0, .int .i64 0, .bool false, .bool false, .int .i64 0, .int .i64 0, .bool false, .bool false, .int .i64 54, .slice (some ⟨w4.heap.size + 1, 0, none⟩) 1 1] 37)) (.agg #[.int .i64 9, .int .i64 0, .int .i64 0, .string { data := #[] }, .int .i64 0, .int .i64 0, .bool false, .bool false, .int .i64 0, .int .i64 0, .bool false, .bool false, .int .i64 54, .slice (some ⟨w4.heap.size + 1, 0, none⟩) 1 1]) (sumT 8 4)) := hide (sum_tree2 (w4.alloc (exO lostN (.slice a4 l4 c4))) (w4.heap.size + 1) (by simp) 8 4 _)
  refine (rows_any (sumT 8 4) _ 4 (-2) _ TR.out).mono ?_
  clear TR
  intro e w5 hh
  rw [er2, rows1] at hh
  obtain ⟨a5, l5, c5, rfl, T5, hb⟩ := hh.tree (sm_sum 6 4)
  clear hh
  have B5 := hide (next (step (step (step B4.out (exO lostN (.slice a4 l4 c4))) (.cells #[.int .i64 6, .int .i64 0, .int .i64 0, .string { data := #[] }, .int .i64 8, .int .i64 0, .bool false, .bool false, .int .i64 4, .int .i64 0, .bool false, .bool false, .int .i64 0, .slice none 0 0] 37)) (.cells #[.int .i64 9, .int .i64 0, .int .i64 0, .string { data := #[] }, .int .i64 0, .int .i64 0, .bool false, .bool false, .int .i64 0, .int .i64 0, .bool false, .bool false, .int .i64 54, .slice (some ⟨w4.heap.size + 1, 0, none⟩) 1 1] 37)) hb)
  have C5 := hide (next (step (step (step C4.out (exO lostN (.slice a4 l4 c4))) (.cells #[.int .i64 6, .int .i64 0, .int .i64 0, .string { data := #[] }, .int .i64 8, .int .i64 0, .bool false, .bool false, .int .i64 4, .int .i64 0, .bool false, .bool false, .int .i64 0, .slice none 0 0] 37)) (.cells #[.int .i64 9, .int .i64 0, .int .i64 0, .string { data := #[] }, .int .i64 0, .int .i64 0, .bool false, .bool false, .int .i64 0, .int .i64 0, .bool false, .bool false, .int .i64 54, .slice (some ⟨w4.heap.size + 1, 0, none⟩) 1 1] 37)) hb)
  have D5 := hide (next (step (step (step (Below.refl w4.heap.size w4) (exO lostN (.slice a4 l4 c4))) (.cells #[.int .i64 6, .int .i64 0, .int .i64 0, .string { data := #[] }, .int .i64 8, .int .i64 0, .bool false, .bool false, .int .i64 4, .int .i64 0, .bool false, .bool false, .int .i64 0, .slice none 0 0] 37)) (.cells #[.int .i64 9, .int .i64 0, .int .i64 0, .string { data := #[] }, .int .i64 0, .int .i64 0, .bool false, .bool false, .int .i64 0, .int .i64 0, .bool false, .bool false, .int .i64 54, .slice (some ⟨w4.heap.size + 1, 0, none⟩) 1 1] 37)) hb)
  have Y5 := hide ((((Blk.new w4 (exC lostN (.slice a4 l4 c4)) 37).alloc (.cells #[.int .i64 6, .int .i64 0, .int .i64 0, .string { data := #[] }, .int .i64 8, .int .i64 0, .bool false, .bool false, .int .i64 4, .int .i64 0, .bool false, .bool false, .int .i64 0, .slice none 0 0] 37)).alloc (.cells #[.int .i64 9, .int .i64 0, .int .i64 0, .string { data := #[] }, .int .i64 0, .int .i64 0, .bool false, .bool false, .int .i64 0, .int .i64 0, .bool false, .bool false, .int .i64 54, .slice (some ⟨w4.heap.size + 1, 0, none⟩) 1 1] 37)).keep hb)
  have hsn5 := run_putnew w5 ndS a5 l5 c5
  replace T5 := hide T5
  have J5 := hide hb
  clear hb
  go_wp2_with fail
  refine ((ref_any 0 0).out _).mono ?_
  rintro e w6 ⟨rfl, hb⟩
  have B6 := hide (next (step B5.out (exO ndS (.slice a5 l5 c5))) hb)
  have C6 := hide (next (step C5.out (exO ndS (.slice a5 l5 c5))) hb)
  have D6 := hide (next (step D5.out (exO ndS (.slice a5 l5 c5))) hb)
  have E6 := hide (next (step (Below.refl w5.heap.size w5) (exO ndS (.slice a5 l5 c5))) hb)
  have X6 := hide ((Blk.new w5 (exC ndS (.slice a5 l5 c5)) 37).keep hb)
  have J6 := hide hb
  clear hb
  go_wp2_with fail
  refine (rows_any (refT 0 0) (exV (ndR 0 0) (.slice none 0 0)) 65536 1 _ (leaf_tree _ (ndR 0 0) (Nat.zero_le _))).mono ?_
  intro e w7 hh
  rw [er3] at hh
  obtain ⟨rfl, hb⟩ := hh.err (by decide)
  clear hh
  have B7 := hide (next B6.out hb)
  have C7 := hide (next C6.out hb)
  have D7 := hide (next D6.out hb)
  have E7 := hide (next E6.out hb)
  have hsn7 := run_putnew w7 nd0 none 0 0
  have J7 := hide hb
  clear hb
  go_wp2_with fail
  refine (cols_any (.mk nd0 []) (exV nd0 (.slice none 0 0)) 0 1 _ (leaf_tree _ nd0 (Nat.zero_le _))).mono ?_
  intro e w8 hh
  rw [er4] at hh
  obtain ⟨rfl, hb⟩ := hh.err (by decide)
  clear hh
  have B8 := hide (next (step B7.out (exO nd0 (.slice none 0 0))) hb)
  have C8 := hide (next (step C7.out (exO nd0 (.slice none 0 0))) hb)
  have D8 := hide (next (step D7.out (exO nd0 (.slice none 0 0))) hb)
  have E8 := hide (next (step E7.out (exO nd0 (.slice none 0 0))) hb)
  have hsn8 := run_putnew w8 nd0 none 0 0
  have J8 := hide hb
  clear hb
  have B9 := hide (step (step (step B8.out (exO nd0 (.slice none 0 0))) (.cells #[.int .i64 6, .int .i64 0, .int .i64 0, .string { data := #[] }, .int .i64 6, .int .i64 0, .bool false, .bool false, .int .i64 4, .int .i64 0, .bool false, .bool false, .int .i64 0, .slice none 0 0] 37)) (.cells #[.int .i64 9, .int .i64 0, .int .i64 0, .string { data := #[] }, .int .i64 0, .int .i64 0, .bool false, .bool false, .int .i64 0, .int .i64 0, .bool false, .bool false, .int .i64 54, .slice (some ⟨w8.heap.size + 1, 0, none⟩) 1 1] 37))
  have C9 := step (step (step C8.out (exO nd0 (.slice none 0 0))) (.cells #[.int .i64 6, .int .i64 0, .int .i64 0, .string { data := #[] }, .int .i64 6, .int .i64 0, .bool false, .bool false, .int .i64 4, .int .i64 0, .bool false, .bool false, .int .i64 0, .slice none 0 0] 37)) (.cells #[.int .i64 9, .int .i64 0, .int .i64 0, .string { data := #[] }, .int .i64 0, .int .i64 0, .bool false, .bool false, .int .i64 0, .int .i64 0, .bool false, .bool false, .int .i64 54, .slice (some ⟨w8.heap.size + 1, 0, none⟩) 1 1] 37)
  have D9 := step (step (step D8.out (exO nd0 (.slice none 0 0))) (.cells #[.int .i64 6, .int .i64 0, .int .i64 0, .string { data := #[] }, .int .i64 6, .int .i64 0, .bool false, .bool false, .int .i64 4, .int .i64 0, .bool false, .bool false, .int .i64 0, .slice none 0 0] 37)) (.cells #[.int .i64 9, .int .i64 0, .int .i64 0, .string { data := #[] }, .int .i64 0, .int .i64 0, .bool false, .bool false, .int .i64 0, .int .i64 0, .bool false, .bool false, .int .i64 54, .slice (some ⟨w8.heap.size + 1, 0, none⟩) 1 1] 37)
  have E9 := step (step (step E8.out (exO nd0 (.slice none 0 0))) (.cells #[.int .i64 6, .int .i64 0, .int .i64 0, .string { data := #[] }, .int .i64 6, .int .i64 0, .bool false, .bool false, .int .i64 4, .int .i64 0, .bool false, .bool false, .int .i64 0, .slice none 0 0] 37)) (.cells #[.int .i64 9, .int .i64 0, .int .i64 0, .string { data := #[] }, .int .i64 0, .int .i64 0, .bool false, .bool false, .int .i64 0, .int .i64 0, .bool false, .bool false, .int .i64 54, .slice (some ⟨w8.heap.size + 1, 0, none⟩) 1 1] 37)
  have TW : Hid (Tree (((w8.alloc (exO nd0 (.slice none 0 0))).alloc (.cells #[.int .i64 6, .int .i64 0, .int .i64 0, .string { data := #[] }, .int .i64 6, .int .i64 0, .bool false, .bool false, .int .i64 4, .int .i64 0, .bool false, .bool false, .int .i64 0, .slice none 0 0] 37)).alloc (.cells #[.int .i64 9, .int .i64 0, .int .i64 0, .string { data := #[] }, .int .i64 0, .int .i64 0, .bool false, .bool false, .int .i64 0, .int .i64 0, .bool false, .bool false, .int .i64 54, .slice (some ⟨w8.heap.size + 1, 0, none⟩) 1 1] 37)) (.agg #[.int .i64 9, .int .i64 0, .int .i64 0, .string { data := #[] }, .int .i64 0, .int .i64 0, .bool false, .bool false, .int .i64 0, .int .i64 0, .bool false, .bool false, .int .i64 54, .slice (some ⟨w8.heap.size + 1, 0, none⟩) 1 1]) (sumT 6 4)) := hide (sum_tree2 (w8.alloc (exO nd0 (.slice none 0 0))) (w8.heap.size + 1) (by simp) 6 4 _)
  have F9 : Hid (Below w3.heap.size w3 (((w8.alloc (exO nd0 (.slice none 0 0))).alloc (.cells #[.int .i64 6, .int .i64 0, .int .i64 0, .string { data := #[] }, .int .i64 6, .int .i64 0, .bool false, .bool false, .int .i64 4, .int .i64 0, .bool false, .bool false, .int .i64 0, .slice none 0 0] 37)).alloc (.cells #[.int .i64 9, .int .i64 0, .int .i64 0, .string { data := #[] }, .int .i64 0, .int .i64 0, .bool false, .bool false, .int .i64 0, .int .i64 0, .bool false, .bool false, .int .i64 54, .slice (some ⟨w8.heap.size + 1, 0, none⟩) 1 1] 37))) := hide (step (step (step (next (step (next (next (step (next (step (step (step (next (Below.refl _ _) J4.out) (exO lostN (.slice a4 l4 c4))) (.cells #[.int .i64 6, .int .i64 0, .int .i64 0, .string { data := #[] }, .int .i64 8, .int .i64 0, .bool false, .bool false, .int .i64 4, .int .i64 0, .bool false, .bool false, .int .i64 0, .slice none 0 0] 37)) (.cells #[.int .i64 9, .int .i64 0, .int .i64 0, .string { data := #[] }, .int .i64 0, .int .i64 0, .bool false, .bool false, .int .i64 0, .int .i64 0, .bool false, .bool false, .int .i64 54, .slice (some ⟨w4.heap.size + 1, 0, none⟩) 1 1] 37)) J5.out) (exO ndS (.slice a5 l5 c5))) J6.out) J7.out) (exO nd0 (.slice none 0 0))) J8.out) (exO nd0 (.slice none 0 0))) (.cells #[.int .i64 6, .int .i64 0, .int .i64 0, .string { data := #[] }, .int .i64 6, .int .i64 0, .bool false, .bool false, .int .i64 4, .int .i64 0, .bool false, .bool false, .int .i64 0, .slice none 0 0] 37)) (.cells #[.int .i64 9, .int .i64 0, .int .i64 0, .string { data := #[] }, .int .i64 0, .int .i64 0, .bool false, .bool false, .int .i64 0, .int .i64 0, .bool false, .bool false, .int .i64 54, .slice (some ⟨w8.heap.size + 1, 0, none⟩) 1 1] 37))
  have G9 : Hid (Below w5.heap.size w5 (((w8.alloc (exO nd0 (.slice none 0 0))).alloc (.cells #[.int .i64 6, .int .i64 0, .int .i64 0, .string { data := #[] }, .int .i64 6, .int .i64 0, .bool false, .bool false, .int .i64 4, .int .i64 0, .bool false, .bool false, .int .i64 0, .slice none 0 0] 37)).alloc (.cells #[.int .i64 9, .int .i64 0, .int .i64 0, .string { data := #[] }, .int .i64 0, .int .i64 0, .bool false, .bool false, .int .i64 0, .int .i64 0, .bool false, .bool false, .int .i64 54, .slice (some ⟨w8.heap.size + 1, 0, none⟩) 1 1] 37))) := hide (step (step (step (next (step (next (next (step (Below.refl _ _) (exO ndS (.slice a5 l5 c5))) J6.out) J7.out) (exO nd0 (.slice none 0 0))) J8.out) (exO nd0 (.slice none 0 0))) (.cells #[.int .i64 6, .int .i64 0, .int .i64 0, .string { data := #[] }, .int .i64 6, .int .i64 0, .bool false, .bool false, .int .i64 4, .int .i64 0, .bool false, .bool false, .int .i64 0, .slice none 0 0] 37)) (.cells #[.int .i64 9, .int .i64 0, .int .i64 0, .string { data := #[] }, .int .i64 0, .int .i64 0, .bool false, .bool false, .int .i64 0, .int .i64 0, .bool false, .bool false, .int .i64 54, .slice (some ⟨w8.heap.size + 1, 0, none⟩) 1 1] 37))
  have H9 : Hid (Below w6.heap.size w6 (((w8.alloc (exO nd0 (.slice none 0 0))).alloc (.cells #[.int .i64 6, .int .i64 0, .int .i64 0, .string { data := #[] }, .int .i64 6, .int .i64 0, .bool false, .bool false, .int .i64 4, .int .i64 0, .bool false, .bool false, .int .i64 0, .slice none 0 0] 37)).alloc (.cells #[.int .i64 9, .int .i64 0, .int .i64 0, .string { data := #[] }, .int .i64 0, .int .i64 0, .bool false, .bool false, .int .i64 0, .int .i64 0, .bool false, .bool false, .int .i64 54, .slice (some ⟨w8.heap.size + 1, 0, none⟩) 1 1] 37))) := hide (step (step (step (next (step (next (Below.refl _ _) J7.out) (exO nd0 (.slice none 0 0))) J8.out) (exO nd0 (.slice none 0 0))) (.cells #[.int .i64 6, .int .i64 0, .int .i64 0, .string { data := #[] }, .int .i64 6, .int .i64 0, .bool false, .bool false, .int .i64 4, .int .i64 0, .bool false, .bool false, .int .i64 0, .slice none 0 0] 37)) (.cells #[.int .i64 9, .int .i64 0, .int .i64 0, .string { data := #[] }, .int .i64 0, .int .i64 0, .bool false, .bool false, .int .i64 0, .int .i64 0, .bool false, .bool false, .int .i64 54, .slice (some ⟨w8.heap.size + 1, 0, none⟩) 1 1] 37))
  have TX := hide (T2.out.step C9)
  have TU := hide (T4.out.step D9)
  have TV := hide (T5.out.step E9)
  have PW : Hid (Blk (((w8.alloc (exO nd0 (.slice none 0 0))).alloc (.cells #[.int .i64 6, .int .i64 0, .int .i64 0, .string { data := #[] }, .int .i64 6, .int .i64 0, .bool false, .bool false, .int .i64 4, .int .i64 0, .bool false, .bool false, .int .i64 0, .slice none 0 0] 37)).alloc (.cells #[.int .i64 9, .int .i64 0, .int .i64 0, .string { data := #[] }, .int .i64 0, .int .i64 0, .bool false, .bool false, .int .i64 0, .int .i64 0, .bool false, .bool false, .int .i64 54, .slice (some ⟨w8.heap.size + 1, 0, none⟩) 1 1] 37)) (w8.heap.size + 1 + 1) (exC ndS (.slice (some ⟨w8.heap.size + 1, 0, none⟩) 1 1)) 37) := hide (Blk.new2 w8 (exO nd0 (.slice none 0 0)) (.cells #[.int .i64 6, .int .i64 0, .int .i64 0, .string { data := #[] }, .int .i64 6, .int .i64 0, .bool false, .bool false, .int .i64 4, .int .i64 0, .bool false, .bool false, .int .i64 0, .slice none 0 0] 37) #[.int .i64 9, .int .i64 0, .int .i64 0, .string { data := #[] }, .int .i64 0, .int .i64 0, .bool false, .bool false, .int .i64 0, .int .i64 0, .bool false, .bool false, .int .i64 54, .slice (some ⟨w8.heap.size + 1, 0, none⟩) 1 1] 37)
  have PX : Hid (Blk (((w8.alloc (exO nd0 (.slice none 0 0))).alloc (.cells #[.int .i64 6, .int .i64 0, .int .i64 0, .string { data := #[] }, .int .i64 6, .int .i64 0, .bool false, .bool false, .int .i64 4, .int .i64 0, .bool false, .bool false, .int .i64 0, .slice none 0 0] 37)).alloc (.cells #[.int .i64 9, .int .i64 0, .int .i64 0, .string { data := #[] }, .int .i64 0, .int .i64 0, .bool false, .bool false, .int .i64 0, .int .i64 0, .bool false, .bool false, .int .i64 54, .slice (some ⟨w8.heap.size + 1, 0, none⟩) 1 1] 37)) w2.heap.size (exC (ndR 1 2) (.slice a2 l2 c2)) 37) := hide (X3.out.keep F9.out)
  have PU : Hid (Blk (((w8.alloc (exO nd0 (.slice none 0 0))).alloc (.cells #[.int .i64 6, .int .i64 0, .int .i64 0, .string { data := #[] }, .int .i64 6, .int .i64 0, .bool false, .bool false, .int .i64 4, .int .i64 0, .bool false, .bool false, .int .i64 0, .slice none 0 0] 37)).alloc (.cells #[.int .i64 9, .int .i64 0, .int .i64 0, .string { data := #[] }, .int .i64 0, .int .i64 0, .bool false, .bool false, .int .i64 0, .int .i64 0, .bool false, .bool false, .int .i64 54, .slice (some ⟨w8.heap.size + 1, 0, none⟩) 1 1] 37)) w4.heap.size (exC lostN (.slice a4 l4 c4)) 37) := hide (Y5.out.keep G9.out)
  have PV : Hid (Blk (((w8.alloc (exO nd0 (.slice none 0 0))).alloc (.cells #[.int .i64 6, .int .i64 0, .int .i64 0, .string { data := #[] }, .int .i64 6, .int .i64 0, .bool false, .bool false, .int .i64 4, .int .i64 0, .bool false, .bool false, .int .i64 0, .slice none 0 0] 37)).alloc (.cells #[.int .i64 9, .int .i64 0, .int .i64 0, .string { data := #[] }, .int .i64 0, .int .i64 0, .bool false, .bool false, .int .i64 0, .int .i64 0, .bool false, .bool false, .int .i64 54, .slice (some ⟨w8.heap.size + 1, 0, none⟩) 1 1] 37)) w5.heap.size (exC ndS (.slice a5 l5 c5)) 37) := hide (X6.out.keep H9.out)
  clear B8 C8 D8 E8 B7 C7 D7 E7 B6 C6 D6 E6 B5 C5 D5 B4 C4 B3 C3 B2 B1 B0 X3 Y5 X6 T2 T4 T5
  go_wp2_with fail
  obtain ⟨w9, hw9⟩ : ∃ w9, (((w8.alloc (exO nd0 (.slice none 0 0))).alloc (.cells #[.int .i64 6, .int .i64 0, .int .i64 0, .string { data := #[] }, .int .i64 6, .int .i64 0, .bool false, .bool false, .int .i64 4, .int .i64 0, .bool false, .bool false, .int .i64 0, .slice none 0 0] 37)).alloc (.cells #[.int .i64 9, .int .i64 0, .int .i64 0, .string { data := #[] }, .int .i64 0, .int .i64 0, .bool false, .bool false, .int .i64 0, .int .i64 0, .bool false, .bool false, .int .i64 54, .slice (some ⟨w8.heap.size + 1, 0, none⟩) 1 1] 37)) = w9 := ⟨_, rfl⟩
  rw [hw9] at B9 TW TX TU TV PW PX PU PV ⊢
  clear hw9 C9 D9 E9 F9 G9 H9
  obtain ⟨x0, x1, x2, x3, x4, x5, x6, x7, x8, x9, x10, x11, x12, x13⟩ := PX.out.c14
  dsimp only at x0 x1 x2 x3 x4 x5 x6 x7 x8 x9 x10 x11 x12 x13
  replace x0 := cell_rg x0
  replace x1 := cell_rg x1
  replace x2 := cell_rg x2
  replace x3 := cell_rg x3
  replace x4 := cell_rg x4
  replace x5 := cell_rg x5
  replace x6 := cell_rg x6
  replace x7 := cell_rg x7
  replace x8 := cell_rg x8
  replace x9 := cell_rg x9
  replace x10 := cell_rg x10
  replace x11 := cell_rg x11
  replace x12 := cell_rg x12
  replace x13 := cell_rg x13
  obtain ⟨u0, u1, u2, u3, u4, u5, u6, u7, u8, u9, u10, u11, u12, u13⟩ := PU.out.c14
  dsimp only at u0 u1 u2 u3 u4 u5 u6 u7 u8 u9 u10 u11 u12 u13
  replace u0 := cell_rg u0
  replace u1 := cell_rg u1
  replace u2 := cell_rg u2
  replace u3 := cell_rg u3
  replace u4 := cell_rg u4
  replace u5 := cell_rg u5
  replace u6 := cell_rg u6
  replace u7 := cell_rg u7
  replace u8 := cell_rg u8
  replace u9 := cell_rg u9
  replace u10 := cell_rg u10
  replace u11 := cell_rg u11
  replace u12 := cell_rg u12
  replace u13 := cell_rg u13
  obtain ⟨v0, v1, v2, v3, v4, v5, v6, v7, v8, v9, v10, v11, v12, v13⟩ := PV.out.c14
  dsimp only at v0 v1 v2 v3 v4 v5 v6 v7 v8 v9 v10 v11 v12 v13
  replace v0 := cell_rg v0
  replace v1 := cell_rg v1
  replace v2 := cell_rg v2
  replace v3 := cell_rg v3
  replace v4 := cell_rg v4
  replace v5 := cell_rg v5
  replace v6 := cell_rg v6
  replace v7 := cell_rg v7
  replace v8 := cell_rg v8
  replace v9 := cell_rg v9
  replace v10 := cell_rg v10
  replace v11 := cell_rg v11
  replace v12 := cell_rg v12
  replace v13 := cell_rg v13
  obtain ⟨y0, y1, y2, y3, y4, y5, y6, y7, y8, y9, y10, y11, y12, y13⟩ := PW.out.c14
  dsimp only at y0 y1 y2 y3 y4 y5 y6 y7 y8 y9 y10 y11 y12 y13
  replace y0 := cell_rg y0
  replace y1 := cell_rg y1
  replace y2 := cell_rg y2
  replace y3 := cell_rg y3
  replace y4 := cell_rg y4
  replace y5 := cell_rg y5
  replace y6 := cell_rg y6
  replace y7 := cell_rg y7
  replace y8 := cell_rg y8
  replace y9 := cell_rg y9
  replace y10 := cell_rg y10
  replace y11 := cell_rg y11
  replace y12 := cell_rg y12
  replace y13 := cell_rg y13
  have K1 : Hid (∀ w', Below w9.heap.size w9 w' → Calls Try.prog 8 #[.agg #[.int .i64 5, .int .i64 0, .int .i64 0, .string { data := #[] }, .int .i64 1, .int .i64 2, .bool false, .bool false, .int .i64 0, .int .i64 0, .bool false, .bool false, .int .i64 0, .slice a2 l2 c2], exV (ndR 1 2) (.slice none 0 0)] w' fun e w'' => e = .returned (.bool true) ∧ Below w'.heap.size w' w'') := hide (fun w' h => by have := leq_any (refT 1 2) (refT 1 2) _ _ w' (TX.out.step h) (leaf_tree w' (ndR 1 2) (Nat.zero_le _)); rw [same_selfE] at this; exact this)
  have K2 : Hid (∀ w', Below w9.heap.size w9 w' → Calls Try.prog 8 #[.agg #[.int .i64 4, .int .i64 0, .int .i64 3, .string { data := #[] }, .int .i64 0, .int .i64 0, .bool false, .bool false, .int .i64 0, .int .i64 0, .bool false, .bool false, .int .i64 0, .slice a4 l4 c4], .agg #[.int .i64 4, .int .i64 0, .int .i64 3, .string { data := #[] }, .int .i64 0, .int .i64 0, .bool false, .bool false, .int .i64 0, .int .i64 0, .bool false, .bool false, .int .i64 0, .slice none 0 0]] w' fun e w'' => e = .returned (.bool true) ∧ Below w'.heap.size w' w'') := hide (fun w' h => by have := leq_any (.mk lostN []) (.mk lostN []) _ _ w' (TU.out.step h) (leaf_tree w' lostN (Nat.zero_le _)); rw [same_selfE] at this; exact this)
  have K3 : Hid (∀ w', Below w9.heap.size w9 w' → Calls Try.prog 8 #[.agg #[.int .i64 9, .int .i64 0, .int .i64 0, .string { data := #[] }, .int .i64 0, .int .i64 0, .bool false, .bool false, .int .i64 0, .int .i64 0, .bool false, .bool false, .int .i64 54, .slice a5 l5 c5], .agg #[.int .i64 9, .int .i64 0, .int .i64 0, .string { data := #[] }, .int .i64 0, .int .i64 0, .bool false, .bool false, .int .i64 0, .int .i64 0, .bool false, .bool false, .int .i64 54, .slice (some ⟨w8.heap.size + 1, 0, none⟩) 1 1]] w' fun e w'' => e = .returned (.bool true) ∧ Below w'.heap.size w' w'') := hide (fun w' h => by have := leq_any (sumT 6 4) (sumT 6 4) _ _ w' (TV.out.step h) (TW.out.step h); rw [same_selfE] at this; exact this)
  have k0 := fun d' os => Calls.regrown_of ((ref_any 1 2).out (grow (redrawn w9 d') os))
  have k1 := fun d' os => Calls.regrown_of (K1.out (grow (redrawn w9 d') os) (below_regrown w9 d' os))
  have k2 := fun d' os => Calls.regrown_of (K2.out (grow (redrawn w9 d') os) (below_regrown w9 d' os))
  have k3 := fun d' os => Calls.regrown_of (K3.out (grow (redrawn w9 d') os) (below_regrown w9 d' os))
  clear PW PX PU PV TW TX TU TV K1 K2 K3
  refine wp_region_quiet_below (by kernel_rfl) (by kernel_rfl) ?_
  repeat (go_big_quiet_step (first | (with_reducible exact k0 _ _) | (with_reducible exact k1 _ _) | (with_reducible exact k2 _ _) | (with_reducible exact k3 _ _)))
  refine wpQuiet_nil ?_
  intro _ hw'
  obtain ⟨⟨dq1, osq1⟩, hw''⟩ := hw'
  subst hw''
  go_wp2_with fail
  go_ret
  exact ⟨rfl, next B9.out (below_regrown _ dq1 osq1)⟩
end Go.Proofs.Ytiajoppbgebnpaa
namespace Go.Proofs.Ytiajoppbgebnpaa
open Go.RowKit Go.Sort
set_option linter.unusedVariables false

mutual
/-- What is left of n behind a tree's nodes. -/
def ndsE : Ex → Int → Int | .mk nd ks, n => ndsL ks (n - 1 - (nd.text.size : Int) / 1024)
def ndsL : List Ex → Int → Int | [], n => n | k :: r, n => if 0 ≤ n then ndsL r (ndsE k n) else n
end
theorem ndsL_at (ks : List Ex) (i : Nat) (hi : i < ks.length) (n : Int) : ndsL (ks.drop i) n = if 0 ≤ n then ndsL (ks.drop (i + 1)) (ndsE ks[i] n) else n := by
  rw [List.drop_eq_getElem_cons hi, ndsL]
theorem tdiv_pos (x : Nat) : 0 ≤ (x : Int) / 1024 ∧ (x : Int) / 1024 ≤ x := by
  omega
mutual
theorem nds_le : ∀ (t : Ex) (n : Int), ndsE t n ≤ n ∧ (0 ≤ ndsE t n → (nodesE t : Int) ≤ n - ndsE t n)
  | .mk nd ks, n => by
    have h := nds_leL ks (n - 1 - (nd.text.size : Int) / 1024)
    have := (tdiv_pos nd.text.size).1
    rw [ndsE, nodesE]
    refine ⟨by omega, fun h0 => ?_⟩
    have := h.2 h0
    omega
theorem nds_leL : ∀ (ks : List Ex) (n : Int), ndsL ks n ≤ n ∧ (0 ≤ ndsL ks n → (nodesL ks : Int) ≤ n - ndsL ks n)
  | [], n => by rw [ndsL, nodesL]; exact ⟨Int.le_refl _, fun _ => by omega⟩
  | k :: r, n => by
    rw [ndsL, nodesL]
    by_cases h : 0 ≤ n
    · rw [if_pos h]
      have h1 := nds_le k n
      have h2 := nds_leL r (ndsE k n)
      refine ⟨by omega, fun h0 => ?_⟩
      have := h2.2 h0
      have := h1.2 (by omega)
      omega
    · rw [if_neg h]; exact ⟨Int.le_refl _, fun h0 => absurd h0 h⟩
end
mutual
theorem nds_ge : ∀ (t : Ex) (n : Int), SmE t → 0 ≤ n → -4611686018427387905 ≤ ndsE t n
  | .mk nd ks, n, hs, h => by
    unfold SmE at hs
    rw [ndsE]
    have := (tdiv_pos nd.text.size).2
    have h1 := hs.1
    exact nds_geL ks _ hs.2.2 (by omega)
theorem nds_geL : ∀ (ks : List Ex) (n : Int), SmL ks → -4611686018427387905 ≤ n → -4611686018427387905 ≤ ndsL ks n
  | [], n, hs, h => by rw [ndsL]; exact h
  | k :: r, n, hs, h => by
    unfold SmL at hs
    rw [ndsL]
    by_cases q : 0 ≤ n
    · rw [if_pos q]; exact nds_geL r _ hs.2 (nds_ge k n hs.1 q)
    · rw [if_neg q]; exact h
end
abbrev NodesIs (t : Ex) : Prop := ∀ (v : Value) (w : World) (n : Int), Tree w v t → 0 ≤ n → n ≤ 2000 → Calls Try.prog 18 #[v, .int .i64 n] w fun e w' => e = .returned (.int .i64 (ndsE t n)) ∧ Below w.heap.size w w'
set_option maxHeartbeats 2000000 in
set_option maxRecDepth 100000 in
theorem nodes_any : ∀ t, NodesIs t := by
  refine Ex.ind fun nd ks ih => ?_
  intro v w n ht h0 h1
  have hsm := In.sm _ ht
  obtain ⟨a, len, cap, rfl, _, _, htx, _⟩ := ht.un
  have hK := ht.kidsAt
  have hlen := hide hK.lq
  have hsml := hide hK.small
  have c13 := (at14 nd (.slice a len cap)).c13
  have c3 := (at14 nd (.slice a len cap)).c3
  have P0 := hide (Blk.new w (exC nd (.slice a len cap)) 37)
  have B0 := hide (step (Below.refl w.heap.size w) (exO nd (.slice a len cap)))
  have q3 := (P0.out.at' 3).trans c3
  have q13 := (P0.out.at' 13).trans c13
  have td := tdiv_pos nd.text.size
  have htx' := htx.out
  have hN : Hid (ndsE (.mk nd ks) n = ndsL (ks.drop 0) (n - 1 - (nd.text.size : Int) / 1024)) := hide (by rw [ndsE, List.drop_zero])
  have hsL : Hid (SmL ks) := hide (by unfold SmE at hsm; exact hsm.2.2)
  have w1 := IntWalk.wrap64_in (n - 1) ⟨by omega, by omega⟩
  have w0 := IntWalk.wrap64_in ((nd.text.size : Int) / 1024) ⟨by omega, by omega⟩
  have w2 := IntWalk.wrap64_in (n - 1 - (nd.text.size : Int) / 1024) ⟨by omega, by omega⟩
  have bdn : Hid (-4611686018427387905 ≤ n - 1 - (nd.text.size : Int) / 1024 ∧ n - 1 - (nd.text.size : Int) / 1024 ≤ 2000) := hide (by omega)
  replace ih := hide ih
  replace hK := hide hK
  clear ht hsm htx htx'
  go_enter Try.func18, Try.ntmps18
  go_wp2_with fail
  generalize hM : n - 1 - (nd.text.size : Int) / 1024 = M at *
  clear w0 w1 td hM q3 q13
  go_loopw [1, 5] (fun m i wr => ∃ (k : Nat) (x : Int), k ≤ len ∧ m = .int .i64 x ∧ i = .int .i64 k ∧ Hid (ndsE (.mk nd ks) n = ndsL (ks.drop k) x) ∧ Hid (-4611686018427387905 ≤ x ∧ x ≤ 2000) ∧ Hid (Below (w.alloc (exO nd (.slice a len cap))).heap.size (w.alloc (exO nd (.slice a len cap))) wr)) (fun _ i _ => len - (intOf i).toNat)
  case atStart => exact ⟨0, M, Nat.zero_le _, by rw [w2], rfl, hN, bdn, Below.refl _ _⟩
  case round =>
    obtain ⟨k, x, hkl, rfl, rfl, HL, HX, HB⟩ := hrel
    clear w2
    have z13 := ((P0.out.keep HB.out).at' 13).trans c13
    by_cases hlt : k < len
    · have p0 : (k : Int) < (len : Int) := by omega
      have hk2 : k < ks.length := by have := hlen.out; omega
      have hat := ndsL_at ks k hk2 x
      by_cases hx : 0 ≤ x
      · obtain ⟨b0, o0, rfl, hk1, aa, ll, cc, tk, rk⟩ := hK.out.get hlt
        have bw := hide (next B0.out HB.out)
        have R1 := hide (range_of_block rk (bw.out.block b0 (World.block_lt_of_cell? w ⟨b0, _, none⟩ (rk 0 _ rfl))))
        have hx2 := HX.out.2
        have IH := hide (ih.out _ (List.getElem_mem hk1) _ wr x (tk.step bw.out) hx hx2)
        have hbl := hide (nds_le ks[k] x).1
        have hbg := hide (nds_ge ks[k] x (hsL.out.get _ (List.getElem_mem hk1)) hx)
        rw [if_pos hx] at hat
        have hat' := hide (HL.out.trans hat)
        have wk := IntWalk.wrap64_in ((k : Int) + 1) ⟨by omega, by have := hsml.out; omega⟩
        generalize ks[k] = tk' at *
        clear tk rk hat
        go_wp2_with (first
          | (refine wpList_load_at rfl 37 _ rfl _ _ rfl _ _ (by with_reducible exact R1.out) Try.underlying37 rfl (exC_info _ _) ?_)
          | (go_at_call 18; refine IH.out.mono ?_; rintro e w4 ⟨rfl, hb4⟩; have b4 := hide (next HB.out hb4); clear hb4))
        refine ⟨⟨k + 1, _, hlt, rfl, by rw [wk]; rfl, hat', hide ⟨hbg.out, by have := hbl.out; omega⟩, b4⟩, ?_⟩
        rw [wk]
        exact meas_lt hlt
      · rw [if_neg hx] at hat
        have hat' := hide (HL.out.trans hat)
        clear hat
        go_wp2_with fail
        go_ret
        exact ⟨by rw [hat'.out]; rfl, next B0.out HB.out⟩
    · obtain rfl : k = len := by omega
      have hh := HL.out
      rw [List.drop_eq_nil_of_le (by have := hlen.out; omega), ndsL] at hh
      replace hh := hide hh
      go_wp2_with fail
      go_ret
      exact ⟨by rw [hh.out]; rfl, next B0.out HB.out⟩
theorem small_any (t : Ex) (v : Value) (w : World) (ht : Tree w v t) : Calls Try.prog 5 #[v] w fun e w' => e = .returned (.bool (decide (0 ≤ ndsE t 2000))) ∧ Below w.heap.size w w' := by
  obtain ⟨a, len, cap, rfl, -, -, -, -⟩ := ht.open
  have P0 := hide (Blk.new w (exC t.nd (.slice a len cap)) 37)
  have B0 := hide (step (Below.refl w.heap.size w) (exO t.nd (.slice a len cap)))
  have HN := hide (nodes_any t _ _ 2000 (ht.step B0.out) (by omega) (by omega))
  clear ht
  go_enter Try.func5, Try.ntmps5
  go_wp2_with (first
    | (refine wpList_load_blk rfl 37 _ rfl _ rfl _ (by with_reducible exact P0.out) _ Try.underlying37 rfl (exC_info _ _) ?_)
    | (go_at_call 18; refine HN.out.mono ?_; rintro e w1 ⟨rfl, hb⟩; have b1 := hide (next B0.out hb); clear hb))
  go_ret
  exact ⟨rfl, b1.out⟩
mutual
theorem refs_nodes : ∀ t : Ex, refsE t ≤ nodesE t
  | .mk nd ks => by
    rw [refsE, nodesE]
    have := refs_nodesL ks
    split <;> omega
theorem refs_nodesL : ∀ ks : List Ex, refsL ks ≤ nodesL ks
  | [] => by rw [refsL, nodesL]; exact Nat.le_refl _
  | k :: r => by rw [refsL, nodesL]; have := refs_nodes k; have := refs_nodesL r; omega
end
theorem refsL_take (ks : List Ex) (k : Nat) (hk : k < ks.length) : refsL (ks.take (k + 1)) = refsL (ks.take k) + refsE ks[k] := by
  rw [List.take_succ_eq_append_getElem hk]
  generalize ks.take k = l
  induction l with
  | nil => rw [List.nil_append, refsL, refsL, refsL]; omega
  | cons x r ih => rw [List.cons_append, refsL, refsL, ih]; omega
theorem nodesL_take (ks : List Ex) (k : Nat) : nodesL (ks.take k) ≤ nodesL ks := by
  induction ks generalizing k with
  | nil => simp
  | cons x r ih => cases k with
    | zero => rw [List.take_zero, nodesL]; omega
    | succ k => rw [List.take_succ_cons, nodesL, nodesL]; have := ih k; omega
end Go.Proofs.Ytiajoppbgebnpaa
