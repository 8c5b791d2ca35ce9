/- quadrilleref13.rows and Info, quadrilleref9.place, quadrilleref3.Of: what they answer; the document's table of functions is the catalogue's. -/
import Derived.Test.YtiajoppbgebnpaaList9
import Derived.Test.YtiajoppbgebnpaaTold9
import Derived.Test.YtiajoppbgebnpaaApp9
namespace Go.Proofs.Ytiajoppbgebnpaa
open Go.RowKit Go.Sort
set_option linter.unusedVariables false

theorem place_any (r c : Int) (p q : Bool) (w : World) : Calls Try.prog 65 #[.agg #[.int .i64 r, .int .i64 c, .bool p, .bool q]] w fun e w' => e = .returned (.bool (mayB r c)) ∧ Below w.heap.size w w' := by
  go_enter Try.func65, Try.ntmps65
  go_wp2_with fail
  all_goals go_ret
  all_goals refine ⟨ret_bool ?_, by go_grown⟩
  all_goals (unfold mayB; rw [Bool.eq_iff_iff]; simp; try omega)
def cls76 : List Int := List.replicate 35 1 ++ List.replicate 6 2 ++ List.replicate 5 3 ++ List.replicate 4 4 ++ List.replicate 3 5 ++ List.replicate 23 6
/-- The document's rows, out of the catalogue's. -/
def fnRows : List (ByteArray × Int × Int × Int) := (tab.zip cls76).map fun r => (r.1.1, r.2, r.1.2.1, r.1.2.2)
def fnL : List Value := fnRows.flatMap fun r => [.string r.1, .int .i64 r.2.1, .int .i64 r.2.2.1, .int .i64 r.2.2.2]
def fnC : Array Value := fnL.toArray
theorem fnRows_len : fnRows.length = 76 := by decide +kernel
theorem flat4 : ∀ (l : List (ByteArray × Int × Int × Int)) (k : Nat) (hk : k < l.length) (j : Nat), j < 4 → (l.flatMap fun r => [Value.string r.1, .int .i64 r.2.1, .int .i64 r.2.2.1, .int .i64 r.2.2.2])[k * 4 + j]? = [Value.string l[k].1, .int .i64 l[k].2.1, .int .i64 l[k].2.2.1, .int .i64 l[k].2.2.2][j]?
  | [], k, hk, j, hj => absurd hk (Nat.not_lt_zero k)
  | r :: l, 0, hk, j, hj => by
    rw [List.flatMap_cons, List.getElem?_append_left (by simp; omega), Nat.zero_mul, Nat.zero_add]; rfl
  | r :: l, k + 1, hk, j, hj => by
    rw [List.flatMap_cons, List.getElem?_append_right (by simp; omega), show (k + 1) * 4 + j - _ = k * 4 + j by simp; omega]
    exact flat4 l k (by simpa using hk) j hj
theorem row_tab (k : Nat) (hk : k < 76) : (fnRows[k]'(by rw [fnRows_len]; exact hk)).2.2 = (tab[k]'(by rw [tab_len]; exact hk)).2 := by
  unfold fnRows
  simp
set_option maxRecDepth 100000 in
set_option maxHeartbeats 4000000 in
theorem rtabs_any (w : World) : Calls Try.prog 73 #[] w fun e w' => e = .returned (.slice (some ⟨w.heap.size, 0, none⟩) 76 76) ∧ w' = w.alloc (.cells fnC 83) := by
  go_enter Try.func73, Try.ntmps73
  simp only [List.append]
  go_wp2_with (first
    | (refine Go.Great.wpList_buildSliceTo rfl 93 83 76 _ rfl w.heap.size rfl _ rfl Try.underlying93 fnC (by kernel_rfl) ?_))
  go_ret
  exact ⟨rfl, rfl⟩
theorem row_cells {w : World} {B : Nat} (h : Blk w B fnC 83) (k : Nat) (hk : k < 76) : ∀ j, j < 4 → w.cell? ⟨B, k * 4 + j, none⟩ = [Value.string (fnRows[k]'(by rw [fnRows_len]; exact hk)).1, .int .i64 (fnRows[k]'(by rw [fnRows_len]; exact hk)).2.1, .int .i64 (fnRows[k]'(by rw [fnRows_len]; exact hk)).2.2.1, .int .i64 (fnRows[k]'(by rw [fnRows_len]; exact hk)).2.2.2][j]? := fun j hj => by
  rw [h.at']
  unfold fnC fnL
  rw [List.getElem?_toArray]
  exact flat4 fnRows k (by rw [fnRows_len]; exact hk) j hj
set_option maxHeartbeats 1000000 in
set_option maxRecDepth 100000 in
theorem rinfo_no (f : Int) (h : ¬ (1 ≤ f ∧ f ≤ 76)) (w : World) : Calls Try.prog 66 #[.int .i64 f] w fun e w' => e = .returned (.tuple #[fnV no 0 0 0, .int .i64 1]) ∧ Below w.heap.size w w' := by
  have HR := hide (rtabs_any)
  by_cases h1 : f < 1
  all_goals
    go_enter Try.func66, Try.ntmps66
    go_wp2_with (go_at_call 73; refine (HR.out _).mono ?_; rintro e w1 ⟨rfl, rfl⟩)
    refine bodyPost_ret (v := .tuple #[fnV no 0 0 0, .int .i64 1]) (by simp [results, Try.results66, go_sem]; try rfl) rfl ?_
    exact ⟨rfl, by go_grown⟩
set_option maxHeartbeats 1000000 in
set_option maxRecDepth 100000 in
theorem rinfo_yes (k : Nat) (hk : k < 76) (w : World) : Calls Try.prog 66 #[.int .i64 ((k : Int) + 1)] w fun e w' => (∃ n c, e = .returned (.tuple #[fnV n c (tab[k]'(by rw [tab_len]; exact hk)).2.1 (tab[k]'(by rw [tab_len]; exact hk)).2.2, .int .i64 0])) ∧ Below w.heap.size w w' := by
  have HR := hide (rtabs_any)
  have HC := fun (w : World) (B : Nat) (h : Blk w B fnC 83) => row_cells h k hk
  rw [← row_tab k hk]
  generalize fnRows[k] = r at *
  obtain ⟨n, c, mn, mx⟩ := r
  have p1 : ¬ ((k : Int) + 1 < 1) := by omega
  have p2 : ¬ (76 < (k : Int) + 1) := by omega
  have p3 : (k : Int) + 1 - 1 = k := by omega
  have p4 := IntWalk.wrap64_in ((k : Int)) ⟨by omega, by omega⟩
  have p5 : (k : Int) < 76 := by omega
  replace HC := hide HC
  go_enter Try.func66, Try.ntmps66
  go_wp2_with (go_at_call 73; refine (HR.out _).mono ?_; rintro e w1 ⟨rfl, rfl⟩; have Z := HC.out _ _ (Blk.new1 w (.cells #[.string no, .int .i64 0, .int .i64 0, .int .i64 0] 83) fnC 83); have z0 := Z 0 (by omega); have z1 := Z 1 (by omega); have z2 := Z 2 (by omega); have z3 := Z 3 (by omega); simp at z0 z1 z2 z3; clear Z)
  refine bodyPost_ret (v := .tuple #[fnV n c mn mx, .int .i64 0]) (by simp [results, Try.results66, go_sem]; try rfl) rfl ?_
  exact ⟨⟨n, c, rfl⟩, by go_grown⟩
end Go.Proofs.Ytiajoppbgebnpaa
