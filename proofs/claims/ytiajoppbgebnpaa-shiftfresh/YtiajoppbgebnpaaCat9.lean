/- The catalogue's rows: what list.catalogue answers. -/
import Derived.Test.YtiajoppbgebnpaaKit9b
import Derived.Great.Walk
import Derived.StillTailTactics
namespace Go.Proofs.Ytiajoppbgebnpaa
open Go.RowKit Go.Sort
set_option linter.unusedVariables false

/-- Name, least and most of each function. -/
def tab : List (ByteArray × Int × Int) := [(⟨#[65, 66, 83]⟩, 1, 1), (⟨#[83, 73, 71, 78]⟩, 1, 1), (⟨#[77, 79, 68]⟩, 2, 2), (⟨#[81, 85, 79, 84, 73, 69, 78, 84]⟩, 2, 2), (⟨#[80, 79, 87, 69, 82]⟩, 2, 2), (⟨#[71, 67, 68]⟩, 2, 2), (⟨#[76, 67, 77]⟩, 2, 2), (⟨#[70, 65, 67, 84]⟩, 1, 1), (⟨#[73, 83, 69, 86, 69, 78]⟩, 1, 1), (⟨#[73, 83, 79, 68, 68]⟩, 1, 1), (⟨#[66, 73, 84, 65, 78, 68]⟩, 2, 2), (⟨#[66, 73, 84, 79, 82]⟩, 2, 2), (⟨#[66, 73, 84, 88, 79, 82]⟩, 2, 2), (⟨#[78, 79, 84]⟩, 1, 1), (⟨#[67, 76, 65, 77, 80]⟩, 3, 3), (⟨#[76, 69, 78]⟩, 1, 1), (⟨#[76, 69, 70, 84]⟩, 1, 2), (⟨#[82, 73, 71, 72, 84]⟩, 1, 2), (⟨#[77, 73, 68]⟩, 3, 3), (⟨#[85, 80, 80, 69, 82]⟩, 1, 1), (⟨#[76, 79, 87, 69, 82]⟩, 1, 1), (⟨#[84, 82, 73, 77]⟩, 1, 1), (⟨#[82, 69, 86, 69, 82, 83, 69]⟩, 1, 1), (⟨#[70, 73, 78, 68]⟩, 2, 3), (⟨#[83, 85, 66, 83, 84, 73, 84, 85, 84, 69]⟩, 3, 3), (⟨#[82, 69, 80, 76, 65, 67, 69]⟩, 4, 4), (⟨#[82, 69, 80, 84]⟩, 2, 2), (⟨#[69, 88, 65, 67, 84]⟩, 2, 2), (⟨#[67, 79, 68, 69]⟩, 1, 1), (⟨#[67, 72, 65, 82]⟩, 1, 1), (⟨#[86, 65, 76, 85, 69]⟩, 1, 1), (⟨#[84, 69, 88, 84]⟩, 1, 1), (⟨#[78]⟩, 1, 1), (⟨#[84]⟩, 1, 1), (⟨#[78, 65]⟩, 0, 0), (⟨#[73, 83, 66, 76, 65, 78, 75]⟩, 1, 1), (⟨#[73, 83, 78, 85, 77, 66, 69, 82]⟩, 1, 1), (⟨#[73, 83, 84, 69, 88, 84]⟩, 1, 1), (⟨#[73, 83, 76, 79, 71, 73, 67, 65, 76]⟩, 1, 1), (⟨#[73, 83, 69, 82, 82, 79, 82]⟩, 1, 1), (⟨#[73, 83, 78, 65]⟩, 1, 1), (⟨#[73, 70]⟩, 2, 3), (⟨#[73, 70, 69, 82, 82, 79, 82]⟩, 2, 2), (⟨#[73, 70, 78, 65]⟩, 2, 2), (⟨#[67, 72, 79, 79, 83, 69]⟩, 2, -1), (⟨#[83, 87, 73, 84, 67, 72]⟩, 3, -1), (⟨#[82, 79, 87]⟩, 0, 1), (⟨#[67, 79, 76, 85, 77, 78]⟩, 0, 1), (⟨#[82, 79, 87, 83]⟩, 1, 1), (⟨#[67, 79, 76, 85, 77, 78, 83]⟩, 1, 1), (⟨#[73, 78, 68, 73, 82, 69, 67, 84]⟩, 1, 1), (⟨#[79, 70, 70, 83, 69, 84]⟩, 3, 5), (⟨#[73, 78, 68, 69, 88]⟩, 2, 3), (⟨#[83, 85, 77]⟩, 1, -1), (⟨#[80, 82, 79, 68, 85, 67, 84]⟩, 1, -1), (⟨#[67, 79, 85, 78, 84]⟩, 1, -1), (⟨#[67, 79, 85, 78, 84, 65]⟩, 1, -1), (⟨#[67, 79, 85, 78, 84, 66, 76, 65, 78, 75]⟩, 1, -1), (⟨#[77, 73, 78]⟩, 1, -1), (⟨#[77, 65, 88]⟩, 1, -1), (⟨#[65, 86, 69, 82, 65, 71, 69]⟩, 1, -1), (⟨#[77, 69, 68, 73, 65, 78]⟩, 1, -1), (⟨#[76, 65, 82, 71, 69]⟩, 2, 2), (⟨#[83, 77, 65, 76, 76]⟩, 2, 2), (⟨#[65, 78, 68]⟩, 1, -1), (⟨#[79, 82]⟩, 1, -1), (⟨#[88, 79, 82]⟩, 1, -1), (⟨#[67, 79, 78, 67, 65, 84]⟩, 1, -1), (⟨#[74, 79, 73, 78]⟩, 2, -1), (⟨#[77, 65, 84, 67, 72]⟩, 2, 2), (⟨#[86, 76, 79, 79, 75, 85, 80]⟩, 3, 3), (⟨#[72, 76, 79, 79, 75, 85, 80]⟩, 3, 3), (⟨#[83, 85, 77, 73, 70]⟩, 2, 3), (⟨#[67, 79, 85, 78, 84, 73, 70]⟩, 2, 2), (⟨#[83, 85, 77, 80, 82, 79, 68, 85, 67, 84]⟩, 2, 2), (⟨#[70, 73, 82, 83, 84]⟩, 1, -1)]
def catL : List Value := tab.flatMap fun r => [.string r.1, .int .i64 r.2.1, .int .i64 r.2.2]
def catC : Array Value := catL.toArray
theorem catC_size : catC.size = 228 := by decide +kernel
theorem tab_len : tab.length = 76 := rfl
theorem cat_info : (Try.prog.info? 91).map (·.size) = some catC.size := by rw [catC_size]; kernel_rfl
theorem cat_one : catC.all (·.oneCell') = true := by decide +kernel
def zeroC : Array Value := (List.flatten (List.replicate 76 [Value.string ⟨#[]⟩, .int .i64 0, .int .i64 0])).toArray
theorem zero_info : (Try.prog.info? 91).map (fun i => (i.zero, i.size)) = some (some (.agg zeroC), 228) := by kernel_rfl
theorem flat3 : ∀ (l : List (ByteArray × Int × Int)) (k : Nat) (hk : k < l.length), ((l.flatMap fun r => [Value.string r.1, .int .i64 r.2.1, .int .i64 r.2.2]).drop (k * 3)).take 3 = [.string l[k].1, .int .i64 l[k].2.1, .int .i64 l[k].2.2]
  | [], k, hk => absurd hk (Nat.not_lt_zero k)
  | r :: l, 0, hk => by simp
  | r :: l, k + 1, hk => by
    have ih := flat3 l k (by simpa using hk)
    rw [List.flatMap_cons, show (k + 1) * 3 = 3 + k * 3 by omega, ← List.drop_drop]
    simpa using ih
set_option maxRecDepth 100000 in
set_option maxHeartbeats 4000000 in
theorem catalogue_any (w : World) : Calls Try.prog 71 #[] w fun e w' => e = .returned (.agg catC) ∧ Below w.heap.size w w' := by
  have hz := (zero_of_info zero_info).1
  go_enter Try.func71, Try.ntmps71
  simp only [List.append]
  go_wp2_with (first
    | (refine wpList_build rfl 91 _ rfl (by kernel_rfl) ?_)
    | (refine wpList_store_new rfl 91 _ _ rfl _ catC _ rfl rfl (by kernel_rfl) cat_info (by rw [catC_size]; decide +kernel) cat_one ?_))
  refine bodyPost_ret (v := .agg catC) (results_cell_row Try.results71 _ _ w.heap.size 91 catC (0, 0) _ rfl (heap_alloc_new w _) Try.underlying91 rfl cat_info) rfl ?_
  exact ⟨rfl, step (Below.refl _ w) _⟩
end Go.Proofs.Ytiajoppbgebnpaa
