/- calc.rows: what the functions do, by their numbers. Proved of the Go text. -/
import Derived.Test.YtgnmkhjilecdhaaGreatDoorL14J
import Derived.Test.YtgnmkhjilecdhaaGreatDoorK9J
import Derived.Great.Walk
import Derived.StillTailTactics
import Derived.Deep.WholeRow
import Derived.Deep.MidRow
namespace Go.Proofs.YtgnmkhjilecdhaaGreatDoor
open Go.RowKit Go.Sort
set_option linter.unusedVariables false

/-- How a function asks for its arguments, and the function that does it. -/
def rtab : List (ByteArray × Nat) := [(⟨#[110]⟩, 32), (⟨#[110]⟩, 33), (⟨#[110, 110]⟩, 35), (⟨#[110, 110]⟩, 37), (⟨#[110, 110]⟩, 38), (⟨#[110, 110]⟩, 40), (⟨#[110, 110]⟩, 42), (⟨#[110]⟩, 44), (⟨#[110]⟩, 45), (⟨#[110]⟩, 46), (⟨#[110, 110]⟩, 47), (⟨#[110, 110]⟩, 49), (⟨#[110, 110]⟩, 50), (⟨#[98]⟩, 51), (⟨#[110, 110, 110]⟩, 52), (⟨#[116]⟩, 53), (⟨#[116, 110]⟩, 55), (⟨#[116, 110]⟩, 58), (⟨#[116, 110, 110]⟩, 60), (⟨#[116]⟩, 62), (⟨#[116]⟩, 65), (⟨#[116]⟩, 67), (⟨#[116]⟩, 69), (⟨#[116, 116, 110]⟩, 71), (⟨#[116, 116, 116]⟩, 72), (⟨#[116, 110, 110, 116]⟩, 74), (⟨#[116, 110]⟩, 75), (⟨#[116, 116]⟩, 77), (⟨#[116]⟩, 78), (⟨#[110]⟩, 81), (⟨#[110]⟩, 83), (⟨#[116]⟩, 84), (⟨#[118]⟩, 85), (⟨#[118]⟩, 86), (⟨#[]⟩, 87), (⟨#[]⟩, 88), (⟨#[]⟩, 89), (⟨#[]⟩, 90), (⟨#[]⟩, 91), (⟨#[]⟩, 92), (⟨#[]⟩, 93)]
def rcatL : List Value := ((no, 0) :: rtab).flatMap fun r => [.string r.1, if r.2 = 0 then .nilFunc else .func (.func r.2) #[] #[]]
def rcatC : Array Value := rcatL.toArray
theorem rcatC_size : rcatC.size = 84 := by decide +kernel
theorem rtab_len : rtab.length = 41 := rfl
theorem rcat_info : (Tryz.prog.info? 48).map (·.size) = some rcatC.size := by rw [rcatC_size]; kernel_rfl
theorem rcat_one : rcatC.all (·.oneCell') = true := by decide +kernel
def rzeroC : Array Value := (List.flatten (List.replicate 42 [Value.string ⟨#[]⟩, .nilFunc])).toArray
theorem rzero_info : (Tryz.prog.info? 48).map (fun i => (i.zero, i.size)) = some (some (.agg rzeroC), 84) := by kernel_rfl
theorem flat2 : ∀ (l : List (ByteArray × Nat)) (k : Nat) (hk : k < l.length), ((l.flatMap fun r => [Value.string r.1, if r.2 = 0 then .nilFunc else .func (.func r.2) #[] #[]]).drop (k * 2)).take 2 = [.string l[k].1, if l[k].2 = 0 then .nilFunc else .func (.func l[k].2) #[] #[]]
  | [], k, hk => absurd hk (Nat.not_lt_zero k)
  | r :: l, 0, hk => by simp
  | r :: l, k + 1, hk => by
    have ih := flat2 l k (by simpa using hk)
    rw [List.flatMap_cons, show (k + 1) * 2 = 2 + k * 2 by omega, ← List.drop_drop]
    simpa using ih
set_option maxRecDepth 100000 in
set_option maxHeartbeats 4000000 in
theorem rows_any (w : World) : Calls Tryz.prog 16 #[] w fun e w' => e = .returned (.agg rcatC) ∧ Below w.heap.size w w' := by
  have hz := (zero_of_info rzero_info).1
  go_enter Tryz.func16, Tryz.ntmps16
  try simp only [List.append]
  go_wp2_with (first
    | (refine wpList_build rfl 48 _ rfl (by kernel_rfl) ?_)
    | (refine T9.wpList_store_new rfl 48 _ _ rfl _ rcatC _ rfl rfl (by kernel_rfl) rcat_info (by rw [rcatC_size]; decide +kernel) rcat_one ?_))
  refine bodyPost_ret (v := .agg rcatC) (results_cell_row Tryz.results16 _ _ w.heap.size 48 rcatC (0, 0) _ rfl (heap_alloc_new w _) Tryz.underlying48 rfl rcat_info) rfl ?_
  exact ⟨rfl, step (Below.refl _ w) _⟩
theorem index42 (k : Nat) (hk : k < 41) (asks : ByteArray) (fn : Nat) (hr : rtab[k]? = some (asks, fn)) (hf : fn ≠ 0) (w : World) : (Instr.index 48 (.agg rcatC) (.int .i64 ((k : Int) + 1))).run Tryz.prog w = .ok (.agg #[.string asks, .func (.func fn) #[] #[]]) w := by
  have hk' : k + 1 < ((no, 0) :: rtab).length := by rw [List.length_cons, rtab_len]; omega
  have h0 : 0 ≤ (k : Int) + 1 ∧ (k : Int) + 1 < 42 := by omega
  have hf2 := flat2 ((no, 0) :: rtab) (k + 1) hk'
  have hg : ((no, 0) :: rtab)[k + 1] = (asks, fn) := by
    have h1 : ((no, 0) :: rtab)[k + 1]? = some (asks, fn) := by rw [List.getElem?_cons_succ]; exact hr
    exact (List.getElem?_eq_some_iff.1 h1).2
  rw [hg] at hf2
  simp only [if_neg hf] at hf2
  have he : rcatC.extract ((k + 1) * 2) ((k + 1) * 2 + 2) = #[.string asks, .func (.func fn) #[] #[]] := by
    apply Array.ext'
    rw [Array.toList_extract, show rcatC.toList = rcatL by unfold rcatC; simp]
    rw [← hf2]
    simp [List.extract, rcatL]
  have hn : ((k : Int) + 1).toNat = k + 1 := by omega
  simp [Instr.index, run_underlying Tryz.underlying48, asIntOf, h0, go_sem, hn]
  exact he
end Go.Proofs.YtgnmkhjilecdhaaGreatDoor
