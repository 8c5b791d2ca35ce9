/- list.classOf, list.Info and tree.takes: what they answer of every number. -/
import Derived.Test.YtiajoppbgebnpaaCat9
namespace Go.Proofs.Ytiajoppbgebnpaa
open Go.RowKit Go.Sort
set_option linter.unusedVariables false

theorem still_tail {P : Program} {id : Nat} {Q : Exit → Act → World → Prop} {a : Act} {w : World} {l : List Oper} (n : Nat) (hm : P.follows .mixedOrders = true) (hB : Region.lexTailB .any l.toArray n = true)
    (h : wpStill P l.toArray w.drew (fun a' => wpList P l.toArray Q (l.drop n) a' w.drew) (l.take n) a) : (Code.region id l.toArray true).wp P Q a w := wp_region_still_tail n hm hB h
def clsOf (f : Int) : Int := if f ≤ 35 then 1 else if f ≤ 41 then 2 else if f ≤ 46 then 3 else if f ≤ 50 then 4 else if f ≤ 53 then 5 else 6
theorem classOf_any (f : Int) (w : World) : Calls Try.prog 72 #[.int .i64 f] w fun e w' => e = .returned (.int .i64 (clsOf f)) ∧ w' = w := by
  go_enter Try.func72, Try.ntmps72
  go_wp2_with fail
  all_goals go_ret
  all_goals refine ⟨?_, rfl⟩
  all_goals (congr 2; unfold clsOf; simp [*] <;> omega)
/-- A function's row. -/
def rowOf (f : Int) : Option (ByteArray × Int × Int) := if 1 ≤ f ∧ f ≤ 76 then tab[(f - 1).toNat]? else none
theorem index76 (k : Nat) (hk : k < 76) (w : World) : (Instr.index 91 (.agg catC) (.int .i64 (k : Int))).run Try.prog w = .ok (.agg #[.string (tab[k]'(by rw [tab_len]; exact hk)).1, .int .i64 (tab[k]'(by rw [tab_len]; exact hk)).2.1, .int .i64 (tab[k]'(by rw [tab_len]; exact hk)).2.2]) w := by
  have h0 : 0 ≤ (k : Int) ∧ (k : Int) < 76 := by omega
  have hf := flat3 tab k (by rw [tab_len]; exact hk)
  simp [Instr.index, run_underlying Try.underlying91, asIntOf, h0, go_sem]
  rw [if_pos hk]
  have he : catC.extract (k * 3) (k * 3 + 3) = #[.string (tab[k]'(by rw [tab_len]; exact hk)).1, .int .i64 (tab[k]'(by rw [tab_len]; exact hk)).2.1, .int .i64 (tab[k]'(by rw [tab_len]; exact hk)).2.2] := by
    apply Array.ext'
    rw [Array.toList_extract, show catC.toList = catL by unfold catC; simp]
    rw [← hf]
    simp [List.extract, catL]
  rw [he]
abbrev fnV (n : ByteArray) (c mn mx : Int) : Value := .agg #[.string n, .int .i64 c, .int .i64 mn, .int .i64 mx]
set_option maxHeartbeats 1000000 in
set_option maxRecDepth 100000 in
theorem info_no (f : Int) (h : ¬ (1 ≤ f ∧ f ≤ 76)) (w : World) : Calls Try.prog 63 #[.int .i64 f] w fun e w' => e = .returned (.tuple #[fnV no 0 0 0, .int .i64 1]) ∧ Below w.heap.size w w' := by
  by_cases h1 : f < 1
  all_goals
    go_enter Try.func63, Try.ntmps63
    go_wp2_with fail
    refine bodyPost_ret (v := .tuple #[fnV no 0 0 0, .int .i64 1]) (by simp [results, Try.results63, go_sem]; try rfl) rfl ?_
    exact ⟨rfl, by go_grown⟩
set_option maxHeartbeats 1000000 in
set_option maxRecDepth 100000 in
theorem info_yes (k : Nat) (hk : k < 76) (w : World) : Calls Try.prog 63 #[.int .i64 ((k : Int) + 1)] w fun e w' => e = .returned (.tuple #[fnV (tab[k]'(by rw [tab_len]; exact hk)).1 (clsOf ((k : Int) + 1)) (tab[k]'(by rw [tab_len]; exact hk)).2.1 (tab[k]'(by rw [tab_len]; exact hk)).2.2, .int .i64 0]) ∧ Below w.heap.size w w' := by
  have HI := fun w => index76 k hk w
  generalize tab[k] = r at *
  obtain ⟨n, mn, mx⟩ := r
  have HC := hide (catalogue_any)
  have HK := hide (classOf_any ((k : Int) + 1))
  generalize clsOf ((k : Int) + 1) = cl at *
  have p1 : ¬ ((k : Int) + 1 < 1) := by omega
  have p2 : ¬ (76 < (k : Int) + 1) := by omega
  have p3 : (k : Int) + 1 - 1 = k := by omega
  have p4 := IntWalk.wrap64_in ((k : Int)) ⟨by omega, by omega⟩
  go_enter Try.func63, Try.ntmps63
  go_wp2_with (go_at_call 71; refine (HC.out _).mono ?_; rintro e w1 ⟨rfl, hb1⟩; have hlt := hb1.size; have Z := (Blk.new w #[.string no, .int .i64 0, .int .i64 0, .int .i64 0] 83).keep hb1; have z0 := Z.at' 0; have z1 := Z.at' 1; have z2 := Z.at' 2; have z3 := Z.at' 3; have y0 := Z.fr 0; have y1 := Z.fr 1; have y2 := Z.fr 2; have y3 := Z.fr 3; have zl := Z.lt; replace Z := hide Z; simp only [List.getElem?_toArray, List.getElem?_cons_zero, List.getElem?_cons_succ] at z0 z1 z2 z3; replace hb1 := hide (next (step (Below.refl _ w) _) hb1))
  refine still_tail 9 (by kernel_rfl) (by kernel_rfl) ?_
  simp only [List.take_succ_cons, List.take_zero, List.drop_succ_cons, List.drop_zero]
  repeat (first | still_step | still_call (HK.out _))
  refine wpStill_nil ?_
  go_wp2_with fail
  refine bodyPost_ret (v := .tuple #[fnV n cl mn mx, .int .i64 0]) (by simp [results, Try.results63, go_sem, z0, z1, z2, z3, zl]; try rfl) rfl ?_
  exact ⟨rfl, (step ((((hb1.out.setCell (p := ⟨w.heap.size, 0, none⟩) (Nat.le_refl _) _).setCell (p := ⟨w.heap.size, 1, none⟩) (Nat.le_refl _) _).setCell (p := ⟨w.heap.size, 2, none⟩) (Nat.le_refl _) _).setCell (p := ⟨w.heap.size, 3, none⟩) (Nat.le_refl _) _) _).drew⟩
/-- Does the function take so many? -/
def takesB (f n : Int) : Bool := if h : 1 ≤ f ∧ f ≤ 76 then (decide ((tab[(f - 1).toNat]'(by rw [tab_len]; omega)).2.1 ≤ n) && (decide (n ≤ (tab[(f - 1).toNat]'(by rw [tab_len]; omega)).2.2) || decide ((tab[(f - 1).toNat]'(by rw [tab_len]; omega)).2.2 < 0))) else false
set_option maxHeartbeats 1000000 in
set_option maxRecDepth 100000 in
theorem takes_any (f n : Int) (w : World) : Calls Try.prog 50 #[.int .i64 f, .int .i64 n] w fun e w' => e = .returned (.bool (takesB f n)) ∧ Below w.heap.size w w' := by
  by_cases h : 1 ≤ f ∧ f ≤ 76
  · obtain ⟨k, rfl⟩ : ∃ k : Nat, f = (k : Int) + 1 := ⟨(f - 1).toNat, by omega⟩
    have hk : k < 76 := by omega
    have HI := info_yes k hk
    have hT : takesB ((k : Int) + 1) n = (decide ((tab[k]'(by rw [tab_len]; exact hk)).2.1 ≤ n) && (decide (n ≤ (tab[k]'(by rw [tab_len]; exact hk)).2.2) || decide ((tab[k]'(by rw [tab_len]; exact hk)).2.2 < 0))) := by
      unfold takesB
      rw [dif_pos h]
      simp only [show ((k : Int) + 1 - 1).toNat = k by omega]
    rw [hT]
    generalize tab[k] = r at *
    obtain ⟨nm, mn, mx⟩ := r
    generalize clsOf ((k : Int) + 1) = cl at *
    replace HI := hide HI
    clear hT h
    simp only
    by_cases q1 : mn ≤ n
    · by_cases q2 : n ≤ mx
      all_goals
        go_enter Try.func50, Try.ntmps50
        go_wp2_with (go_at_call 63; refine (HI.out _).mono ?_; rintro e w1 ⟨rfl, hb1⟩; replace hb1 := hide hb1)
        go_ret
        refine ⟨ret_bool (by simp [q1, q2]), step hb1.out _⟩
    · go_enter Try.func50, Try.ntmps50
      go_wp2_with (go_at_call 63; refine (HI.out _).mono ?_; rintro e w1 ⟨rfl, hb1⟩; replace hb1 := hide hb1)
      go_ret
      refine ⟨ret_bool (by simp; intros; omega), step hb1.out _⟩
  · have HI := hide (info_no f h)
    have hT : takesB f n = false := by unfold takesB; rw [dif_neg h]
    rw [hT]
    clear hT h
    go_enter Try.func50, Try.ntmps50
    go_wp2_with (go_at_call 63; refine (HI.out _).mono ?_; rintro e w1 ⟨rfl, hb1⟩; replace hb1 := hide hb1)
    go_ret
    exact ⟨rfl, step hb1.out _⟩
end Go.Proofs.Ytiajoppbgebnpaa
