/- What the law's run answers of MATCH, COUNTIF and VLOOKUP over a column of numbers. -/
import Derived.Test.YtnpdkojhlgchlaaGreatDoorLkx15
import Derived.Test.YtnpdkojhlgchlaaGreatDoorCif15
namespace Go.Proofs.YtnpdkojhlgchlaaGreatDoor
open Go.RowKit Go.Sort
open T9 (Blk Chg)
set_option linter.unusedVariables false
set_option linter.unusedSimpArgs false

theorem info70 : CallIs 20 #[.int .i64 70] (.tuple #[.agg #[.string ⟨#[77, 65, 84, 67, 72]⟩, .int .i64 6, .int .i64 2, .int .i64 2], .int .i64 0]) := fun w => by
  have h := T9.info_yes 69 (by decide) w
  have e : T9.tab[69]'(by rw [T9.tab_len]; decide) = (⟨#[77, 65, 84, 67, 72]⟩, 2, 2) := by
    have : T9.tab[69]? = some (⟨#[77, 65, 84, 67, 72]⟩, 2, 2) := by kernel_rfl
    exact (List.getElem?_eq_some_iff.1 this).2
  rw [e] at h
  exact h
theorem idx70 (w : World) : (Instr.index 76 (.agg fcatC) (.int .i64 70)).run Tryz.prog w = .ok (.func (.func 56) #[] #[]) w := index77 16 _ rfl w
theorem info71 : CallIs 20 #[.int .i64 71] (.tuple #[.agg #[.string ⟨#[86, 76, 79, 79, 75, 85, 80]⟩, .int .i64 6, .int .i64 3, .int .i64 3], .int .i64 0]) := fun w => by
  have h := T9.info_yes 70 (by decide) w
  have e : T9.tab[70]'(by rw [T9.tab_len]; decide) = (⟨#[86, 76, 79, 79, 75, 85, 80]⟩, 3, 3) := by
    have : T9.tab[70]? = some (⟨#[86, 76, 79, 79, 75, 85, 80]⟩, 3, 3) := by kernel_rfl
    exact (List.getElem?_eq_some_iff.1 this).2
  rw [e] at h
  exact h
theorem idx71 (w : World) : (Instr.index 76 (.agg fcatC) (.int .i64 71)).run Tryz.prog w = .ok (.func (.func 57) #[] #[]) w := index77 17 _ rfl w
theorem info74 : CallIs 20 #[.int .i64 74] (.tuple #[.agg #[.string ⟨#[67, 79, 85, 78, 84, 73, 70]⟩, .int .i64 6, .int .i64 2, .int .i64 2], .int .i64 0]) := fun w => by
  have h := T9.info_yes 73 (by decide) w
  have e : T9.tab[73]'(by rw [T9.tab_len]; decide) = (⟨#[67, 79, 85, 78, 84, 73, 70]⟩, 2, 2) := by
    have : T9.tab[73]? = some (⟨#[67, 79, 85, 78, 84, 73, 70]⟩, 2, 2) := by kernel_rfl
    exact (List.getElem?_eq_some_iff.1 this).2
  rw [e] at h
  exact h
theorem idx74 (w : World) : (Instr.index 76 (.agg fcatC) (.int .i64 74)).run Tryz.prog w = .ok (.func (.func 60) #[] #[]) w := index77 20 _ rfl w
theorem argsB2 {W : World} {N : Nat} {x y : Ag} (hb : Blk W N #[.bool x.is, .int .i64 x.t, .int .i64 x.l, .int .i64 x.b, .int .i64 x.r, .int .i64 x.v.k, .int .i64 x.v.i, .string x.v.t, .bool y.is, .int .i64 y.t, .int .i64 y.l, .int .i64 y.b, .int .i64 y.r, .int .i64 y.v.k, .int .i64 y.v.i, .string y.v.t] 41) : ArgsAt W (· < W.heap.size) (some ⟨N, 0, none⟩) [x, y] := by
  refine .inr ⟨_, _, rfl, hb.lt, fun j u hu i v hv => ?_⟩
  rw [hb.at']
  match j, hu with
  | 0, hu =>
    obtain rfl : x = u := by simpa using hu
    match i, hv with
    | 0, hv | 1, hv | 2, hv | 3, hv | 4, hv | 5, hv | 6, hv | 7, hv => exact hv
    | i + 8, hv => simp at hv
  | 1, hu =>
    obtain rfl : y = u := by simpa using hu
    match i, hv with
    | 0, hv | 1, hv | 2, hv | 3, hv | 4, hv | 5, hv | 6, hv | 7, hv => exact hv
    | i + 8, hv => simp at hv
theorem argsB3 {W : World} {N : Nat} {x y z : Ag} (hb : Blk W N #[.bool x.is, .int .i64 x.t, .int .i64 x.l, .int .i64 x.b, .int .i64 x.r, .int .i64 x.v.k, .int .i64 x.v.i, .string x.v.t, .bool y.is, .int .i64 y.t, .int .i64 y.l, .int .i64 y.b, .int .i64 y.r, .int .i64 y.v.k, .int .i64 y.v.i, .string y.v.t, .bool z.is, .int .i64 z.t, .int .i64 z.l, .int .i64 z.b, .int .i64 z.r, .int .i64 z.v.k, .int .i64 z.v.i, .string z.v.t] 41) : ArgsAt W (· < W.heap.size) (some ⟨N, 0, none⟩) [x, y, z] := by
  refine .inr ⟨_, _, rfl, hb.lt, fun j u hu i v hv => ?_⟩
  rw [hb.at']
  match j, hu with
  | 0, hu =>
    obtain rfl : x = u := by simpa using hu
    match i, hv with
    | 0, hv | 1, hv | 2, hv | 3, hv | 4, hv | 5, hv | 6, hv | 7, hv => exact hv
    | i + 8, hv => simp at hv
  | 1, hu =>
    obtain rfl : y = u := by simpa using hu
    match i, hv with
    | 0, hv | 1, hv | 2, hv | 3, hv | 4, hv | 5, hv | 6, hv | 7, hv => exact hv
    | i + 8, hv => simp at hv
  | 2, hu =>
    obtain rfl : z = u := by simpa using hu
    match i, hv with
    | 0, hv | 1, hv | 2, hv | 3, hv | 4, hv | 5, hv | 6, hv | 7, hv => exact hv
    | i + 8, hv => simp at hv
theorem mat_col (x : Int) : ∀ (ns : List Int) (n0 : Int), 0 ≤ n0 → n0 + ns.length ≤ 1000000 → colR (matT x) (fun _ => ⟨4, 6, no⟩) (ns.map nmV) n0 = (if fI x ns < ns.length then (⟨1, n0 + fI x ns + 1, no⟩, fI x ns + 1) else (⟨4, 6, no⟩, ns.length))
  | [], n0, h1, h2 => rfl
  | y :: r, n0, h1, h2 => by
    simp only [List.length_cons] at h2
    have hw : wrap64 (n0 + 1) = n0 + 1 := IntWalk.wrap64_in (n0 + 1) ⟨by omega, by omega⟩
    rw [List.map_cons, colR, fI]
    unfold matT
    rw [hw]
    by_cases hy : y = x
    · have : ((nmV y).i == x) = true := by simp [hy]
      rw [this, if_pos hy]
      simp
    · have : ((nmV y).i == x) = false := by simp [hy]
      rw [this, if_neg hy]
      have ih := mat_col x r (n0 + 1) (by omega) (by omega)
      unfold matT at ih
      simp only [Bool.false_eq_true, if_false]
      rw [ih]
      by_cases hf : fI x r < r.length
      · have hf2 : fI x r + 1 < (y :: r).length := by simp; omega
        rw [if_pos hf, if_pos hf2]
        refine Prod.ext ?_ rfl
        simp
        omega
      · have hf2 : ¬ fI x r + 1 < (y :: r).length := by simp; omega
        rw [if_neg hf, if_neg hf2]
        simp
/-- How many are the number. -/
def cI (x : Int) : List Int → Nat
  | [] => 0
  | y :: r => (if y = x then 1 else 0) + cI x r
theorem cI_le (x : Int) : ∀ l, cI x l ≤ l.length
  | [] => Nat.le_refl _
  | y :: r => by rw [cI, List.length_cons]; have := cI_le x r; split <;> omega
theorem cI_app (x : Int) : ∀ l m, cI x (l ++ m) = cI x l + cI x m
  | [], m => by simp [cI]
  | y :: r, m => by rw [List.cons_append, cI, cI, cI_app x r m]; omega
theorem cif_col (x : Int) : ∀ (ns : List Int) (n0 : Int), 0 ≤ n0 → n0 + ns.length ≤ 1000000 → colR (cntT (fun v => v.i == x)) (fun n => ⟨1, n, no⟩) (ns.map nmV) n0 = (⟨1, n0 + cI x ns, no⟩, ns.length)
  | [], n0, h1, h2 => by simp [colR, cI]
  | y :: r, n0, h1, h2 => by
    simp only [List.length_cons] at h2
    have hw : wrap64 (n0 + 1) = n0 + 1 := IntWalk.wrap64_in (n0 + 1) ⟨by omega, by omega⟩
    have hst : cntT (fun v => v.i == x) n0 (nmV y) = (.on, if y = x then n0 + 1 else n0) := by
      unfold cntT
      rw [hw]
      by_cases hy : y = x <;> simp [hy]
    rw [List.map_cons, colR, hst, cI]
    by_cases hy : y = x
    · simp only [hy, if_true]
      rw [cif_col x r (n0 + 1) (by omega) (by omega)]
      refine Prod.ext ?_ ?_
      · simp; omega
      · simp
    · simp only [hy, if_false]
      rw [cif_col x r n0 (by omega) (by omega)]
      refine Prod.ext ?_ ?_
      · simp
      · simp
theorem nmV_ok {ns : List Int} (hbd : ∀ y ∈ ns, -9223372036854775808 ≤ y ∧ y ≤ 9223372036854775807) : ∀ v ∈ ns.map nmV, VaOk v ∧ isI v := fun v hv => by
  obtain ⟨n, hn, rfl⟩ := List.mem_map.1 hv
  exact ⟨va_int n (hbd n hn).1 (hbd n hn).2, rfl⟩
theorem agN_ok (x : Int) (h1 : -9223372036854775808 ≤ x) (h2 : x ≤ 9223372036854775807) : AgOk (agN x) := va_int x h1 h2
theorem agW_ok (m : Nat) (h1 : 1 ≤ m) (h3 : m ≤ 300) : AgOk (agW m) := by
  unfold AgOk
  simp only [if_true]
  refine ⟨by omega, ?_⟩
  unfold Ag.many Ag.cols
  show ((m : Int) - 1 - 0 + 1).toNat * 3 ≤ 4096
  omega
/-- What MATCH and COUNTIF answer. -/
def maV (x : Int) (ns : List Int) : Va := if fI x ns < ns.length then ⟨1, (fI x ns : Int) + 1, no⟩ else ⟨4, 6, no⟩
def maN (x : Int) (ns : List Int) : Nat := if fI x ns < ns.length then fI x ns + 1 else ns.length
def lkN (x : Int) (ns : List Int) : Nat := if fI x ns < ns.length then fI x ns + 2 else ns.length
theorem run_match (x : Int) (hx1 : -9223372036854775808 ≤ x) (hx2 : x ≤ 9223372036854775807) (ns : List Int) (h1 : 1 ≤ ns.length) (h3 : ns.length ≤ 300) (hbd : ∀ y ∈ ns, -9223372036854775808 ≤ y ∧ y ≤ 9223372036854775807) (W : World) (N : Nat) (hb : ArgsAt W (· < W.heap.size) (some ⟨N, 0, none⟩) [agN x, agC (ns.length : Nat)]) (av : Option Addr) (cv : Nat) (hv : ValsAt W av (ns.map nmV)) :
    Calls Tryz.prog 9 #[.int .i64 70, .slice (some ⟨N, 0, none⟩) 2 2, .slice av ns.length cv] W fun e w' => ∃ a c, e = .returned (.tuple #[(maV x ns).v, .slice a (maN x ns) c, .bool true]) ∧ Below W.heap.size W w' := by
  have hl : (ns.map nmV).length = ns.length := List.length_map _
  have MK := match_mk x ns.length h1 h3
  rw [← hl] at MK hb
  have := run_colX 70 _ _ (0 : Int) isI (fun _ => True) (matT x) (fun _ => ⟨4, 6, no⟩) (ns.map nmV) (by omega) (by omega) MK (fun _ => 0) rfl (fun _ _ => trivial) (fun _ _ => by omega) (matT_nb x) _ 2 2 info70 idx70 (by simp) (by simp) (by simp) (by simp) (fun a ha => by rcases List.mem_cons.1 ha with rfl | ha; exact agN_ok x hx1 hx2; rcases List.mem_cons.1 ha with rfl | ha; exact agC_ok _ (by rw [hl]; omega) (by rw [hl]; omega); cases ha) (nmV_ok hbd) rfl W _ 2 hb av cv hv
  rw [mat_col x ns 0 (by omega) (by omega), hl] at this
  refine this.mono fun e w' ⟨v, g1, g2, g3⟩ => ?_
  obtain ⟨a, n, c, rfl, hn⟩ := g2.shapeN
  simp only [List.length_map, List.length_range] at hn
  refine ⟨a, c, ?_, g3⟩
  rw [g1, hn]
  unfold maV maN
  by_cases hf : fI x ns < ns.length
  · simp only [hf, if_true, Int.zero_add]
  · simp only [hf, if_false]
theorem run_countIf (x : Int) (hx1 : -9223372036854775808 ≤ x) (hx2 : x ≤ 9223372036854775807) (ns : List Int) (h1 : 1 ≤ ns.length) (h3 : ns.length ≤ 300) (hbd : ∀ y ∈ ns, -9223372036854775808 ≤ y ∧ y ≤ 9223372036854775807) (W : World) (N : Nat) (hb : ArgsAt W (· < W.heap.size) (some ⟨N, 0, none⟩) [agC (ns.length : Nat), agN x]) (av : Option Addr) (cv : Nat) (hv : ValsAt W av (ns.map nmV)) :
    Calls Tryz.prog 9 #[.int .i64 74, .slice (some ⟨N, 0, none⟩) 2 2, .slice av ns.length cv] W fun e w' => ∃ a c, e = .returned (.tuple #[vV 1 (cI x ns : Nat) no, .slice a ns.length c, .bool true]) ∧ Below W.heap.size W w' := by
  have hl : (ns.map nmV).length = ns.length := List.length_map _
  have MK := countIf_mk x ns.length h1 h3
  rw [← hl] at MK hb
  have := run_colX 74 _ _ (0 : Int) isI (fun _ => True) (cntT (fun v => v.i == x)) (fun n => ⟨1, n, no⟩) (ns.map nmV) (by omega) (by omega) MK (fun _ => 0) rfl (fun _ _ => trivial) (fun _ _ => by omega) (cntT_nb _) _ 2 2 info74 idx74 (by simp) (by simp) (by simp) (by simp) (fun a ha => by rcases List.mem_cons.1 ha with rfl | ha; exact agC_ok _ (by rw [hl]; omega) (by rw [hl]; omega); rcases List.mem_cons.1 ha with rfl | ha; exact agN_ok x hx1 hx2; cases ha) (nmV_ok hbd) rfl W _ 2 hb av cv hv
  rw [cif_col x ns 0 (by omega) (by omega), hl] at this
  refine this.mono fun e w' ⟨v, g1, g2, g3⟩ => ?_
  obtain ⟨a, n, c, rfl, hn⟩ := g2.shapeN
  simp only [List.length_map, List.length_range] at hn
  refine ⟨a, c, ?_, g3⟩
  rw [g1, hn]
  simp only [Int.zero_add]
theorem run_look (x : Int) (hx1 : -9223372036854775808 ≤ x) (hx2 : x ≤ 9223372036854775807) (ns : List Int) (h1 : 1 ≤ ns.length) (h3 : ns.length ≤ 300) (hbd : ∀ y ∈ ns, -9223372036854775808 ≤ y ∧ y ≤ 9223372036854775807) (W : World) (N : Nat) (hb : ArgsAt W (· < W.heap.size) (some ⟨N, 0, none⟩) [agN x, agW ns.length, agN 3]) (av : Option Addr) (cv : Nat) (hv : ValsAt W av (ns.map nmV)) :
    Calls Tryz.prog 9 #[.int .i64 71, .slice (some ⟨N, 0, none⟩) 3 3, .slice av ns.length cv] W fun e w' => ∃ a c, e = .returned (.tuple #[(lkV x ns).v, .slice a (lkN x ns) c, .bool true]) ∧ RowP w' (W.heap.size + 1) (.slice a (lkN x ns) c) (lkL x ns 0 (fI x ns) (decide (fI x ns < ns.length))) ∧ Below W.heap.size W w' := by
  have hl : (ns.map nmV).length = ns.length := List.length_map _
  have hb1 := beginX 71 _ _ [agC (ns.length : Nat)] () dG lastA (LookX x) (lookDown_mk x ns.length h1 h3) _ 3 3 info71 idx71 (by simp) (by simp) (by simp) (by simp) (fun a ha => by rcases List.mem_cons.1 ha with rfl | ha; exact agN_ok x hx1 hx2; rcases List.mem_cons.1 ha with rfl | ha; exact agW_ok _ h1 h3; rcases List.mem_cons.1 ha with rfl | ha; exact agN_ok 3 (by decide) (by decide); cases ha) (some ⟨N, 0, none⟩) 3 (W.alloc (vO 0 0 no)) (args_below hb (step (Below.refl _ _) _))
  have hr := rn_look x ns h1 (ns.length - 1) 0 70000 (by omega) (by omega)
  rw [List.drop_zero, show ns.length - 1 + 1 = ns.length by omega] at hr
  have := runX 71 (goOn dG lastA [agC (ns.length : Nat)] 0 ()) isI (InvL ns.length) (gL x) (by rw [goOn_colG _ _ _ h1, if_pos (by omega)]; rfl) (some ⟨N, 0, none⟩) 3 3 W (hb1.mono fun e w' h => by obtain ⟨B, S, F, M, g1, g2, g3, g4, g5, g6⟩ := h; exact ⟨B, S, F, M, g1, look_give x ns.length h1 g2, g3, g4, g5, g6⟩) (ns.map nmV) (nmV_ok hbd) rfl (by rw [hl]; omega) av cv hv _ _ (by rw [goOn_colG _ _ _ h1, if_pos (by omega)]; exact hr)
  rw [hl] at this
  refine this.mono fun e w' ⟨v, g1, g2, g3⟩ => ?_
  obtain ⟨a, n, c, rfl, hn⟩ := g2.shapeN
  have hn2 : n = lkN x ns := by
    rw [hn]
    unfold lkL lkN
    by_cases hf : fI x ns < ns.length
    · simp [hf]
    · have := fI_le x ns
      simp [hf]
      omega
  subst hn2
  refine ⟨a, c, ?_, g2, g3⟩
  rw [g1]
  unfold lkV
  simp only [Nat.zero_add]
end Go.Proofs.YtnpdkojhlgchlaaGreatDoor
