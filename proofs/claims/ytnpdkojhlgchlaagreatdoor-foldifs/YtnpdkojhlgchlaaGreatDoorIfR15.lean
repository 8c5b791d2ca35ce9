/- The law's run of SUMIF and SUMPRODUCT over columns. Proved of the Go text. -/
import Derived.Test.YtnpdkojhlgchlaaGreatDoorSpm15
import Derived.Test.YtnpdkojhlgchlaaGreatDoorIfM15
namespace Go.Proofs.YtnpdkojhlgchlaaGreatDoor
open Go.RowKit Go.Sort
open T9 (Blk Chg)
set_option linter.unusedVariables false
set_option linter.unusedSimpArgs false

theorem info73 : CallIs 20 #[.int .i64 73] (.tuple #[.agg #[.string ⟨#[83, 85, 77, 73, 70]⟩, .int .i64 6, .int .i64 2, .int .i64 3], .int .i64 0]) := fun w => by
  have h := T9.info_yes 72 (by decide) w
  have e : T9.tab[72]'(by rw [T9.tab_len]; decide) = (⟨#[83, 85, 77, 73, 70]⟩, 2, 3) := by
    have : T9.tab[72]? = some (⟨#[83, 85, 77, 73, 70]⟩, 2, 3) := by kernel_rfl
    exact (List.getElem?_eq_some_iff.1 this).2
  rw [e] at h
  exact h
theorem idx73 (w : World) : (Instr.index 76 (.agg fcatC) (.int .i64 73)).run Tryz.prog w = .ok (.func (.func 59) #[] #[]) w := index77 19 _ rfl w
theorem info75 : CallIs 20 #[.int .i64 75] (.tuple #[.agg #[.string ⟨#[83, 85, 77, 80, 82, 79, 68, 85, 67, 84]⟩, .int .i64 6, .int .i64 2, .int .i64 2], .int .i64 0]) := fun w => by
  have h := T9.info_yes 74 (by decide) w
  have e : T9.tab[74]'(by rw [T9.tab_len]; decide) = (⟨#[83, 85, 77, 80, 82, 79, 68, 85, 67, 84]⟩, 2, 2) := by
    have : T9.tab[74]? = some (⟨#[83, 85, 77, 80, 82, 79, 68, 85, 67, 84]⟩, 2, 2) := by kernel_rfl
    exact (List.getElem?_eq_some_iff.1 this).2
  rw [e] at h
  exact h
theorem idx75 (w : World) : (Instr.index 76 (.agg fcatC) (.int .i64 75)).run Tryz.prog w = .ok (.func (.func 61) #[] #[]) w := index77 21 _ rfl w
theorem agB_ok (m : Nat) (h1 : 1 ≤ m) (h3 : m ≤ 300) : AgOk (agB m) := by
  unfold AgOk
  simp only [if_true]
  refine ⟨by omega, ?_⟩
  unfold Ag.many Ag.cols
  show ((m : Int) - 1 - 0 + 1).toNat * 1 ≤ 4096
  omega
theorem run_sumIf3 (x wr : Int) (hx1 : -9223372036854775808 ≤ x) (hx2 : x ≤ 9223372036854775807) (ys : List (Int × Int)) (m : Nat) (hm : ys.length = m) (h1 : 1 ≤ m) (h3 : m ≤ 300) (hbd : ∀ q ∈ ys, (-9223372036854775808 ≤ q.1 ∧ q.1 ≤ 9223372036854775807) ∧ -1000 < q.2 ∧ q.2 < 1000) (W : World) (N : Nat) (hb : ArgsAt W (· < W.heap.size) (some ⟨N, 0, none⟩) [agC (m : Nat), agN x, agB m]) (av : Option Addr) (cv : Nat) (hv : ValsAt W av (ifs x wr ys 0 0).1) :
    Calls Tryz.prog 9 #[.int .i64 73, .slice (some ⟨N, 0, none⟩) 3 3, .slice av (ifs x wr ys 0 0).1.length cv] W fun e w' => ∃ a c, e = .returned (.tuple #[(ifs x wr ys 0 0).2.2.v, .slice a (ifs x wr ys 0 0).2.1.length c, .bool true]) ∧ RowP w' (W.heap.size + 1) (.slice a (ifs x wr ys 0 0).2.1.length c) (ifs x wr ys 0 0).2.1 ∧ Below W.heap.size W w' := by
  have hne : ys ≠ [] := fun e => by rw [e] at hm; simp at hm; omega
  have hb1 := beginX 73 _ _ [agC (m : Nat)] (0 : Int) dG lastN _ (sumIf_mk3 x m h1 h3) _ 2 3 info73 idx73 (by simp) (by simp) (by simp) (by simp) (fun a ha => by rcases List.mem_cons.1 ha with rfl | ha; exact agC_ok _ (by omega) (by omega); rcases List.mem_cons.1 ha with rfl | ha; exact agN_ok x hx1 hx2; rcases List.mem_cons.1 ha with rfl | ha; exact agB_ok m h1 h3; cases ha) (some ⟨N, 0, none⟩) 3 (W.alloc (vO 0 0 no)) (args_below hb (step (Below.refl _ _) _))
  have hr := rn_ifs x wr m h1 h3 ys 0 0 70000 0 [] _ hne (by omega) rfl rfl (by omega) (fun q hq => (hbd q hq).2) (by omega) (by omega)
  have hl := ifs_len x wr ys 0 0
  rw [List.nil_append] at hr
  have := runQ 73 (goOn dG lastN [agC (m : Nat)] 0 (0 : Int)) (qB m isI) (gI x) (some ⟨N, 0, none⟩) 3 3 W (hb1.mono fun e w' h => by obtain ⟨B, S, F, M, g1, g2, g3, g4, g5, g6⟩ := h; exact ⟨B, S, F, M, g1, bes_give m (celN_nb sumT_nb) g2, g3, g4, g5, g6⟩) (ifs x wr ys 0 0).1 (ifs_ok x wr hx1 hx2 ys 0 0 hbd) (by rw [goOn_colG _ _ _ h1, if_pos (by omega)]; exact hr.2) (by omega) av cv hv _ _ (by rw [goOn_colG _ _ _ h1, if_pos (by omega)]; exact hr.1)
  refine this.mono fun e w' ⟨v, g1, g2, g3⟩ => ?_
  obtain ⟨a, n, c, rfl, hn⟩ := g2.shapeN
  subst hn
  exact ⟨a, c, g1, g2, g3⟩
theorem run_sumIf2 (x : Int) (hx : -1000 < x ∧ x < 1000) (ns : List Int) (m : Nat) (hm : ns.length = m) (h1 : 1 ≤ m) (h3 : m ≤ 300) (hbd : ∀ y ∈ ns, -9223372036854775808 ≤ y ∧ y ≤ 9223372036854775807) (W : World) (N : Nat) (hb : ArgsAt W (· < W.heap.size) (some ⟨N, 0, none⟩) [agC (m : Nat), agN x]) (av : Option Addr) (cv : Nat) (hv : ValsAt W av (ns.map nmV)) :
    Calls Tryz.prog 9 #[.int .i64 73, .slice (some ⟨N, 0, none⟩) 2 2, .slice av m cv] W fun e w' => ∃ a c, e = .returned (.tuple #[vV 1 ((cI x ns : Nat) * x) no, .slice a m c, .bool true]) ∧ RowP w' (W.heap.size + 1) (.slice a m c) ((List.range m).map fun j : Nat => ((j : Int), (0 : Int))) ∧ Below W.heap.size W w' := by
  have hl : (ns.map nmV).length = m := by rw [List.length_map, hm]
  have MK := sumIf_mk2 x m h1 h3
  rw [← hl] at MK hb
  have := run_colX 73 _ _ (0 : Int) isI (fun _ => True) (sif2 x (celN sumT)) lastN (ns.map nmV) (by omega) (by omega) MK (fun _ => 0) rfl (fun _ _ => trivial) (fun _ _ => by omega) (fun s v => by unfold sif2; split; exact celN_nb sumT_nb s v; simp) _ 2 3 info73 idx73 (by simp) (by simp) (by simp) (by simp) (fun a ha => by rcases List.mem_cons.1 ha with rfl | ha; exact agC_ok _ (by rw [hl]; omega) (by rw [hl]; omega); rcases List.mem_cons.1 ha with rfl | ha; exact agN_ok x (by omega) (by omega); cases ha) (nmV_ok hbd) rfl W _ 2 hb av cv hv
  rw [sif2_col x hx ns 0 0 (by omega) (by omega) (by omega), hl] at this
  refine this.mono fun e w' ⟨v, g1, g2, g3⟩ => ?_
  obtain ⟨a, n, c, rfl, hn⟩ := g2.shapeN
  simp only [List.length_map, List.length_range] at hn
  subst hn
  simp only [Int.zero_add, hm] at g1 g2
  rw [← hm]
  simp only [hm]
  exact ⟨a, c, g1, g2, g3⟩
theorem run_sumProduct (ys : List (Int × Int)) (m : Nat) (hm : ys.length = m) (h1 : 1 ≤ m) (h3 : m ≤ 300) (hbd : ∀ q ∈ ys, (-1000 < q.1 ∧ q.1 < 1000) ∧ -1000 < q.2 ∧ q.2 < 1000) (W : World) (N : Nat) (hb : ArgsAt W (· < W.heap.size) (some ⟨N, 0, none⟩) [agC (m : Nat), agB m]) (av : Option Addr) (cv : Nat) (hv : ValsAt W av (prV ys)) :
    Calls Tryz.prog 9 #[.int .i64 75, .slice (some ⟨N, 0, none⟩) 2 2, .slice av (2 * m) cv] W fun e w' => ∃ a c, e = .returned (.tuple #[vV 1 (prD ys 0) no, .slice a (2 * m) c, .bool true]) ∧ RowP w' (W.heap.size + 1) (.slice a (2 * m) c) (prW m 0) ∧ Below W.heap.size W w' := by
  have hne : ys ≠ [] := fun e => by rw [e] at hm; simp at hm; omega
  have hb1 := beginX 75 _ _ [agC (m : Nat)] ((0, ⟨0, 0, no⟩) : Int × Va) dG lastQ _ (sumProduct_mk m h1 h3) _ 2 2 info75 idx75 (by simp) (by simp) (by simp) (by simp) (fun a ha => by rcases List.mem_cons.1 ha with rfl | ha; exact agC_ok _ (by omega) (by omega); rcases List.mem_cons.1 ha with rfl | ha; exact agB_ok m h1 h3; cases ha) (some ⟨N, 0, none⟩) 2 (W.alloc (vO 0 0 no)) (args_below hb (step (Below.refl _ _) _))
  have hr := rn_prs m h1 h3 ys 0 0 70000 0 ⟨0, 0, no⟩ [] _ hne (by omega) rfl rfl (by omega) hbd (by omega) (by omega)
  have hl := prV_len ys
  rw [List.nil_append, hm] at hr
  have := runQ 75 (goOn dG lastQ [agC (m : Nat)] 0 ((0, ⟨0, 0, no⟩) : Int × Va)) (qB m (fun _ => True)) gP (some ⟨N, 0, none⟩) 2 2 W (hb1.mono fun e w' h => by obtain ⟨B, S, F, M, g1, g2, g3, g4, g5, g6⟩ := h; exact ⟨B, S, F, M, g1, bes_give m (celN_nb sprT_nb) g2, g3, g4, g5, g6⟩) (prV ys) (prV_ok ys hbd) (by rw [goOn_colG _ _ _ h1, if_pos (by omega)]; exact hr.2) (by omega) av cv hv _ _ (by rw [goOn_colG _ _ _ h1, if_pos (by omega)]; exact hr.1)
  rw [hl, hm] at this
  refine this.mono fun e w' ⟨v, g1, g2, g3⟩ => ?_
  obtain ⟨a, n, c, rfl, hn⟩ := g2.shapeN
  rw [prW_len] at hn
  subst hn
  exact ⟨a, c, g1, g2, g3⟩
end Go.Proofs.YtnpdkojhlgchlaaGreatDoor
