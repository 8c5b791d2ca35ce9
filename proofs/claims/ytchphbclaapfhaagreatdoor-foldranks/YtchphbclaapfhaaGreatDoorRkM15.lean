/- What the law's run answers of SMALL, LARGE, MEDIAN, MIN and MAX over a column of numbers; sorted lists. -/
import Derived.Test.YtchphbclaapfhaaGreatDoorSrn15
import Derived.Test.YtchphbclaapfhaaGreatDoorFndM15
namespace Go.Proofs.YtchphbclaapfhaaGreatDoor
open Go.RowKit Go.Sort
open T9 (Blk Chg)
set_option linter.unusedVariables false
set_option linter.unusedSimpArgs false

theorem info59 : CallIs 20 #[.int .i64 59] (.tuple #[.agg #[.string ⟨#[77, 73, 78]⟩, .int .i64 6, .int .i64 1, .int .i64 (-1)], .int .i64 0]) := fun w => by
  have h := T9.info_yes 58 (by decide) w
  have e : T9.tab[58]'(by rw [T9.tab_len]; decide) = (⟨#[77, 73, 78]⟩, 1, -1) := by
    have : T9.tab[58]? = some (⟨#[77, 73, 78]⟩, 1, -1) := by kernel_rfl
    exact (List.getElem?_eq_some_iff.1 this).2
  rw [e] at h
  exact h
theorem idx59 (w : World) : (Instr.index 72 (.agg fcatC) (.int .i64 59)).run Tryz.prog w = .ok (.func (.func 36) #[] #[]) w := index77 5 _ rfl w
theorem info60 : CallIs 20 #[.int .i64 60] (.tuple #[.agg #[.string ⟨#[77, 65, 88]⟩, .int .i64 6, .int .i64 1, .int .i64 (-1)], .int .i64 0]) := fun w => by
  have h := T9.info_yes 59 (by decide) w
  have e : T9.tab[59]'(by rw [T9.tab_len]; decide) = (⟨#[77, 65, 88]⟩, 1, -1) := by
    have : T9.tab[59]? = some (⟨#[77, 65, 88]⟩, 1, -1) := by kernel_rfl
    exact (List.getElem?_eq_some_iff.1 this).2
  rw [e] at h
  exact h
theorem idx60 (w : World) : (Instr.index 72 (.agg fcatC) (.int .i64 60)).run Tryz.prog w = .ok (.func (.func 37) #[] #[]) w := index77 6 _ rfl w
theorem info62 : CallIs 20 #[.int .i64 62] (.tuple #[.agg #[.string ⟨#[77, 69, 68, 73, 65, 78]⟩, .int .i64 6, .int .i64 1, .int .i64 (-1)], .int .i64 0]) := fun w => by
  have h := T9.info_yes 61 (by decide) w
  have e : T9.tab[61]'(by rw [T9.tab_len]; decide) = (⟨#[77, 69, 68, 73, 65, 78]⟩, 1, -1) := by
    have : T9.tab[61]? = some (⟨#[77, 69, 68, 73, 65, 78]⟩, 1, -1) := by kernel_rfl
    exact (List.getElem?_eq_some_iff.1 this).2
  rw [e] at h
  exact h
theorem idx62 (w : World) : (Instr.index 72 (.agg fcatC) (.int .i64 62)).run Tryz.prog w = .ok (.func (.func 39) #[] #[]) w := index77 8 _ rfl w
theorem info63 : CallIs 20 #[.int .i64 63] (.tuple #[.agg #[.string ⟨#[76, 65, 82, 71, 69]⟩, .int .i64 6, .int .i64 2, .int .i64 2], .int .i64 0]) := fun w => by
  have h := T9.info_yes 62 (by decide) w
  have e : T9.tab[62]'(by rw [T9.tab_len]; decide) = (⟨#[76, 65, 82, 71, 69]⟩, 2, 2) := by
    have : T9.tab[62]? = some (⟨#[76, 65, 82, 71, 69]⟩, 2, 2) := by kernel_rfl
    exact (List.getElem?_eq_some_iff.1 this).2
  rw [e] at h
  exact h
theorem idx63 (w : World) : (Instr.index 72 (.agg fcatC) (.int .i64 63)).run Tryz.prog w = .ok (.func (.func 40) #[] #[]) w := index77 9 _ rfl w
theorem info64 : CallIs 20 #[.int .i64 64] (.tuple #[.agg #[.string ⟨#[83, 77, 65, 76, 76]⟩, .int .i64 6, .int .i64 2, .int .i64 2], .int .i64 0]) := fun w => by
  have h := T9.info_yes 63 (by decide) w
  have e : T9.tab[63]'(by rw [T9.tab_len]; decide) = (⟨#[83, 77, 65, 76, 76]⟩, 2, 2) := by
    have : T9.tab[63]? = some (⟨#[83, 77, 65, 76, 76]⟩, 2, 2) := by kernel_rfl
    exact (List.getElem?_eq_some_iff.1 this).2
  rw [e] at h
  exact h
theorem idx64 (w : World) : (Instr.index 72 (.agg fcatC) (.int .i64 64)).run Tryz.prog w = .ok (.func (.func 41) #[] #[]) w := index77 10 _ rfl w
theorem srt_col (last : List Int → Va) : ∀ (ns L : List Int), colR (celN srtT) last (ns.map nmV) L = (last (L ++ ns), ns.length)
  | [], L => by simp [colR]
  | y :: r, L => by
    have hst : celN srtT L (nmV y) = (.on, L ++ [y]) := rfl
    rw [List.map_cons, colR, hst]
    simp only
    rw [srt_col last r (L ++ [y])]
    simp
theorem srtT_cnt (s : List Int) (x : Va) : (celN srtT s x).2.length ≤ s.length + 1 := by
  unfold celN srtT
  split
  · simp
  · split <;> simp
theorem srtT_nb (s : List Int) (x : Va) : (celN srtT s x).1 ≠ .bes := celN_nb (fun _ _ e => by cases e) s x
theorem nmV_okT {ns : List Int} (hbd : ∀ y ∈ ns, -9223372036854775808 ≤ y ∧ y ≤ 9223372036854775807) : ∀ v ∈ ns.map nmV, VaOk v ∧ True := fun v hv => ⟨(nmV_ok hbd v hv).1, trivial⟩
theorem run_small (j : Nat) (ns : List Int) (hj1 : 1 ≤ j) (hj2 : j ≤ ns.length) (h3 : ns.length ≤ 300) (hbd : ∀ y ∈ ns, -9223372036854775808 ≤ y ∧ y ≤ 9223372036854775807) (W : World) (N : Nat) (hb : ArgsAt W (· < W.heap.size) (some ⟨N, 0, none⟩) [agC (ns.length : Nat), agN (j : Int)]) (av : Option Addr) (cv : Nat) (hv : ValsAt W av (ns.map nmV)) :
    Calls Tryz.prog 11 #[.int .i64 64, .slice (some ⟨N, 0, none⟩) 2 2, .slice av ns.length cv] W fun e w' => ∃ v, e = .returned (.tuple #[vV 1 ((srt ns).getD (j - 1) 0) no, v, .bool true]) ∧ Below W.heap.size W w' := by
  have hl : (ns.map nmV).length = ns.length := List.length_map _
  have MK := small_mk (j : Int) (by omega) (by omega) ns.length (by omega) h3
  rw [← hl] at MK hb
  have := run_colX 64 _ _ ([] : List Int) (fun _ => True) (fun L : List Int => L.length ≤ 1000) (celN srtT) (fun L => rnkT (fun L j => L.getD (j - 1) 0) (j : Int) (srt L)) (ns.map nmV) (by omega) (by omega) MK List.length rfl (fun s h => by omega) srtT_cnt srtT_nb _ 2 2 info64 idx64 (by simp) (by simp) (by simp) (by simp) (fun a ha => by rcases List.mem_cons.1 ha with rfl | ha; exact agC_ok _ (by rw [hl]; omega) (by rw [hl]; omega); rcases List.mem_cons.1 ha with rfl | ha; exact agN_ok _ (by omega) (by omega); cases ha) (nmV_okT hbd) trivial W _ 2 hb av cv hv
  rw [srt_col, hl] at this
  refine this.mono fun e w' ⟨v, g1, g2, g3⟩ => ⟨v, ?_, g3⟩
  rw [g1]
  have e : rnkT (fun L j => L.getD (j - 1) 0) (j : Int) (srt ([] ++ ns)) = ⟨1, (srt ns).getD (j - 1) 0, no⟩ := by
    unfold rnkT
    rw [List.nil_append, if_neg (by rw [srt_len]; omega), Int.toNat_natCast]
  simp only [e]
theorem run_large (j : Nat) (ns : List Int) (hj1 : 1 ≤ j) (hj2 : j ≤ ns.length) (h3 : ns.length ≤ 300) (hbd : ∀ y ∈ ns, -9223372036854775808 ≤ y ∧ y ≤ 9223372036854775807) (W : World) (N : Nat) (hb : ArgsAt W (· < W.heap.size) (some ⟨N, 0, none⟩) [agC (ns.length : Nat), agN (j : Int)]) (av : Option Addr) (cv : Nat) (hv : ValsAt W av (ns.map nmV)) :
    Calls Tryz.prog 11 #[.int .i64 63, .slice (some ⟨N, 0, none⟩) 2 2, .slice av ns.length cv] W fun e w' => ∃ v, e = .returned (.tuple #[vV 1 ((srt ns).getD (ns.length - j) 0) no, v, .bool true]) ∧ Below W.heap.size W w' := by
  have hl : (ns.map nmV).length = ns.length := List.length_map _
  have MK := large_mk (j : Int) (by omega) (by omega) ns.length (by omega) h3
  rw [← hl] at MK hb
  have := run_colX 63 _ _ ([] : List Int) (fun _ => True) (fun L : List Int => L.length ≤ 1000) (celN srtT) (fun L => rnkT (fun L j => L.getD (L.length - j) 0) (j : Int) (srt L)) (ns.map nmV) (by omega) (by omega) MK List.length rfl (fun s h => by omega) srtT_cnt srtT_nb _ 2 2 info63 idx63 (by simp) (by simp) (by simp) (by simp) (fun a ha => by rcases List.mem_cons.1 ha with rfl | ha; exact agC_ok _ (by rw [hl]; omega) (by rw [hl]; omega); rcases List.mem_cons.1 ha with rfl | ha; exact agN_ok _ (by omega) (by omega); cases ha) (nmV_okT hbd) trivial W _ 2 hb av cv hv
  rw [srt_col, hl] at this
  refine this.mono fun e w' ⟨v, g1, g2, g3⟩ => ⟨v, ?_, g3⟩
  rw [g1]
  have e : rnkT (fun L j => L.getD (L.length - j) 0) (j : Int) (srt ([] ++ ns)) = ⟨1, (srt ns).getD (ns.length - j) 0, no⟩ := by
    unfold rnkT
    rw [List.nil_append, if_neg (by rw [srt_len]; omega), Int.toNat_natCast]; simp only [srt_len]
  simp only [e]
theorem run_median (ns : List Int) (h1 : 1 ≤ ns.length) (h3 : ns.length ≤ 300) (hbd : ∀ y ∈ ns, -9223372036854775808 ≤ y ∧ y ≤ 9223372036854775807) (W : World) (N : Nat) (hb : ArgsAt W (· < W.heap.size) (some ⟨N, 0, none⟩) [agC (ns.length : Nat)]) (av : Option Addr) (cv : Nat) (hv : ValsAt W av (ns.map nmV)) :
    Calls Tryz.prog 11 #[.int .i64 62, .slice (some ⟨N, 0, none⟩) 1 1, .slice av ns.length cv] W fun e w' => ∃ v, e = .returned (.tuple #[(medT (srt ns)).v, v, .bool true]) ∧ Below W.heap.size W w' := by
  have hl : (ns.map nmV).length = ns.length := List.length_map _
  have MK := median_mk ns.length (by omega) h3
  rw [← hl] at MK hb
  have := run_colX 62 _ _ ([] : List Int) (fun _ => True) (fun L : List Int => L.length ≤ 1000) (celN srtT) (fun L => medT (srt L)) (ns.map nmV) (by omega) (by omega) MK List.length rfl (fun s h => by omega) srtT_cnt srtT_nb _ 1 (-1) info62 idx62 (by simp) (by simp) (by simp) (.inr rfl) (fun a ha => by rcases List.mem_cons.1 ha with rfl | ha; exact agC_ok _ (by rw [hl]; omega) (by rw [hl]; omega); cases ha) (nmV_okT hbd) trivial W _ 1 hb av cv hv
  rw [srt_col, hl] at this
  refine this.mono fun e w' ⟨v, g1, g2, g3⟩ => ⟨v, ?_, g3⟩
  rw [g1, List.nil_append]
def extL (pf : Int → Int → Int) : List Int → Bool × Int → Int
  | [], s => s.2
  | y :: r, s => extL pf r (true, if s.1 then pf s.2 y else y)
theorem ext_col (pf : Int → Int → Int) : ∀ (ns : List Int) (s : Bool × Int), colR (celN (extT pf)) (fun s => ⟨1, s.2, no⟩) (ns.map nmV) s = (⟨1, extL pf ns s, no⟩, ns.length)
  | [], s => by simp [colR, extL]
  | y :: r, s => by
    have hst : celN (extT pf) s (nmV y) = (.on, (true, if s.1 then pf s.2 y else y)) := rfl
    rw [List.map_cons, colR, hst, extL]
    simp only
    rw [ext_col pf r _]
    simp
theorem run_least (ns : List Int) (h1 : 1 ≤ ns.length) (h3 : ns.length ≤ 300) (hbd : ∀ y ∈ ns, -9223372036854775808 ≤ y ∧ y ≤ 9223372036854775807) (W : World) (N : Nat) (hb : ArgsAt W (· < W.heap.size) (some ⟨N, 0, none⟩) [agC (ns.length : Nat)]) (av : Option Addr) (cv : Nat) (hv : ValsAt W av (ns.map nmV)) :
    Calls Tryz.prog 11 #[.int .i64 59, .slice (some ⟨N, 0, none⟩) 1 1, .slice av ns.length cv] W fun e w' => ∃ v, e = .returned (.tuple #[vV 1 (extL min ns (false, 0)) no, v, .bool true]) ∧ Below W.heap.size W w' := by
  obtain ⟨nm, hnm⟩ := nmb_ex
  have hl : (ns.map nmV).length = ns.length := List.length_map _
  rw [← hl] at hb
  have := run_col 59 _ _ _ _ _ (least_mkis nm hnm) _ _ info59 idx59 (.inr rfl) (ns.map nmV) (by omega) (by omega) (fun v hv => (nmV_ok hbd v hv).1) W _ 1 hb av cv hv
  rw [ext_col, hl] at this
  exact this.mono fun e w' ⟨v, g1, g2, g3⟩ => ⟨v, g1, g3⟩
theorem run_greatest (ns : List Int) (h1 : 1 ≤ ns.length) (h3 : ns.length ≤ 300) (hbd : ∀ y ∈ ns, -9223372036854775808 ≤ y ∧ y ≤ 9223372036854775807) (W : World) (N : Nat) (hb : ArgsAt W (· < W.heap.size) (some ⟨N, 0, none⟩) [agC (ns.length : Nat)]) (av : Option Addr) (cv : Nat) (hv : ValsAt W av (ns.map nmV)) :
    Calls Tryz.prog 11 #[.int .i64 60, .slice (some ⟨N, 0, none⟩) 1 1, .slice av ns.length cv] W fun e w' => ∃ v, e = .returned (.tuple #[vV 1 (extL max ns (false, 0)) no, v, .bool true]) ∧ Below W.heap.size W w' := by
  obtain ⟨nm, hnm⟩ := nmb_ex
  have hl : (ns.map nmV).length = ns.length := List.length_map _
  rw [← hl] at hb
  have := run_col 60 _ _ _ _ _ (greatest_mkis nm hnm) _ _ info60 idx60 (.inr rfl) (ns.map nmV) (by omega) (by omega) (fun v hv => (nmV_ok hbd v hv).1) W _ 1 hb av cv hv
  rw [ext_col, hl] at this
  exact this.mono fun e w' ⟨v, g1, g2, g3⟩ => ⟨v, g1, g3⟩
end Go.Proofs.YtchphbclaapfhaaGreatDoor
