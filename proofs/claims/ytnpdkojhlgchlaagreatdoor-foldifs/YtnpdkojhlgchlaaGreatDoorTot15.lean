/- Package fold's sum: its rule. Proved of the Go text. -/
import Derived.Test.YtnpdkojhlgchlaaGreatDoorSum15
namespace Go.Proofs.YtnpdkojhlgchlaaGreatDoor
open Go.RowKit Go.Sort
open T9 (Blk Chg)
set_option linter.unusedVariables false

abbrev tkV (Br Bs : Nat) : Value := .func (.func 159) #[] #[.pointer (some ⟨Br, 0, none⟩), .pointer (some ⟨Bs, 0, none⟩)]
/-- Where a sum's variables lie. -/
def SumS (Bt Bs Br Bk Bl : Nat) (n : Int) (m : Nat → Prop) (w : World) : Prop :=
  Blk w Bt #[.int .i64 n] 2 ∧ Blk w Bs #[.pointer (some ⟨Bt, 0, none⟩)] 116 ∧ Blk w Br #[.func (.func 89) #[] #[]] 117 ∧ Blk w Bk #[tkV Br Bs] 114 ∧ Blk w Bl #[tkV Br Bs] 114 ∧ m = (fun k => k = Bt ∨ k = Bs ∨ k = Br ∨ k = Bk ∨ k = Bl) ∧ (Bt ≠ Bs ∧ Bt ≠ Br ∧ Bt ≠ Bk ∧ Bt ≠ Bl) ∧ -9223372036854775808 ≤ n ∧ n ≤ 9223372036854775807
theorem sum_stay (Bt Bs Br Bk Bl : Nat) : Stay (SumS Bt Bs Br Bk Bl) := by
  constructor
  · intro s m w ⟨h1, h2, h3, h4, h5, h6, _⟩ k hk
    rw [h6] at hk
    rcases hk with rfl | rfl | rfl | rfl | rfl
    · exact h1.lt
    · exact h2.lt
    · exact h3.lt
    · exact h4.lt
    · exact h5.lt
  · intro s m w w' ⟨h1, h2, h3, h4, h5, h6, h7⟩ hb
    subst h6
    exact ⟨(hb _ (.inl rfl)).trans h1, (hb _ (.inr (.inl rfl))).trans h2, (hb _ (.inr (.inr (.inl rfl)))).trans h3, (hb _ (.inr (.inr (.inr (.inl rfl))))).trans h4, (hb _ (.inr (.inr (.inr (.inr rfl))))).trans h5, rfl, h7⟩
/-- A number is added. -/
def sumT (n x : Int) : Stp × Int := if -9223372036854775808 ≤ n + x ∧ n + x ≤ 9223372036854775807 then (.on, n + x) else (.ends ⟨4, 2, no⟩, n)
theorem sumT_nb (s x : Int) : (sumT s x).1 ≠ .bes := by unfold sumT; split <;> simp
theorem end5d {σ : Type} {S : σ → (Nat → Prop) → World → Prop} (hS : Stay S) {m : Nat → Prop} {w w3 : World} {s : σ} (h : ∃ m', S s m' w3 ∧ Grw m m' w ∧ Chg m w w3) : ∃ m', S s m' w3.drew ∧ Grw m m' w ∧ Chg m w w3.drew := by
  obtain ⟨m', h1, h2, h3⟩ := h
  exact ⟨m', hS.same h1 (fun k hk => rfl), h2, drewC h3⟩
set_option maxHeartbeats 2000000 in
set_option maxRecDepth 100000 in
theorem into_tak (Bt Bs Br Bk Bl : Nat) : Tak (SumS Bt Bs Br Bk Bl) sumT 159 #[.pointer (some ⟨Br, 0, none⟩), .pointer (some ⟨Bs, 0, none⟩)] := by
  refine ⟨?_, ent_of Tryz.func159 (by kernel_rfl) (by kernel_rfl)⟩
  intro n m x w hs hx1 hx2
  obtain ⟨h1, h2, h3, h4, h5, h6, h7, h8, h9⟩ := id hs
  have K1 := hide (step (Below.refl w.heap.size w) (stO false false 0 0 no))
  have X1 : Hid (Blk (w.alloc (stO false false 0 0 no)) w.heap.size #[.bool false, .bool false, .int .i64 0, .int .i64 0, .string no] 82) := hide (Blk.new w _ _)
  have hS := hide (sum_stay Bt Bs Br Bk Bl)
  have T1 := hide (h1.keep K1.out)
  have T2 := hide (h2.keep K1.out)
  have T3 := hide (h3.keep K1.out)
  have hne : w.heap.size ≠ Bt := Nat.ne_of_gt h1.lt
  have hne' : Bt ≠ w.heap.size := Ne.symm hne
  have hmt : Hid (m Bt) := hide (by rw [h6]; exact .inl rfl)
  by_cases hf : -9223372036854775808 ≤ n + x ∧ n + x ≤ 9223372036854775807
  · have he : sumT n x = (.on, n + x) := if_pos hf
    rw [he]
    have HA := hide (fun w => add64_yes n x w h8 h9 hx1 hx2 hf.1 hf.2)
    have h7' := hide h7
    have hend : Hid (∀ w2 w3, Below w.heap.size w w2 → Blk w3 Bt #[.int .i64 (n + x)] 2 → Chg (· = Bt) w2 w3 → ∃ m', SumS Bt Bs Br Bk Bl (n + x) m' w3 ∧ Grw m m' w ∧ Chg m w w3 ∧ ¬ m' w.heap.size) := hide (fun w2 w3 hb hb3 hc => by
      refine ⟨m, ⟨hb3, hc.blk (h2.keep hb) (Ne.symm h7.1), hc.blk (h3.keep hb) (Ne.symm h7.2.1), hc.blk (h4.keep hb) (Ne.symm h7.2.2.1), hc.blk (h5.keep hb) (Ne.symm h7.2.2.2), h6, h7, hf⟩, Grw.refl _ _, (Chg.of_below hb : Chg m w w2).trans (chg_of hc (fun k e => e ▸ hmt.out)), blk_low hS.out hs (Nat.le_refl _)⟩)
    replace hs := hide hs
    generalize n + x = z at *
    clear hf h1 h2 h3 h4 h5 h6 h7 h8 h9 hx1 hx2 he
    go_enter Tryz.func159, Tryz.ntmps159
    go_upto_region 1 with fail
    obtain ⟨w1, hw1⟩ : ∃ w1, w.alloc (.cells #[.bool false, .bool false, .int .i64 0, .int .i64 0, .string no] 82) = w1 := ⟨_, rfl⟩
    simp only [stO] at K1 X1 T1 T2 T3
    rw [hw1] at K1 X1 T1 T2 T3 ⊢
    clear hw1
    have a1 : w1.cell? ⟨Br, 0, none⟩ = some (.func (.func 89) #[] #[]) := T3.out.at' 0
    have a2 : w1.cell? ⟨Bs, 0, none⟩ = some (.pointer (some ⟨Bt, 0, none⟩)) := T2.out.at' 0
    have a3 : w1.cell? ⟨Bt, 0, none⟩ = some (.int .i64 n) := T1.out.at' 0
    go_region_held (fun w' => w'.cell? ⟨Br, 0, none⟩ = some (.func (.func 89) #[] #[]) ∧ w'.cell? ⟨Bs, 0, none⟩ = some (.pointer (some ⟨Bt, 0, none⟩)) ∧ w'.cell? ⟨Bt, 0, none⟩ = some (.int .i64 n)) (go_keep) (first | (refine (HA.out _).mono ?_; rintro e w2 ⟨rfl, rfl⟩))
    clear a1 a2
    have a4 : w1.cell? ⟨Bs, 0, none⟩ = some (.pointer (some ⟨Bt, 0, none⟩)) := T2.out.at' 0
    have ft := T1.out.fr 0
    have T4 := hide (T1.out.set 0 (.int .i64 z))
    have C4 := hide ((Chg.refl (· = Bt) w1).set Bt 0 (.int .i64 z) rfl)
    have X4 := hide (C4.out.blk X1.out hne)
    obtain ⟨w4, hw4⟩ : ∃ w4, w1.setCell ⟨Bt, 0, none⟩ (.int .i64 z) = w4 := ⟨_, rfl⟩
    rw [hw4] at T4 C4 X4
    have hX2 := hide (X4.out)
    have z0 : w4.cell? ⟨w.heap.size, 0, none⟩ = some (.bool false) := hX2.out.at' 0
    have z1 : w4.cell? ⟨w.heap.size, 1, none⟩ = some (.bool false) := hX2.out.at' 1
    have z2 : w4.cell? ⟨w.heap.size, 2, none⟩ = some (.int .i64 0) := hX2.out.at' 2
    have z3 : w4.cell? ⟨w.heap.size, 3, none⟩ = some (.int .i64 0) := hX2.out.at' 3
    have z4 : w4.cell? ⟨w.heap.size, 4, none⟩ = some (.string no) := hX2.out.at' 4
    have zf := hX2.out.fr
    have h3 := blk5 hX2.out (.bool false) (.bool false) (.int .i64 0) (.int .i64 0) (.string no)
    have c3 := hide (chg5 w4 (w.heap.size) (.bool false) (.bool false) (.int .i64 0) (.int .i64 0) (.string no))
    obtain ⟨w9, hw9⟩ : ∃ w9, put5 w4 (w.heap.size) (.bool false) (.bool false) (.int .i64 0) (.int .i64 0) (.string no) = w9 := ⟨_, rfl⟩
    rw [hw9] at h3 c3
    unfold put5 at hw9
    have y0 : w9.cell? ⟨w.heap.size, 0, none⟩ = some (.bool false) := h3.at' 0
    have y1 : w9.cell? ⟨w.heap.size, 1, none⟩ = some (.bool false) := h3.at' 1
    have y2 : w9.cell? ⟨w.heap.size, 2, none⟩ = some (.int .i64 0) := h3.at' 2
    have y3 : w9.cell? ⟨w.heap.size, 3, none⟩ = some (.int .i64 0) := h3.at' 3
    have y4 : w9.cell? ⟨w.heap.size, 4, none⟩ = some (.string no) := h3.at' 4
    replace h3 := hide h3
    go_wp2_with fail
    refine bodyPost_ret (by simp [results, Tryz.results159, go_sem, y0, y1, y2, y3, y4]; try rfl) rfl ?_
    exact ⟨rfl, end5d hS.out (end5 hS.out (Nat.le_refl _) (hend.out w1 w4 K1.out T4.out C4.out) c3.out)⟩
  · have he : sumT n x = (.ends ⟨4, 2, no⟩, n) := if_neg hf
    rw [he]
    have HA := hide (fun w => add64_no n x w h8 h9 hx1 hx2 (by omega))
    have HF := ffault_is 2
    have HE := endWith_is 4 2 no
    replace hs := hide hs
    clear hf h1 h2 h3 h4 h5 h6 h7 h8 h9 hx1 hx2 he
    go_enter Tryz.func159, Tryz.ntmps159
    go_upto_region 1 with fail
    obtain ⟨w1, hw1⟩ : ∃ w1, w.alloc (.cells #[.bool false, .bool false, .int .i64 0, .int .i64 0, .string no] 82) = w1 := ⟨_, rfl⟩
    simp only [stO] at K1 X1 T1 T2 T3
    rw [hw1] at K1 X1 T1 T2 T3 ⊢
    clear hw1
    have a1 : w1.cell? ⟨Br, 0, none⟩ = some (.func (.func 89) #[] #[]) := T3.out.at' 0
    have a2 : w1.cell? ⟨Bs, 0, none⟩ = some (.pointer (some ⟨Bt, 0, none⟩)) := T2.out.at' 0
    have a3 : w1.cell? ⟨Bt, 0, none⟩ = some (.int .i64 n) := T1.out.at' 0
    go_region_held (fun w' => w'.cell? ⟨Br, 0, none⟩ = some (.func (.func 89) #[] #[]) ∧ w'.cell? ⟨Bs, 0, none⟩ = some (.pointer (some ⟨Bt, 0, none⟩)) ∧ w'.cell? ⟨Bt, 0, none⟩ = some (.int .i64 n)) (go_keep) (first | (refine (HA.out _).mono ?_; rintro e w2 ⟨rfl, rfl⟩))
    clear a1 a2 a3
    go_wp2_with fail
    refine (HF.out _).mono ?_
    rintro e w2 ⟨rfl, hb2⟩
    have K2 := hide (next K1.out.drew hb2)
    have X2 := hide (T9.Blk.keep (drewB X1.out) hb2)
    clear hb2
    go_wp2_with fail
    refine (HE.out _).mono ?_
    rintro e w3 ⟨rfl, hb3⟩
    have K3 := hide (next K2.out hb3)
    have hX2 := hide (X2.out.keep hb3)
    have z0 : w3.cell? ⟨w.heap.size, 0, none⟩ = some (.bool false) := hX2.out.at' 0
    have z1 : w3.cell? ⟨w.heap.size, 1, none⟩ = some (.bool false) := hX2.out.at' 1
    have z2 : w3.cell? ⟨w.heap.size, 2, none⟩ = some (.int .i64 0) := hX2.out.at' 2
    have z3 : w3.cell? ⟨w.heap.size, 3, none⟩ = some (.int .i64 0) := hX2.out.at' 3
    have z4 : w3.cell? ⟨w.heap.size, 4, none⟩ = some (.string no) := hX2.out.at' 4
    have zf := hX2.out.fr
    have h3 := blk5 hX2.out (.bool false) (.bool true) (.int .i64 4) (.int .i64 2) (.string no)
    have c3 := hide (chg5 w3 (w.heap.size) (.bool false) (.bool true) (.int .i64 4) (.int .i64 2) (.string no))
    obtain ⟨w9, hw9⟩ : ∃ w9, put5 w3 (w.heap.size) (.bool false) (.bool true) (.int .i64 4) (.int .i64 2) (.string no) = w9 := ⟨_, rfl⟩
    rw [hw9] at h3 c3
    unfold put5 at hw9
    have y0 : w9.cell? ⟨w.heap.size, 0, none⟩ = some (.bool false) := h3.at' 0
    have y1 : w9.cell? ⟨w.heap.size, 1, none⟩ = some (.bool true) := h3.at' 1
    have y2 : w9.cell? ⟨w.heap.size, 2, none⟩ = some (.int .i64 4) := h3.at' 2
    have y3 : w9.cell? ⟨w.heap.size, 3, none⟩ = some (.int .i64 2) := h3.at' 3
    have y4 : w9.cell? ⟨w.heap.size, 4, none⟩ = some (.string no) := h3.at' 4
    replace h3 := hide h3
    go_wp2_with fail
    refine bodyPost_ret (by simp [results, Tryz.results159, go_sem, y0, y1, y2, y3, y4]; try rfl) rfl ?_
    exact ⟨rfl, end5 hS.out (Nat.le_refl _) (bel5 hS.out hs.out K3.out (Nat.le_refl _)) c3.out⟩
end Go.Proofs.YtnpdkojhlgchlaaGreatDoor
