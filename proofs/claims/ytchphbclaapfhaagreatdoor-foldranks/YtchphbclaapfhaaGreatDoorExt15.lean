/- Package fold's extreme, of which least and greatest are made: its rule. Proved of the Go text. -/
import Derived.Test.YtchphbclaapfhaaGreatDoorBeg15
namespace Go.Proofs.YtchphbclaapfhaaGreatDoor
open Go.RowKit Go.Sort
open T9 (Blk Chg)
set_option linter.unusedVariables false

/-- Which of two numbers is preferred. -/
structure PrefIs (pf : Int → Int → Int) (nP : Nat) : Prop where
  call : ∀ (a b : Int) (w : World), Calls Tryz.prog nP #[.int .i64 a, .int .i64 b] w fun e w' => e = .returned (.int .i64 (pf a b)) ∧ Below w.heap.size w w'
  ent : ∀ args w, (callFunc nP args).run Tryz.prog w = .ok (.enter nP args) w
theorem iteMin (x y : Int) : (if y < x then y else x) = min x y := by split <;> omega
theorem iteMax (x y : Int) : (if x < y then y else x) = max x y := by split <;> omega
set_option maxHeartbeats 1000000 in
theorem least_pref : PrefIs min 70 := by
  refine ⟨?_, ent_of Tryz.func70 (by kernel_rfl) (by kernel_rfl)⟩
  intro a b w
  have h1 := iteMin
  go_enter Tryz.func70, Tryz.ntmps70
  go_wp2_with fail
  go_ret
  exact ⟨rfl, by go_grown⟩
set_option maxHeartbeats 1000000 in
theorem greatest_pref : PrefIs max 71 := by
  refine ⟨?_, ent_of Tryz.func71 (by kernel_rfl) (by kernel_rfl)⟩
  intro a b w
  have h1 := iteMax
  go_enter Tryz.func71, Tryz.ntmps71
  go_wp2_with fail
  go_ret
  exact ⟨rfl, by go_grown⟩
theorem belN {w w2 w3 : World} {X : Nat} (hb : Below w.heap.size w w2) (hX : w.heap.size ≤ X) (hc : Chg (· = X) w2 w3) : Below w.heap.size w w3 := ⟨hc.os.trans hb.os, hc.tape.trans hb.tape, hc.output.trans hb.output, Nat.le_trans hb.size hc.size, fun k hk => (hc.block k (Nat.lt_of_lt_of_le hk hb.size) (by omega)).trans (hb.block k hk)⟩
/-- Where extreme's variables lie. -/
def ExtS (nP Bp Bb Bs Bk Bl : Nat) (s : Bool × Int) (m : Nat → Prop) (w : World) : Prop :=
  Blk w Bp #[.func (.func nP) #[] #[]] 96 ∧ Blk w Bb #[.int .i64 s.2] 2 ∧ Blk w Bs #[.bool s.1] 4 ∧ Blk w Bk #[.func (.func 124) #[] #[.pointer (some ⟨Bs, 0, none⟩), .pointer (some ⟨Bp, 0, none⟩), .pointer (some ⟨Bb, 0, none⟩)]] 88 ∧ Blk w Bl #[.func (.func 124) #[] #[.pointer (some ⟨Bs, 0, none⟩), .pointer (some ⟨Bp, 0, none⟩), .pointer (some ⟨Bb, 0, none⟩)]] 88 ∧ m = (fun k => k = Bp ∨ k = Bb ∨ k = Bs ∨ k = Bk ∨ k = Bl) ∧ (Bb ≠ Bp ∧ Bb ≠ Bs ∧ Bb ≠ Bk ∧ Bb ≠ Bl) ∧ (Bs ≠ Bp ∧ Bs ≠ Bk ∧ Bs ≠ Bl)
theorem ext_stay (nP Bp Bb Bs Bk Bl : Nat) : Stay (ExtS nP Bp Bb Bs Bk Bl) := by
  constructor
  · intro s m w ⟨h1, h2, h3, h4, h5, h6, _⟩ k hk
    rw [h6] at hk
    rcases hk with rfl | rfl | rfl | rfl | rfl
    · exact h1.lt
    · exact h2.lt
    · exact h3.lt
    · exact h4.lt
    · exact h5.lt
  · intro s m w w' ⟨h1, h2, h3, h4, h5, h6, h7⟩ hb
    subst h6
    exact ⟨(hb _ (.inl rfl)).trans h1, (hb _ (.inr (.inl rfl))).trans h2, (hb _ (.inr (.inr (.inl rfl)))).trans h3, (hb _ (.inr (.inr (.inr (.inl rfl))))).trans h4, (hb _ (.inr (.inr (.inr (.inr rfl))))).trans h5, rfl, h7⟩
def extT (pf : Int → Int → Int) (s : Bool × Int) (x : Int) : Stp × (Bool × Int) := (.on, (true, if s.1 then pf s.2 x else x))
theorem extT_nb (pf : Int → Int → Int) (s : Bool × Int) (x : Int) : (extT pf s x).1 ≠ .bes := fun h => by cases h
theorem ext_mid {nP Bp Bb Bs Bk Bl : Nat} {so : Bool} {b z : Int} {m : Nat → Prop} {w w1 w2 w3 : World} {X : Nat} (hs : ExtS nP Bp Bb Bs Bk Bl (so, b) m w) (hb : Below w.heap.size w w1) (hX : w.heap.size ≤ X) (h2 : Blk w2 Bb #[.int .i64 z] 2) (c2 : Chg (· = Bb) w1 w2) (h3 : Blk w3 Bs #[.bool true] 4) (c3 : Chg (· = Bs) w2 w3) : ∃ m', ExtS nP Bp Bb Bs Bk Bl (true, z) m' w3 ∧ Grw m m' w ∧ Chg m w w3 ∧ ¬ m' X := by
  have hl := blk_low (ext_stay nP Bp Bb Bs Bk Bl) hs hX
  obtain ⟨g1, g2, g3, g4, g5, g6, g7, g8⟩ := hs
  refine ⟨m, ⟨c3.blk (c2.blk (g1.keep hb) (Ne.symm g7.1)) (Ne.symm g8.1), c3.blk h2 g7.2.1, h3, c3.blk (c2.blk (g4.keep hb) (Ne.symm g7.2.2.1)) (Ne.symm g8.2.1), c3.blk (c2.blk (g5.keep hb) (Ne.symm g7.2.2.2)) (Ne.symm g8.2.2), g6, g7, g8⟩, Grw.refl _ _, ((Chg.of_below hb : Chg m w w1).trans (chg_of c2 (fun k e => ?_))).trans (chg_of c3 (fun k e => ?_)), hl⟩
  · rw [g6]; exact .inr (.inl e)
  · rw [g6]; exact .inr (.inr (.inl e))
set_option maxHeartbeats 2000000 in
set_option maxRecDepth 100000 in
theorem ext_tak (pf : Int → Int → Int) (nP Bp Bb Bs Bk Bl : Nat) (HP : PrefIs pf nP) : Tak (ExtS nP Bp Bb Bs Bk Bl) (extT pf) 124 #[.pointer (some ⟨Bs, 0, none⟩), .pointer (some ⟨Bp, 0, none⟩), .pointer (some ⟨Bb, 0, none⟩)] := by
  refine ⟨?_, ent_of Tryz.func124 (by kernel_rfl) (by kernel_rfl)⟩
  intro s m x w hs hx1 hx2
  obtain ⟨so, b⟩ := s
  have hent := HP.ent
  obtain ⟨h1, h2, h3, h4, h5, h6, h7, h8⟩ := id hs
  have hS := hide (ext_stay nP Bp Bb Bs Bk Bl)
  have K1 := hide (step (Below.refl w.heap.size w) (stO false false 0 0 no))
  have X1 : Hid (Blk (w.alloc (stO false false 0 0 no)) w.heap.size #[.bool false, .bool false, .int .i64 0, .int .i64 0, .string no] 79) := hide (Blk.new w _ _)
  have a1 : (w.alloc (stO false false 0 0 no)).cell? ⟨Bs, 0, none⟩ = some (.bool so) := (h3.alloc _).at' 0
  have a2 : (w.alloc (stO false false 0 0 no)).cell? ⟨Bp, 0, none⟩ = some (.func (.func nP) #[] #[]) := (h1.alloc _).at' 0
  have a3 : (w.alloc (stO false false 0 0 no)).cell? ⟨Bb, 0, none⟩ = some (.int .i64 b) := (h2.alloc _).at' 0
  have nb : Hid (w.heap.size ≠ Bb ∧ w.heap.size ≠ Bs ∧ Bb ≠ Bs) := hide ⟨Nat.ne_of_gt h2.lt, Nat.ne_of_gt h3.lt, h7.2.1⟩
  replace h2 := hide h2
  replace h3 := hide h3
  replace hs := hide hs
  unfold extT
  clear h1 h4 h5 h6 h7 h8 hx1 hx2
  cases so with
  | true =>
    have HC := hide (HP.call b x (w.alloc (stO false false 0 0 no)))
    simp only [if_true]
    obtain ⟨z, hz⟩ : ∃ z, pf b x = z := ⟨_, rfl⟩
    rw [hz] at HC ⊢
    clear hz HP
    go_enter Tryz.func124, Tryz.ntmps124
    go_wp2_with fail
    refine HC.out.mono ?_
    rintro e w1 ⟨rfl, hb1⟩
    have K2 := hide (next K1.out hb1)
    have X2 := hide (X1.out.keep hb1)
    clear a1 a2 a3 hb1
    have B2 := h2.out.keep K2.out
    have S2 := h3.out.keep K2.out
    have f1 : w1.cell? ⟨Bb, 0, none⟩ = some (.int .i64 b) := B2.at' 0
    have ff := B2.fr 0
    have B3 := hide (B2.set 0 (.int .i64 z))
    have C3 := hide ((Chg.refl (· = Bb) (w1)).set Bb 0 (.int .i64 z) rfl)
    have S3 := C3.out.blk S2 (Ne.symm nb.out.2.2)
    have X3 := C3.out.blk X2.out nb.out.1
    obtain ⟨w3, hw3⟩ : ∃ w3, (w1).setCell ⟨Bb, 0, none⟩ (.int .i64 z) = w3 := ⟨_, rfl⟩
    rw [hw3] at B3 C3 S3 X3
    have g1 : w3.cell? ⟨Bs, 0, none⟩ = some (.bool true) := S3.at' 0
    have gf := S3.fr 0
    have S4 := hide (S3.set 0 (.bool true))
    have C4 := hide ((Chg.refl (· = Bs) w3).set Bs 0 (.bool true) rfl)
    have X4 := hide (C4.out.blk X3 nb.out.2.1)
    obtain ⟨w4, hw4⟩ : ∃ w4, w3.setCell ⟨Bs, 0, none⟩ (.bool true) = w4 := ⟨_, rfl⟩
    rw [hw4] at S4 C4 X4
    clear B2 S2 S3 X3
    have hX2 := hide (X4.out)
    have z0 : w4.cell? ⟨w.heap.size, 0, none⟩ = some (.bool false) := hX2.out.at' 0
    have z1 : w4.cell? ⟨w.heap.size, 1, none⟩ = some (.bool false) := hX2.out.at' 1
    have z2 : w4.cell? ⟨w.heap.size, 2, none⟩ = some (.int .i64 0) := hX2.out.at' 2
    have z3 : w4.cell? ⟨w.heap.size, 3, none⟩ = some (.int .i64 0) := hX2.out.at' 3
    have z4 : w4.cell? ⟨w.heap.size, 4, none⟩ = some (.string no) := hX2.out.at' 4
    have zf := hX2.out.fr
    have h3 := blk5 hX2.out (.bool false) (.bool false) (.int .i64 0) (.int .i64 0) (.string no)
    have c3 := hide (chg5 w4 (w.heap.size) (.bool false) (.bool false) (.int .i64 0) (.int .i64 0) (.string no))
    obtain ⟨w9, hw9⟩ : ∃ w9, put5 w4 (w.heap.size) (.bool false) (.bool false) (.int .i64 0) (.int .i64 0) (.string no) = w9 := ⟨_, rfl⟩
    rw [hw9] at h3 c3
    unfold put5 at hw9
    have y0 : w9.cell? ⟨w.heap.size, 0, none⟩ = some (.bool false) := h3.at' 0
    have y1 : w9.cell? ⟨w.heap.size, 1, none⟩ = some (.bool false) := h3.at' 1
    have y2 : w9.cell? ⟨w.heap.size, 2, none⟩ = some (.int .i64 0) := h3.at' 2
    have y3 : w9.cell? ⟨w.heap.size, 3, none⟩ = some (.int .i64 0) := h3.at' 3
    have y4 : w9.cell? ⟨w.heap.size, 4, none⟩ = some (.string no) := h3.at' 4
    replace h3 := hide h3
    go_wp2_with fail
    refine bodyPost_ret (by simp [results, Tryz.results124, go_sem, y0, y1, y2, y3, y4]; try rfl) rfl ?_
    exact ⟨rfl, end5 hS.out (Nat.le_refl _) (ext_mid hs.out K2.out (Nat.le_refl _) B3.out C3.out S4.out C4.out) c3.out⟩
  | false =>
    simp only [Bool.false_eq_true, if_false]
    clear HP a2
    have B2 := h2.out.keep K1.out
    have S2 := h3.out.keep K1.out
    have f1 : (w.alloc (stO false false 0 0 no)).cell? ⟨Bb, 0, none⟩ = some (.int .i64 b) := B2.at' 0
    have ff := B2.fr 0
    have B3 := hide (B2.set 0 (.int .i64 x))
    have C3 := hide ((Chg.refl (· = Bb) ((w.alloc (stO false false 0 0 no)))).set Bb 0 (.int .i64 x) rfl)
    have S3 := C3.out.blk S2 (Ne.symm nb.out.2.2)
    have X3 := C3.out.blk X1.out nb.out.1
    obtain ⟨w3, hw3⟩ : ∃ w3, ((w.alloc (stO false false 0 0 no))).setCell ⟨Bb, 0, none⟩ (.int .i64 x) = w3 := ⟨_, rfl⟩
    rw [hw3] at B3 C3 S3 X3
    have g1 : w3.cell? ⟨Bs, 0, none⟩ = some (.bool false) := S3.at' 0
    have gf := S3.fr 0
    have S4 := hide (S3.set 0 (.bool true))
    have C4 := hide ((Chg.refl (· = Bs) w3).set Bs 0 (.bool true) rfl)
    have X4 := hide (C4.out.blk X3 nb.out.2.1)
    obtain ⟨w4, hw4⟩ : ∃ w4, w3.setCell ⟨Bs, 0, none⟩ (.bool true) = w4 := ⟨_, rfl⟩
    rw [hw4] at S4 C4 X4
    clear B2 S2 S3 X3
    simp only [stO] at hw3
    go_enter Tryz.func124, Tryz.ntmps124
    have hX2 := hide (X4.out)
    have z0 : w4.cell? ⟨w.heap.size, 0, none⟩ = some (.bool false) := hX2.out.at' 0
    have z1 : w4.cell? ⟨w.heap.size, 1, none⟩ = some (.bool false) := hX2.out.at' 1
    have z2 : w4.cell? ⟨w.heap.size, 2, none⟩ = some (.int .i64 0) := hX2.out.at' 2
    have z3 : w4.cell? ⟨w.heap.size, 3, none⟩ = some (.int .i64 0) := hX2.out.at' 3
    have z4 : w4.cell? ⟨w.heap.size, 4, none⟩ = some (.string no) := hX2.out.at' 4
    have zf := hX2.out.fr
    have h3 := blk5 hX2.out (.bool false) (.bool false) (.int .i64 0) (.int .i64 0) (.string no)
    have c3 := hide (chg5 w4 (w.heap.size) (.bool false) (.bool false) (.int .i64 0) (.int .i64 0) (.string no))
    obtain ⟨w9, hw9⟩ : ∃ w9, put5 w4 (w.heap.size) (.bool false) (.bool false) (.int .i64 0) (.int .i64 0) (.string no) = w9 := ⟨_, rfl⟩
    rw [hw9] at h3 c3
    unfold put5 at hw9
    have y0 : w9.cell? ⟨w.heap.size, 0, none⟩ = some (.bool false) := h3.at' 0
    have y1 : w9.cell? ⟨w.heap.size, 1, none⟩ = some (.bool false) := h3.at' 1
    have y2 : w9.cell? ⟨w.heap.size, 2, none⟩ = some (.int .i64 0) := h3.at' 2
    have y3 : w9.cell? ⟨w.heap.size, 3, none⟩ = some (.int .i64 0) := h3.at' 3
    have y4 : w9.cell? ⟨w.heap.size, 4, none⟩ = some (.string no) := h3.at' 4
    replace h3 := hide h3
    go_wp2_with fail
    refine bodyPost_ret (by simp [results, Tryz.results124, go_sem, y0, y1, y2, y3, y4]; try rfl) rfl ?_
    exact ⟨rfl, end5 hS.out (Nat.le_refl _) (ext_mid hs.out K1.out (Nat.le_refl _) B3.out C3.out S4.out C4.out) c3.out⟩
set_option maxHeartbeats 1000000 in
theorem extL_ends (nP Bp Bb Bs Bk Bl : Nat) : Ends (ExtS nP Bp Bb Bs Bk Bl) (fun s => ⟨1, s.2, no⟩) 125 #[.pointer (some ⟨Bb, 0, none⟩)] := by
  refine ⟨?_, ent_of Tryz.func125 (by kernel_rfl) (by kernel_rfl)⟩
  intro s m w hs
  obtain ⟨so, n⟩ := s
  have HN := fnum_is n
  have bt : (w.alloc (vO 0 0 no)).cell? ⟨Bb, 0, none⟩ = some (.int .i64 n) := (hs.2.1.alloc _).at' 0
  replace hs := hide hs
  go_enter Tryz.func125, Tryz.ntmps125
  go_wp2_with fail
  refine (HN.out _).mono ?_
  rintro e w1 ⟨rfl, hb1⟩
  have B1 := hide (next (step (Below.refl w.heap.size w) _) hb1)
  have cr := hide ((O3.new w (.int .i64 0) (.int .i64 0) (.string no) 28).keep hb1)
  have u0 := cr.out.1.1
  have u1 := cr.out.1.2.1
  have u2 := cr.out.1.2.2
  have uf := cr.out.2
  have Bq := hide (below_put3 (b := w.heap.size) B1.out (Nat.le_refl _) (.int .i64 1) (.int .i64 n) (.string no))
  replace cr := hide (cr.out.put (.int .i64 1) (.int .i64 n) (.string no))
  obtain ⟨wq, hwq⟩ : ∃ wq, put3 w1 w.heap.size (.int .i64 1) (.int .i64 n) (.string no) = wq := ⟨_, rfl⟩
  rw [hwq] at Bq cr
  unfold put3 at hwq
  have v0 := cr.out.1.1
  have v1 := cr.out.1.2.1
  have v2 := cr.out.1.2.2
  clear hb1 bt
  go_wp2_with fail
  refine bodyPost_ret (by simp [results, Tryz.results125, go_sem, v0, v1, v2]; try rfl) rfl ?_
  exact ⟨rfl, Chg.of_below Bq.out⟩
set_option maxHeartbeats 2000000 in
set_option maxRecDepth 100000 in
theorem extreme_is (nP : Nat) (a : Option Addr) (len cap : Nat) (w : World) : Calls Tryz.prog 69 #[.slice a len cap, .func (.func nP) #[] #[]] w fun e w' => e = .returned (.agg #[.slice a len cap, .func (.func 117) #[] #[.pointer (some ⟨w.heap.size + 4, 0, none⟩)], .func (.func 147) #[] #[.pointer (some ⟨w.heap.size + 6, 0, none⟩)], .nilFunc, .nilFunc, .func (.func 125) #[] #[.pointer (some ⟨w.heap.size + 2, 0, none⟩)]]) ∧ ExtS nP (w.heap.size) (w.heap.size + 2) (w.heap.size + 3) (w.heap.size + 4) (w.heap.size + 6) (false, 0) (fun k => k = w.heap.size ∨ k = w.heap.size + 2 ∨ k = w.heap.size + 3 ∨ k = w.heap.size + 4 ∨ k = w.heap.size + 6) w' ∧ Below w.heap.size w w' := by
  go_enter Tryz.func69, Tryz.ntmps69
  go_wp2_with fail
  refine (gathering_is _ _ _ _ _ _ _ _).mono ?_
  rintro e w1 ⟨rfl, rfl⟩
  go_wp2_with fail
  refine bodyPost_ret (v := .agg #[.slice a len cap, .func (.func 117) #[] #[.pointer (some ⟨w.heap.size + 4, 0, none⟩)], .func (.func 147) #[] #[.pointer (some ⟨w.heap.size + 6, 0, none⟩)], .nilFunc, .nilFunc, .func (.func 125) #[] #[.pointer (some ⟨w.heap.size + 2, 0, none⟩)]]) (by simp [results, Tryz.results69, go_sem]; try rfl) rfl ?_
  refine ⟨rfl, ⟨((((((blk_at _ _ (by simp) _ _).alloc _).alloc _).alloc _).alloc _).alloc _).alloc _, ((((blk_at _ _ (by simp) _ _).alloc _).alloc _).alloc _).alloc _, (((blk_at _ _ (by simp) _ _).alloc _).alloc _).alloc _, ((blk_at _ _ (by simp) _ _).alloc _).alloc _, blk_at _ _ (by simp) _ _, rfl, by omega, by omega⟩, by go_grown⟩
set_option maxHeartbeats 2000000 in
set_option maxRecDepth 100000 in
theorem least_is (a : Option Addr) (len cap : Nat) (w : World) : Calls Tryz.prog 36 #[.slice a len cap] w fun e w' => e = .returned (.agg #[.slice a len cap, .func (.func 117) #[] #[.pointer (some ⟨w.heap.size + 5, 0, none⟩)], .func (.func 147) #[] #[.pointer (some ⟨w.heap.size + 7, 0, none⟩)], .nilFunc, .nilFunc, .func (.func 125) #[] #[.pointer (some ⟨w.heap.size + 3, 0, none⟩)]]) ∧ ExtS 70 (w.heap.size + 1) (w.heap.size + 3) (w.heap.size + 4) (w.heap.size + 5) (w.heap.size + 7) (false, 0) (fun k => k = w.heap.size + 1 ∨ k = w.heap.size + 3 ∨ k = w.heap.size + 4 ∨ k = w.heap.size + 5 ∨ k = w.heap.size + 7) w' ∧ Below w.heap.size w w' := by
  have HU := extreme_is 70 a len cap (w.alloc (.cells #[.slice none 0 0, .nilFunc, .nilFunc, .nilFunc, .nilFunc, .nilFunc] 70))
  simp only [World.size_alloc, Nat.add_assoc, Nat.reduceAdd] at HU
  replace HU := hide HU
  have hS := hide (ext_stay 70 (w.heap.size + 1) (w.heap.size + 3) (w.heap.size + 4) (w.heap.size + 5) (w.heap.size + 7))
  have B0 := hide (Blk.new w #[.slice none 0 0, .nilFunc, .nilFunc, .nilFunc, .nilFunc, .nilFunc] 70)
  go_enter Tryz.func36, Tryz.ntmps36
  go_wp2_with fail
  refine HU.out.mono ?_
  rintro e w1 ⟨rfl, h1, hb1'⟩
  have hb1 : Below (w.alloc (.cells #[.slice none 0 0, .nilFunc, .nilFunc, .nilFunc, .nilFunc, .nilFunc] 70)).heap.size (w.alloc (.cells #[.slice none 0 0, .nilFunc, .nilFunc, .nilFunc, .nilFunc, .nilFunc] 70)) w1 := by rw [World.size_alloc]; exact hb1'
  clear hb1'
  have KE := hide (next (step (Below.refl w.heap.size w) (.cells #[.slice none 0 0, .nilFunc, .nilFunc, .nilFunc, .nilFunc, .nilFunc] 70)) hb1)
  have B1 := B0.out.keep hb1
  have zf := B1.fr
  have z0 : w1.cell? ⟨w.heap.size, 0, none⟩ = some (.slice none 0 0) := B1.at' 0
  have z1 : w1.cell? ⟨w.heap.size, 1, none⟩ = some (.nilFunc) := B1.at' 1
  have z2 : w1.cell? ⟨w.heap.size, 2, none⟩ = some (.nilFunc) := B1.at' 2
  have z3 : w1.cell? ⟨w.heap.size, 3, none⟩ = some (.nilFunc) := B1.at' 3
  have z4 : w1.cell? ⟨w.heap.size, 4, none⟩ = some (.nilFunc) := B1.at' 4
  have z5 : w1.cell? ⟨w.heap.size, 5, none⟩ = some (.nilFunc) := B1.at' 5
  have h9 := ((((((B1.set 0 (.slice a len cap)).set 1 (.func (.func 117) #[] #[.pointer (some ⟨w.heap.size + 5, 0, none⟩)])).set 2 (.func (.func 147) #[] #[.pointer (some ⟨w.heap.size + 7, 0, none⟩)])).set 3 .nilFunc).set 4 .nilFunc).set 5 (.func (.func 125) #[] #[.pointer (some ⟨w.heap.size + 3, 0, none⟩)]))
  have c9 := hide (((((((Chg.refl (· = w.heap.size) w1).set w.heap.size 0 (.slice a len cap) rfl).set w.heap.size 1 (.func (.func 117) #[] #[.pointer (some ⟨w.heap.size + 5, 0, none⟩)]) rfl).set w.heap.size 2 (.func (.func 147) #[] #[.pointer (some ⟨w.heap.size + 7, 0, none⟩)]) rfl).set w.heap.size 3 .nilFunc rfl).set w.heap.size 4 .nilFunc rfl).set w.heap.size 5 (.func (.func 125) #[] #[.pointer (some ⟨w.heap.size + 3, 0, none⟩)]) rfl)
  obtain ⟨w9, hw9⟩ : ∃ w9, ((((((w1.setCell ⟨w.heap.size, 0, none⟩ (.slice a len cap)).setCell ⟨w.heap.size, 1, none⟩ (.func (.func 117) #[] #[.pointer (some ⟨w.heap.size + 5, 0, none⟩)])).setCell ⟨w.heap.size, 2, none⟩ (.func (.func 147) #[] #[.pointer (some ⟨w.heap.size + 7, 0, none⟩)])).setCell ⟨w.heap.size, 3, none⟩ .nilFunc).setCell ⟨w.heap.size, 4, none⟩ .nilFunc).setCell ⟨w.heap.size, 5, none⟩ (.func (.func 125) #[] #[.pointer (some ⟨w.heap.size + 3, 0, none⟩)])) = w9 := ⟨_, rfl⟩
  rw [hw9] at h9 c9
  have y0 : w9.cell? ⟨w.heap.size, 0, none⟩ = some (.slice a len cap) := h9.at' 0
  have y1 : w9.cell? ⟨w.heap.size, 1, none⟩ = some (.func (.func 117) #[] #[.pointer (some ⟨w.heap.size + 5, 0, none⟩)]) := h9.at' 1
  have y2 : w9.cell? ⟨w.heap.size, 2, none⟩ = some (.func (.func 147) #[] #[.pointer (some ⟨w.heap.size + 7, 0, none⟩)]) := h9.at' 2
  have y3 : w9.cell? ⟨w.heap.size, 3, none⟩ = some .nilFunc := h9.at' 3
  have y4 : w9.cell? ⟨w.heap.size, 4, none⟩ = some .nilFunc := h9.at' 4
  have y5 : w9.cell? ⟨w.heap.size, 5, none⟩ = some (.func (.func 125) #[] #[.pointer (some ⟨w.heap.size + 3, 0, none⟩)]) := h9.at' 5
  replace h9 := hide h9
  replace h1 := hide h1
  clear B1 hb1
  go_wp2_with fail
  refine bodyPost_ret (v := .agg #[.slice a len cap, .func (.func 117) #[] #[.pointer (some ⟨w.heap.size + 5, 0, none⟩)], .func (.func 147) #[] #[.pointer (some ⟨w.heap.size + 7, 0, none⟩)], .nilFunc, .nilFunc, .func (.func 125) #[] #[.pointer (some ⟨w.heap.size + 3, 0, none⟩)]]) (by simp [results, Tryz.results36, go_sem, y0, y1, y2, y3, y4, y5]; try rfl) rfl ?_
  exact ⟨rfl, hS.out.same h1.out (fun k hk => c9.out.block k (hS.out.lt h1.out k hk) (by omega)), belN KE.out (Nat.le_refl _) c9.out⟩
theorem least_mkis (nm : Va → Int × Int) (hnm : NmbIs nm) : MkIs 36 (false, (0 : Int)) (givN nm (extT min)) (celN (extT min)) (fun s => ⟨1, s.2, no⟩) := by
  refine ⟨fun w a len cap => (least_is a len cap w).mono fun e w' ⟨h1, h2, h3⟩ => ?_, ent_of Tryz.func36 (by kernel_rfl) (by kernel_rfl), givN_nb (extT_nb _), celN_nb (extT_nb _)⟩
  refine ⟨_, _, _, _, _, _, _, _, h1, ⟨ext_stay _ _ _ _ _ _, ⟨_, _, rfl, extL_ends _ _ _ _ _ _⟩, ⟨_, _, rfl, ofn_does (ext_stay _ _ _ _ _ _) (extT min) _ _ (ext_tak min _ _ _ _ _ _ least_pref) _ (fun s m w h => h.2.2.2.2.1) (extT_nb _)⟩, ⟨_, _, rfl, gat_does (ext_stay _ _ _ _ _ _) nm hnm (extT min) _ _ (ext_tak min _ _ _ _ _ _ least_pref) _ (fun s m w h => h.2.2.2.1) (extT_nb _)⟩⟩, h2, fun k hk => by omega, h3⟩
set_option maxHeartbeats 2000000 in
set_option maxRecDepth 100000 in
theorem greatest_is (a : Option Addr) (len cap : Nat) (w : World) : Calls Tryz.prog 37 #[.slice a len cap] w fun e w' => e = .returned (.agg #[.slice a len cap, .func (.func 117) #[] #[.pointer (some ⟨w.heap.size + 5, 0, none⟩)], .func (.func 147) #[] #[.pointer (some ⟨w.heap.size + 7, 0, none⟩)], .nilFunc, .nilFunc, .func (.func 125) #[] #[.pointer (some ⟨w.heap.size + 3, 0, none⟩)]]) ∧ ExtS 71 (w.heap.size + 1) (w.heap.size + 3) (w.heap.size + 4) (w.heap.size + 5) (w.heap.size + 7) (false, 0) (fun k => k = w.heap.size + 1 ∨ k = w.heap.size + 3 ∨ k = w.heap.size + 4 ∨ k = w.heap.size + 5 ∨ k = w.heap.size + 7) w' ∧ Below w.heap.size w w' := by
  have HU := extreme_is 71 a len cap (w.alloc (.cells #[.slice none 0 0, .nilFunc, .nilFunc, .nilFunc, .nilFunc, .nilFunc] 70))
  simp only [World.size_alloc, Nat.add_assoc, Nat.reduceAdd] at HU
  replace HU := hide HU
  have hS := hide (ext_stay 71 (w.heap.size + 1) (w.heap.size + 3) (w.heap.size + 4) (w.heap.size + 5) (w.heap.size + 7))
  have B0 := hide (Blk.new w #[.slice none 0 0, .nilFunc, .nilFunc, .nilFunc, .nilFunc, .nilFunc] 70)
  go_enter Tryz.func37, Tryz.ntmps37
  go_wp2_with fail
  refine HU.out.mono ?_
  rintro e w1 ⟨rfl, h1, hb1'⟩
  have hb1 : Below (w.alloc (.cells #[.slice none 0 0, .nilFunc, .nilFunc, .nilFunc, .nilFunc, .nilFunc] 70)).heap.size (w.alloc (.cells #[.slice none 0 0, .nilFunc, .nilFunc, .nilFunc, .nilFunc, .nilFunc] 70)) w1 := by rw [World.size_alloc]; exact hb1'
  clear hb1'
  have KE := hide (next (step (Below.refl w.heap.size w) (.cells #[.slice none 0 0, .nilFunc, .nilFunc, .nilFunc, .nilFunc, .nilFunc] 70)) hb1)
  have B1 := B0.out.keep hb1
  have zf := B1.fr
  have z0 : w1.cell? ⟨w.heap.size, 0, none⟩ = some (.slice none 0 0) := B1.at' 0
  have z1 : w1.cell? ⟨w.heap.size, 1, none⟩ = some (.nilFunc) := B1.at' 1
  have z2 : w1.cell? ⟨w.heap.size, 2, none⟩ = some (.nilFunc) := B1.at' 2
  have z3 : w1.cell? ⟨w.heap.size, 3, none⟩ = some (.nilFunc) := B1.at' 3
  have z4 : w1.cell? ⟨w.heap.size, 4, none⟩ = some (.nilFunc) := B1.at' 4
  have z5 : w1.cell? ⟨w.heap.size, 5, none⟩ = some (.nilFunc) := B1.at' 5
  have h9 := ((((((B1.set 0 (.slice a len cap)).set 1 (.func (.func 117) #[] #[.pointer (some ⟨w.heap.size + 5, 0, none⟩)])).set 2 (.func (.func 147) #[] #[.pointer (some ⟨w.heap.size + 7, 0, none⟩)])).set 3 .nilFunc).set 4 .nilFunc).set 5 (.func (.func 125) #[] #[.pointer (some ⟨w.heap.size + 3, 0, none⟩)]))
  have c9 := hide (((((((Chg.refl (· = w.heap.size) w1).set w.heap.size 0 (.slice a len cap) rfl).set w.heap.size 1 (.func (.func 117) #[] #[.pointer (some ⟨w.heap.size + 5, 0, none⟩)]) rfl).set w.heap.size 2 (.func (.func 147) #[] #[.pointer (some ⟨w.heap.size + 7, 0, none⟩)]) rfl).set w.heap.size 3 .nilFunc rfl).set w.heap.size 4 .nilFunc rfl).set w.heap.size 5 (.func (.func 125) #[] #[.pointer (some ⟨w.heap.size + 3, 0, none⟩)]) rfl)
  obtain ⟨w9, hw9⟩ : ∃ w9, ((((((w1.setCell ⟨w.heap.size, 0, none⟩ (.slice a len cap)).setCell ⟨w.heap.size, 1, none⟩ (.func (.func 117) #[] #[.pointer (some ⟨w.heap.size + 5, 0, none⟩)])).setCell ⟨w.heap.size, 2, none⟩ (.func (.func 147) #[] #[.pointer (some ⟨w.heap.size + 7, 0, none⟩)])).setCell ⟨w.heap.size, 3, none⟩ .nilFunc).setCell ⟨w.heap.size, 4, none⟩ .nilFunc).setCell ⟨w.heap.size, 5, none⟩ (.func (.func 125) #[] #[.pointer (some ⟨w.heap.size + 3, 0, none⟩)])) = w9 := ⟨_, rfl⟩
  rw [hw9] at h9 c9
  have y0 : w9.cell? ⟨w.heap.size, 0, none⟩ = some (.slice a len cap) := h9.at' 0
  have y1 : w9.cell? ⟨w.heap.size, 1, none⟩ = some (.func (.func 117) #[] #[.pointer (some ⟨w.heap.size + 5, 0, none⟩)]) := h9.at' 1
  have y2 : w9.cell? ⟨w.heap.size, 2, none⟩ = some (.func (.func 147) #[] #[.pointer (some ⟨w.heap.size + 7, 0, none⟩)]) := h9.at' 2
  have y3 : w9.cell? ⟨w.heap.size, 3, none⟩ = some .nilFunc := h9.at' 3
  have y4 : w9.cell? ⟨w.heap.size, 4, none⟩ = some .nilFunc := h9.at' 4
  have y5 : w9.cell? ⟨w.heap.size, 5, none⟩ = some (.func (.func 125) #[] #[.pointer (some ⟨w.heap.size + 3, 0, none⟩)]) := h9.at' 5
  replace h9 := hide h9
  replace h1 := hide h1
  clear B1 hb1
  go_wp2_with fail
  refine bodyPost_ret (v := .agg #[.slice a len cap, .func (.func 117) #[] #[.pointer (some ⟨w.heap.size + 5, 0, none⟩)], .func (.func 147) #[] #[.pointer (some ⟨w.heap.size + 7, 0, none⟩)], .nilFunc, .nilFunc, .func (.func 125) #[] #[.pointer (some ⟨w.heap.size + 3, 0, none⟩)]]) (by simp [results, Tryz.results37, go_sem, y0, y1, y2, y3, y4, y5]; try rfl) rfl ?_
  exact ⟨rfl, hS.out.same h1.out (fun k hk => c9.out.block k (hS.out.lt h1.out k hk) (by omega)), belN KE.out (Nat.le_refl _) c9.out⟩
theorem greatest_mkis (nm : Va → Int × Int) (hnm : NmbIs nm) : MkIs 37 (false, (0 : Int)) (givN nm (extT max)) (celN (extT max)) (fun s => ⟨1, s.2, no⟩) := by
  refine ⟨fun w a len cap => (greatest_is a len cap w).mono fun e w' ⟨h1, h2, h3⟩ => ?_, ent_of Tryz.func37 (by kernel_rfl) (by kernel_rfl), givN_nb (extT_nb _), celN_nb (extT_nb _)⟩
  refine ⟨_, _, _, _, _, _, _, _, h1, ⟨ext_stay _ _ _ _ _ _, ⟨_, _, rfl, extL_ends _ _ _ _ _ _⟩, ⟨_, _, rfl, ofn_does (ext_stay _ _ _ _ _ _) (extT max) _ _ (ext_tak max _ _ _ _ _ _ greatest_pref) _ (fun s m w h => h.2.2.2.2.1) (extT_nb _)⟩, ⟨_, _, rfl, gat_does (ext_stay _ _ _ _ _ _) nm hnm (extT max) _ _ (ext_tak max _ _ _ _ _ _ greatest_pref) _ (fun s m w h => h.2.2.2.1) (extT_nb _)⟩⟩, h2, fun k hk => by omega, h3⟩
end Go.Proofs.YtchphbclaapfhaaGreatDoor
