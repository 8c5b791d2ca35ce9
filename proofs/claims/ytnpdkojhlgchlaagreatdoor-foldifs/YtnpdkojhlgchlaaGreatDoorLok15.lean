/- Package fold's lookDown of a number, the third column of a table: its rule, and what makes it. Proved of the Go text. -/
import Derived.Test.YtnpdkojhlgchlaaGreatDoorMat15
import Derived.BigRegion
namespace Go.Proofs.YtnpdkojhlgchlaaGreatDoor
open Go.RowKit Go.Sort
open T9 (Blk Chg)
set_option linter.unusedVariables false

/-- Where looking's variables lie. -/
def LokS (x : Int) (m : Nat) (Bw Bt Bk Bx : Nat) (u : Unit) (mm : Nat → Prop) (w : World) : Prop := Blk w Bw #[.func (.func 128) #[] #[], .func (.func 129) #[] #[], .func (.func 130) #[] #[]] 141 ∧ Blk w Bt #[.int .i64 0, .int .i64 0, .int .i64 ((m : Int) - 1), .int .i64 2] 39 ∧ Blk w Bk #[.int .i64 3] 2 ∧ Blk w Bx #[.bool false, .int .i64 0, .int .i64 0, .int .i64 0, .int .i64 0, .int .i64 1, .int .i64 x, .string no] 41 ∧ mm = (fun k => k = Bw ∨ k = Bt ∨ k = Bk ∨ k = Bx)
theorem lok_stay (x : Int) (m : Nat) (Bw Bt Bk Bx : Nat) : Stay (LokS x m Bw Bt Bk Bx) := by
  constructor
  · intro s mm w ⟨h1, h2, h3, h4, h5⟩ k hk
    rw [h5] at hk
    rcases hk with rfl | rfl | rfl | rfl
    · exact h1.lt
    · exact h2.lt
    · exact h3.lt
    · exact h4.lt
  · intro s mm w w' ⟨h1, h2, h3, h4, h5⟩ hb
    subst h5
    exact ⟨(hb _ (.inl rfl)).trans h1, (hb _ (.inr (.inl rfl))).trans h2, (hb _ (.inr (.inr (.inl rfl)))).trans h3, (hb _ (.inr (.inr (.inr rfl)))).trans h4, rfl⟩
def lokC (x : Int) (u : Unit) (v : Va) : Stp × Unit := (if v.i == x then .bes else .on, ())
def lokE (u : Unit) (v : Va) : Stp × Unit := (.ends v, ())
def lokB (r c : Int) : Int × Int := (r, 2)
set_option maxHeartbeats 2000000 in
set_option maxRecDepth 100000 in
theorem lok1_does (x : Int) (m : Nat) (Bw Bt Bk Bx : Nat) : DoesQ (fun _ v => isI v) (LokS x m Bw Bt Bk Bx) (lokC x) 185 #[.pointer (some ⟨Bx, 0, none⟩)] := by
  refine ⟨?_, ent_of Tryz.func185 (by kernel_rfl) (by kernel_rfl)⟩
  intro u mm v w hs hv hq
  rw [no_of_int hv hq]
  generalize v.i = i
  clear hv hq v
  have hS := hide (lok_stay x m Bw Bt Bk Bx)
  have K1 := hide (step (step (Below.refl w.heap.size w) (vO 1 i no)) (stO false false 0 0 no))
  have X1 : Hid (Blk ((w.alloc (vO 1 i no)).alloc (stO false false 0 0 no)) (w.heap.size + 1) #[.bool false, .bool false, .int .i64 0, .int .i64 0, .string no] 82) := hide (T9.Blk.new1 w (vO 1 i no) _ _)
  have A1 := (hs.2.2.2.1.alloc (vO 1 i no)).alloc (stO false false 0 0 no)
  have b0 : ((w.alloc (vO 1 i no)).alloc (stO false false 0 0 no)).cell? ⟨Bx, 0, none⟩ = some (.bool false) := A1.at' 0
  have b1 : ((w.alloc (vO 1 i no)).alloc (stO false false 0 0 no)).cell? ⟨Bx, 1, none⟩ = some (.int .i64 0) := A1.at' 1
  have b2 : ((w.alloc (vO 1 i no)).alloc (stO false false 0 0 no)).cell? ⟨Bx, 2, none⟩ = some (.int .i64 0) := A1.at' 2
  have b3 : ((w.alloc (vO 1 i no)).alloc (stO false false 0 0 no)).cell? ⟨Bx, 3, none⟩ = some (.int .i64 0) := A1.at' 3
  have b4 : ((w.alloc (vO 1 i no)).alloc (stO false false 0 0 no)).cell? ⟨Bx, 4, none⟩ = some (.int .i64 0) := A1.at' 4
  have b5 : ((w.alloc (vO 1 i no)).alloc (stO false false 0 0 no)).cell? ⟨Bx, 5, none⟩ = some (.int .i64 1) := A1.at' 5
  have b6 : ((w.alloc (vO 1 i no)).alloc (stO false false 0 0 no)).cell? ⟨Bx, 6, none⟩ = some (.int .i64 x) := A1.at' 6
  have b7 : ((w.alloc (vO 1 i no)).alloc (stO false false 0 0 no)).cell? ⟨Bx, 7, none⟩ = some (.string no) := A1.at' 7
  have HS := sought_int i x
  replace hs := hide hs
  unfold lokC
  simp only
  obtain ⟨r, hr⟩ : ∃ r, (i == x) = r := ⟨_, rfl⟩
  rw [hr] at HS ⊢
  clear A1 hr
  cases r
  · go_enter Tryz.func185, Tryz.ntmps185
    go_wp2_with fail
    refine (HS.out _).mono ?_
    rintro e w5 ⟨rfl, hb5⟩
    have K5 := hide (next K1.out hb5)
    clear b0 b1 b2 b3 b4 b5 b6 b7
    have hX2 := hide (X1.out.keep hb5)
    have z0 : w5.cell? ⟨w.heap.size + 1, 0, none⟩ = some (.bool false) := hX2.out.at' 0
    have z1 : w5.cell? ⟨w.heap.size + 1, 1, none⟩ = some (.bool false) := hX2.out.at' 1
    have z2 : w5.cell? ⟨w.heap.size + 1, 2, none⟩ = some (.int .i64 0) := hX2.out.at' 2
    have z3 : w5.cell? ⟨w.heap.size + 1, 3, none⟩ = some (.int .i64 0) := hX2.out.at' 3
    have z4 : w5.cell? ⟨w.heap.size + 1, 4, none⟩ = some (.string no) := hX2.out.at' 4
    have zf := hX2.out.fr
    have h3 := blk5 hX2.out (.bool false) (.bool false) (.int .i64 0) (.int .i64 0) (.string no)
    have c3 := hide (chg5 w5 (w.heap.size + 1) (.bool false) (.bool false) (.int .i64 0) (.int .i64 0) (.string no))
    obtain ⟨w9, hw9⟩ : ∃ w9, put5 w5 (w.heap.size + 1) (.bool false) (.bool false) (.int .i64 0) (.int .i64 0) (.string no) = w9 := ⟨_, rfl⟩
    rw [hw9] at h3 c3
    unfold put5 at hw9
    have y0 : w9.cell? ⟨w.heap.size + 1, 0, none⟩ = some (.bool false) := h3.at' 0
    have y1 : w9.cell? ⟨w.heap.size + 1, 1, none⟩ = some (.bool false) := h3.at' 1
    have y2 : w9.cell? ⟨w.heap.size + 1, 2, none⟩ = some (.int .i64 0) := h3.at' 2
    have y3 : w9.cell? ⟨w.heap.size + 1, 3, none⟩ = some (.int .i64 0) := h3.at' 3
    have y4 : w9.cell? ⟨w.heap.size + 1, 4, none⟩ = some (.string no) := h3.at' 4
    replace h3 := hide h3
    go_wp2_with fail
    refine bodyPost_ret (by simp [results, Tryz.results185, go_sem, y0, y1, y2, y3, y4]; try rfl) rfl ?_
    exact ⟨rfl, end5 hS.out (Nat.le_succ _) (bel5 hS.out hs.out K5.out (Nat.le_succ _)) c3.out⟩
  · go_enter Tryz.func185, Tryz.ntmps185
    go_wp2_with fail
    refine (HS.out _).mono ?_
    rintro e w5 ⟨rfl, hb5⟩
    have K5 := hide (next K1.out hb5)
    clear b0 b1 b2 b3 b4 b5 b6 b7
    have hX2 := hide (X1.out.keep hb5)
    have z0 : w5.cell? ⟨w.heap.size + 1, 0, none⟩ = some (.bool false) := hX2.out.at' 0
    have z1 : w5.cell? ⟨w.heap.size + 1, 1, none⟩ = some (.bool false) := hX2.out.at' 1
    have z2 : w5.cell? ⟨w.heap.size + 1, 2, none⟩ = some (.int .i64 0) := hX2.out.at' 2
    have z3 : w5.cell? ⟨w.heap.size + 1, 3, none⟩ = some (.int .i64 0) := hX2.out.at' 3
    have z4 : w5.cell? ⟨w.heap.size + 1, 4, none⟩ = some (.string no) := hX2.out.at' 4
    have zf := hX2.out.fr
    have h3 := blk5 hX2.out (.bool true) (.bool false) (.int .i64 0) (.int .i64 0) (.string no)
    have c3 := hide (chg5 w5 (w.heap.size + 1) (.bool true) (.bool false) (.int .i64 0) (.int .i64 0) (.string no))
    obtain ⟨w9, hw9⟩ : ∃ w9, put5 w5 (w.heap.size + 1) (.bool true) (.bool false) (.int .i64 0) (.int .i64 0) (.string no) = w9 := ⟨_, rfl⟩
    rw [hw9] at h3 c3
    unfold put5 at hw9
    have y0 : w9.cell? ⟨w.heap.size + 1, 0, none⟩ = some (.bool true) := h3.at' 0
    have y1 : w9.cell? ⟨w.heap.size + 1, 1, none⟩ = some (.bool false) := h3.at' 1
    have y2 : w9.cell? ⟨w.heap.size + 1, 2, none⟩ = some (.int .i64 0) := h3.at' 2
    have y3 : w9.cell? ⟨w.heap.size + 1, 3, none⟩ = some (.int .i64 0) := h3.at' 3
    have y4 : w9.cell? ⟨w.heap.size + 1, 4, none⟩ = some (.string no) := h3.at' 4
    replace h3 := hide h3
    go_wp2_with fail
    refine bodyPost_ret (by simp [results, Tryz.results185, go_sem, y0, y1, y2, y3, y4]; try rfl) rfl ?_
    exact ⟨rfl, end5 hS.out (Nat.le_succ _) (bel5 hS.out hs.out K5.out (Nat.le_succ _)) c3.out⟩
set_option maxHeartbeats 1000000 in
theorem lok3_ends {σ : Type} (S : σ → (Nat → Prop) → World → Prop) : Ends S (fun _ => ⟨4, 6, no⟩) 187 #[] := by
  refine ⟨?_, ent_of Tryz.func187 (by kernel_rfl) (by kernel_rfl)⟩
  intro s m w _
  have HF := ffault_is 6
  go_enter Tryz.func187, Tryz.ntmps187
  go_wp2_with fail
  refine (HF.out _).mono ?_
  rintro e w1 ⟨rfl, hb1⟩
  have B1 := hide (next (step (Below.refl w.heap.size w) _) hb1)
  have cr := hide ((O3.new w (.int .i64 0) (.int .i64 0) (.string no) 31).keep hb1)
  have u0 := cr.out.1.1
  have u1 := cr.out.1.2.1
  have u2 := cr.out.1.2.2
  have uf := cr.out.2
  have Bq := hide (below_put3 (b := w.heap.size) B1.out (Nat.le_refl _) (.int .i64 4) (.int .i64 6) (.string no))
  replace cr := hide (cr.out.put (.int .i64 4) (.int .i64 6) (.string no))
  obtain ⟨wq, hwq⟩ : ∃ wq, put3 w1 w.heap.size (.int .i64 4) (.int .i64 6) (.string no) = wq := ⟨_, rfl⟩
  rw [hwq] at Bq cr
  unfold put3 at hwq
  have v0 := cr.out.1.1
  have v1 := cr.out.1.2.1
  have v2 := cr.out.1.2.2
  clear hb1
  go_wp2_with fail
  refine bodyPost_ret (by simp [results, Tryz.results187, go_sem, v0, v1, v2]; try rfl) rfl ?_
  exact ⟨rfl, Chg.of_below Bq.out⟩
theorem lok4_does {σ : Type} {S : σ → (Nat → Prop) → World → Prop} (hS : Stay S) : DoesQ (fun _ v => isI v) S (fun s v => (.ends v, s)) 125 #[] := by
  refine ⟨?_, ent_of Tryz.func125 (by kernel_rfl) (by kernel_rfl)⟩
  intro s mm v w hs hv hq
  obtain ⟨k, i, t⟩ := v
  exact ((endWith_is k i t).out w).mono fun e w' ⟨h1, h2⟩ => ⟨h1, mm, sm_of hS hs h2, Grw.refl _ _, Chg.of_below h2⟩
set_option maxHeartbeats 1000000 in
set_option maxRecDepth 100000 in
theorem down2_is (m : Nat) (r c : Int) : CallIs 130 #[.agg #[.int .i64 0, .int .i64 0, .int .i64 ((m : Int) - 1), .int .i64 2], .agg #[.int .i64 r, .int .i64 c], .int .i64 3] (.agg #[.int .i64 r, .int .i64 2]) := by
  intro w
  go_enter Tryz.func130, Tryz.ntmps130
  go_wp2_with fail
  go_returns
  exact ⟨rfl, by go_grown⟩
set_option maxHeartbeats 1000000 in
set_option maxRecDepth 100000 in
theorem down1_is (m : Nat) : CallIs 128 #[.agg #[.int .i64 0, .int .i64 0, .int .i64 ((m : Int) - 1), .int .i64 2]] (.agg #[.int .i64 0, .int .i64 0, .int .i64 ((m : Int) - 1), .int .i64 0]) := by
  intro w
  go_enter Tryz.func128, Tryz.ntmps128
  go_wp2_with fail
  go_returns
  exact ⟨rfl, by go_grown⟩
set_option maxHeartbeats 2000000 in
set_option maxRecDepth 100000 in
theorem lok2_bes (x : Int) (m : Nat) (Bw Bt Bk Bx : Nat) : BesIs (LokS x m Bw Bt Bk Bx) lokB 186 #[.pointer (some ⟨Bw, 0, none⟩), .pointer (some ⟨Bt, 0, none⟩), .pointer (some ⟨Bk, 0, none⟩)] := by
  refine ⟨?_, ent_of Tryz.func186 (by kernel_rfl) (by kernel_rfl)⟩
  intro u mm r c w hs
  have hent := ent_of Tryz.func130 (by kernel_rfl) (by kernel_rfl)
  have W1 := (hs.1.alloc (.cells #[.int .i64 r, .int .i64 c] 47)).alloc (.cells #[.int .i64 0, .int .i64 0] 47)
  have T1 := (hs.2.1.alloc (.cells #[.int .i64 r, .int .i64 c] 47)).alloc (.cells #[.int .i64 0, .int .i64 0] 47)
  have Q1 := (hs.2.2.1.alloc (.cells #[.int .i64 r, .int .i64 c] 47)).alloc (.cells #[.int .i64 0, .int .i64 0] 47)
  have K1 := hide (step (step (Below.refl w.heap.size w) (.cells #[.int .i64 r, .int .i64 c] 47)) (.cells #[.int .i64 0, .int .i64 0] 47))
  have X1 := hide (T9.Blk.new1 w (.cells #[.int .i64 r, .int .i64 c] 47) #[.int .i64 0, .int .i64 0] 47)
  have a1 : ((w.alloc (.cells #[.int .i64 r, .int .i64 c] 47)).alloc (.cells #[.int .i64 0, .int .i64 0] 47)).cell? ⟨Bw, 2, none⟩ = some (.func (.func 130) #[] #[]) := W1.at' 2
  have a2 : ((w.alloc (.cells #[.int .i64 r, .int .i64 c] 47)).alloc (.cells #[.int .i64 0, .int .i64 0] 47)).cell? ⟨Bk, 0, none⟩ = some (.int .i64 3) := Q1.at' 0
  have t0 : ((w.alloc (.cells #[.int .i64 r, .int .i64 c] 47)).alloc (.cells #[.int .i64 0, .int .i64 0] 47)).cell? ⟨Bt, 0, none⟩ = some (.int .i64 0) := T1.at' 0
  have t1 : ((w.alloc (.cells #[.int .i64 r, .int .i64 c] 47)).alloc (.cells #[.int .i64 0, .int .i64 0] 47)).cell? ⟨Bt, 1, none⟩ = some (.int .i64 0) := T1.at' 1
  have t2 : ((w.alloc (.cells #[.int .i64 r, .int .i64 c] 47)).alloc (.cells #[.int .i64 0, .int .i64 0] 47)).cell? ⟨Bt, 2, none⟩ = some (.int .i64 ((m : Int) - 1)) := T1.at' 2
  have t3 : ((w.alloc (.cells #[.int .i64 r, .int .i64 c] 47)).alloc (.cells #[.int .i64 0, .int .i64 0] 47)).cell? ⟨Bt, 3, none⟩ = some (.int .i64 2) := T1.at' 3
  have HD := down2_is m r c
  clear W1 T1 Q1
  go_enter Tryz.func186, Tryz.ntmps186
  go_wp2_with fail
  refine (HD.out _).mono ?_
  rintro e w5 ⟨rfl, hb5⟩
  have K5 := hide (next K1.out hb5)
  have X5 := X1.out.keep hb5
  have z0 : w5.cell? ⟨w.heap.size + 1, 0, none⟩ = some (.int .i64 0) := X5.at' 0
  have z1 : w5.cell? ⟨w.heap.size + 1, 1, none⟩ = some (.int .i64 0) := X5.at' 1
  have zf := X5.fr
  have h9 := (X5.set 0 (.int .i64 r)).set 1 (.int .i64 2)
  have c9 := hide (((Chg.refl (· = w.heap.size + 1) w5).set (w.heap.size + 1) 0 (.int .i64 r) rfl).set (w.heap.size + 1) 1 (.int .i64 2) rfl)
  obtain ⟨w9, hw9⟩ : ∃ w9, (w5.setCell ⟨w.heap.size + 1, 0, none⟩ (.int .i64 r)).setCell ⟨w.heap.size + 1, 1, none⟩ (.int .i64 2) = w9 := ⟨_, rfl⟩
  rw [hw9] at h9 c9
  have y0 : w9.cell? ⟨w.heap.size + 1, 0, none⟩ = some (.int .i64 r) := h9.at' 0
  have y1 : w9.cell? ⟨w.heap.size + 1, 1, none⟩ = some (.int .i64 2) := h9.at' 1
  replace h9 := hide h9
  clear X5 a1 a2 t0 t1 t2 t3
  go_wp2_with fail
  refine bodyPost_ret (v := .agg #[.int .i64 r, .int .i64 2]) (by simp [results, Tryz.results186, go_sem, y0, y1]; try rfl) rfl ?_
  exact ⟨rfl, bel_chg K5.out (Nat.le_succ _) c9.out⟩
end Go.Proofs.YtnpdkojhlgchlaaGreatDoor
