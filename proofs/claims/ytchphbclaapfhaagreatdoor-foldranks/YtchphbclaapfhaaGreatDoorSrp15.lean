/- Package fold's ranks: what is told of a sorted list. Proved of the Go text. -/
import Derived.Test.YtchphbclaapfhaaGreatDoorSre15
namespace Go.Proofs.YtchphbclaapfhaaGreatDoor
open Go.RowKit Go.Sort
open T9 (Blk Chg)
set_option linter.unusedVariables false

theorem RowI.cells {w : World} {v : Value} {L : List Int} (h : RowI w v L) (hL : 0 < L.length) : ∃ g cap, v = .slice (some ⟨g, 0, none⟩) L.length cap ∧ ∀ (j : Nat) (x : Int), L[j]? = some x → w.cell? ⟨g, j, none⟩ = some (.int .i64 x) := by
  rcases h.2 with ⟨_, h2⟩ | ⟨g, cap, cur, rfl, hg, hb, hn, hcap, hsz, htk⟩
  · omega
  · refine ⟨g, cap, rfl, fun j x hj => ?_⟩
    have hl : j < L.length := (List.getElem?_eq_some_iff.1 hj).1
    have q := (holds_of_blockI hb (by simpa using htk) j (by simpa using hl)).1
    rw [Nat.zero_add] at q
    rw [q]
    simp [hj]
/-- What picks a number of a list. -/
structure PickIs (pick : List Int → Nat → Int) (n : Nat) : Prop where
  call : ∀ L v w (k : Nat), RowI w v L → L.length < 4611686018427387904 → 1 ≤ k → k ≤ L.length → Calls Tryz.prog n #[v, .int .i64 (k : Int)] w fun e w' => e = .returned (.int .i64 (pick L k)) ∧ Below w.heap.size w w'
  ent : ∀ args w, (callFunc n args).run Tryz.prog w = .ok (.enter n args) w
set_option maxHeartbeats 2000000 in
theorem small_pick : PickIs (fun L k => L.getD (k - 1) 0) 81 := by
  refine ⟨?_, ent_of Tryz.func81 (by kernel_rfl) (by kernel_rfl)⟩
  intro L v w k hr hl h1 h2
  obtain ⟨g, cap, rfl, hc⟩ := hr.cells (by omega)
  obtain ⟨j, rfl⟩ : ∃ j, k = j + 1 := ⟨k - 1, by omega⟩
  have a0 := hc j _ (List.getElem?_eq_getElem (show j < L.length by omega))
  have hp : L.getD (j + 1 - 1) 0 = L[j]'(by omega) := by rw [Nat.add_sub_cancel]; simp [List.getD, List.getElem?_eq_getElem (show j < L.length by omega)]
  rw [hp]
  generalize L[j]'(by omega) = x at *
  have q0 : (j : Int) < (L.length : Int) := by omega
  have hl2 : (L.length : Int) < 4611686018427387904 := by omega
  generalize L.length = n at *
  have hw := hide (Below.refl w.heap.size w)
  clear hc hr hp h1
  rw [show (((j + 1 : Nat) : Int)) = (j : Int) + 1 from by simp]
  go_enter Tryz.func81, Tryz.ntmps81
  go_wp2_with fail
  refine bodyPost_ret (by simp [results, Tryz.results81, go_sem]; try rfl) rfl ?_
  exact ⟨rfl, hw.out⟩
set_option maxHeartbeats 2000000 in
theorem large_pick : PickIs (fun L k => L.getD (L.length - k) 0) 80 := by
  refine ⟨?_, ent_of Tryz.func80 (by kernel_rfl) (by kernel_rfl)⟩
  intro L v w k hr hl h1 h2
  obtain ⟨g, cap, rfl, hc⟩ := hr.cells (by omega)
  obtain ⟨j, hj⟩ : ∃ j, L.length = j + k := ⟨L.length - k, by omega⟩
  have a0 := hc j _ (List.getElem?_eq_getElem (show j < L.length by omega))
  have hp : L.getD (L.length - k) 0 = L[j]'(by omega) := by rw [show L.length - k = j from by omega]; simp [List.getD, List.getElem?_eq_getElem (show j < L.length by omega)]
  rw [hp]
  generalize L[j]'(by omega) = x at *
  have hn : ((L.length : Nat) : Int) - (k : Int) = (j : Int) := by omega
  have q0 : (j : Int) < (L.length : Int) := by omega
  have hl2 : (L.length : Int) < 4611686018427387904 := by omega
  have k1 : (1 : Int) ≤ (k : Int) := by omega
  have k2 : (k : Int) ≤ (L.length : Int) := by omega
  generalize L.length = n at *
  have hw := hide (Below.refl w.heap.size w)
  clear hc hr hp h1 hj h2 hl
  go_enter Tryz.func80, Tryz.ntmps80
  go_wp2_with fail
  refine bodyPost_ret (by simp [results, Tryz.results80, go_sem]; try rfl) rfl ?_
  exact ⟨rfl, hw.out⟩
/-- Where ranked's variables lie. -/
def RnkW (Bq Bp nP : Nat) (k : Int) (w : World) : Prop := Blk w Bq #[.int .i64 k] 2 ∧ Blk w Bp #[.func (.func nP) #[] #[]] 103
def rnkM (Bq Bp : Nat) (k : Nat) : Prop := k = Bq ∨ k = Bp
theorem rnk_keep (Bq Bp nP : Nat) (k : Int) : KeepK (rnkM Bq Bp) (RnkW Bq Bp nP k) := by
  refine ⟨?_, ?_⟩
  · rintro w ⟨h1, h2⟩ j (rfl | rfl)
    · exact h1.lt
    · exact h2.lt
  · rintro w w' ⟨h1, h2⟩ h
    exact ⟨(h _ (.inl rfl)).trans h1, (h _ (.inr rfl)).trans h2⟩
def rnkT (pick : List Int → Nat → Int) (k : Int) (L : List Int) : Va := if k < 1 ∨ (L.length : Int) < k then ⟨4, 2, no⟩ else ⟨1, pick L k.toNat, no⟩
set_option maxHeartbeats 4000000 in
set_option maxRecDepth 100000 in
theorem rnk_tell (Bq Bp nP : Nat) (k : Int) (hk1 : -9223372036854775808 ≤ k) (hk2 : k ≤ 9223372036854775807) (pick : List Int → Nat → Int) (HP : PickIs pick nP) : TellIs (RnkW Bq Bp nP k) (rnkT pick k) 130 #[.pointer (some ⟨Bq, 0, none⟩), .pointer (some ⟨Bp, 0, none⟩)] := by
  refine ⟨?_, ent_of Tryz.func130 (by kernel_rfl) (by kernel_rfl)⟩
  intro L v w ⟨t1, t2⟩ hr hl hbd
  obtain ⟨a, n, cap, rfl, hn⟩ := hr.shapeN
  have hnl : n = L.length := hn
  have K1 := hide (step (Below.refl w.heap.size w) (vO 0 0 no))
  have hent := HP.ent
  have b1 : (w.alloc (vO 0 0 no)).cell? ⟨Bq, 0, none⟩ = some (.int .i64 k) := (t1.alloc _).at' 0
  have b2 : (w.alloc (vO 0 0 no)).cell? ⟨Bp, 0, none⟩ = some (.func (.func nP) #[] #[]) := (t2.alloc _).at' 0
  have HF := ffault_is 2
  have hn2 : (n : Int) < 4611686018427387904 := by omega
  by_cases c1 : k < 1
  · have he : rnkT pick k L = ⟨4, 2, no⟩ := if_pos (.inl c1)
    rw [he]
    clear hr hn hnl hbd t1 t2 HP he
    go_enter Tryz.func130, Tryz.ntmps130
    go_wp2_with fail
    refine (HF.out _).mono ?_
    rintro e w1 ⟨rfl, hb1⟩
    have B1 := hide (next K1.out hb1)
    have cr := hide ((O3.new w (.int .i64 0) (.int .i64 0) (.string no) 28).keep hb1)
    clear hb1 b1 b2
    have u0 := cr.out.1.1
    have u1 := cr.out.1.2.1
    have u2 := cr.out.1.2.2
    have uf := cr.out.2
    have Bq := hide (below_put3 (b := w.heap.size) B1.out (Nat.le_refl _) (.int .i64 4) (.int .i64 2) (.string no))
    replace cr := hide (cr.out.put (.int .i64 4) (.int .i64 2) (.string no))
    obtain ⟨wq, hwq⟩ : ∃ wq, put3 w1 w.heap.size (.int .i64 4) (.int .i64 2) (.string no) = wq := ⟨_, rfl⟩
    rw [hwq] at Bq cr
    unfold put3 at hwq
    have v0 := cr.out.1.1
    have v1 := cr.out.1.2.1
    have v2 := cr.out.1.2.2
    go_wp2_with fail
    refine bodyPost_ret (by simp [results, Tryz.results130, go_sem, v0, v1, v2]; try rfl) rfl ?_
    exact ⟨rfl, Bq.out⟩
  · by_cases c2 : (n : Int) < k
    · have he : rnkT pick k L = ⟨4, 2, no⟩ := if_pos (.inr (by rw [← hnl]; exact c2))
      rw [he]
      clear hr hn hnl hbd t1 t2 HP he
      go_enter Tryz.func130, Tryz.ntmps130
      go_wp2_with fail
      refine (HF.out _).mono ?_
      rintro e w1 ⟨rfl, hb1⟩
      have B1 := hide (next K1.out hb1)
      have cr := hide ((O3.new w (.int .i64 0) (.int .i64 0) (.string no) 28).keep hb1)
      clear hb1 b1 b2
      have u0 := cr.out.1.1
      have u1 := cr.out.1.2.1
      have u2 := cr.out.1.2.2
      have uf := cr.out.2
      have Bq := hide (below_put3 (b := w.heap.size) B1.out (Nat.le_refl _) (.int .i64 4) (.int .i64 2) (.string no))
      replace cr := hide (cr.out.put (.int .i64 4) (.int .i64 2) (.string no))
      obtain ⟨wq, hwq⟩ : ∃ wq, put3 w1 w.heap.size (.int .i64 4) (.int .i64 2) (.string no) = wq := ⟨_, rfl⟩
      rw [hwq] at Bq cr
      unfold put3 at hwq
      have v0 := cr.out.1.1
      have v1 := cr.out.1.2.1
      have v2 := cr.out.1.2.2
      go_wp2_with fail
      refine bodyPost_ret (by simp [results, Tryz.results130, go_sem, v0, v1, v2]; try rfl) rfl ?_
      exact ⟨rfl, Bq.out⟩
    · have he : rnkT pick k L = ⟨1, pick L k.toNat, no⟩ := if_neg (by rw [← hnl]; omega)
      rw [he]
      obtain ⟨j, rfl⟩ : ∃ j : Nat, k = (j : Int) := ⟨k.toNat, by omega⟩
      rw [Int.toNat_natCast]
      have HC := hide (HP.call L _ _ j (hr.keep K1.out) hl (by omega) (by omega))
      generalize pick L j = y at *
      have HN := fnum_is y
      clear hr hn hnl hbd t1 t2 HP he HF
      go_enter Tryz.func130, Tryz.ntmps130
      go_wp2_with fail
      refine HC.out.mono ?_
      rintro e w0 ⟨rfl, hb0⟩
      have K2 := hide (next K1.out hb0)
      have c0 := hide ((O3.new w (.int .i64 0) (.int .i64 0) (.string no) 28).keep hb0)
      clear hb0 b1 b2
      go_wp2_with fail
      refine (HN.out _).mono ?_
      rintro e w1 ⟨rfl, hb1⟩
      have B1 := hide (next K2.out hb1)
      have cr := hide (c0.out.keep hb1)
      clear hb1
      have u0 := cr.out.1.1
      have u1 := cr.out.1.2.1
      have u2 := cr.out.1.2.2
      have uf := cr.out.2
      have Bq := hide (below_put3 (b := w.heap.size) B1.out (Nat.le_refl _) (.int .i64 1) (.int .i64 y) (.string no))
      replace cr := hide (cr.out.put (.int .i64 1) (.int .i64 y) (.string no))
      obtain ⟨wq, hwq⟩ : ∃ wq, put3 w1 w.heap.size (.int .i64 1) (.int .i64 y) (.string no) = wq := ⟨_, rfl⟩
      rw [hwq] at Bq cr
      unfold put3 at hwq
      have v0 := cr.out.1.1
      have v1 := cr.out.1.2.1
      have v2 := cr.out.1.2.2
      go_wp2_with fail
      refine bodyPost_ret (by simp [results, Tryz.results130, go_sem, v0, v1, v2]; try rfl) rfl ?_
      exact ⟨rfl, Bq.out⟩
end Go.Proofs.YtchphbclaapfhaaGreatDoor
