/- Package fold's isSought of numbers; which arguments are amiss; cmp.Or of nothing amiss. Proved of the Go text. -/
import Derived.Test.YtnpdkojhlgchlaaGreatDoorNum15
import Derived.Test.YtnpdkojhlgchlaaGreatDoorBgn15
namespace Go.Proofs.YtnpdkojhlgchlaaGreatDoor
open Go.RowKit Go.Sort
open T9 (Blk Chg)
set_option linter.unusedVariables false

def ord1 (x y : Int) : Int := if x < y then -1 else if y < x then 1 else 0
theorem ord1_lt {x y : Int} (h : x < y) : ord1 x y = -1 := if_pos h
theorem ord1_gt {x y : Int} (h : y < x) : ord1 x y = 1 := by unfold ord1; rw [if_neg (by omega), if_pos h]
theorem ord1_eq {x y : Int} (h : x = y) : ord1 x y = 0 := by unfold ord1; rw [if_neg (by omega), if_neg (by omega)]
set_option maxHeartbeats 400000 in
theorem cmpL_is (x y : Int) : CallIs 208 #[.int .i64 x, .int .i64 y] (.int .i64 (ord1 x y)) := by
  intro w
  by_cases h1 : x < y
  · have HE := hide (ord1_lt h1)
    go_enter Tryz.func208, Tryz.ntmps208
    go_wp2
    go_ret
    rw [HE.out]; exact ⟨rfl, by go_grown⟩
  · by_cases h2 : y < x
    · have HE := hide (ord1_gt h2)
      go_enter Tryz.func208, Tryz.ntmps208
      go_wp2
      go_ret
      rw [HE.out]; exact ⟨rfl, by go_grown⟩
    · have HE := hide (ord1_eq (show x = y by omega))
      go_enter Tryz.func208, Tryz.ntmps208
      go_wp2
      go_ret
      rw [HE.out]; exact ⟨rfl, by go_grown⟩
set_option maxHeartbeats 400000 in
theorem beside_self (k i k2 i2 : Int) (t t2 : ByteArray) (h : (k != 0) = true) : CallIs 204 #[vV k i t, vV k2 i2 t2] (vV k i t) := by
  intro w
  go_enter Tryz.func204, Tryz.ntmps204
  go_wp2_with fail
  go_returns
  exact ⟨rfl, by go_grown⟩
set_option maxHeartbeats 2000000 in
theorem vcmp_int (a0 a1 : Int) (a2 : ByteArray) (b0 b1 : Int) (b2 : ByteArray) (c0 c1 : Int) (c2 : ByteArray) (d1 : Int) (d2 : ByteArray) (v : Int) (hk : (c0 == 3) = false) (x0 x1 : Int) (x2 : ByteArray) (y0 y1 : Int) (y2 : ByteArray) (HA : CallIs 160 #[vV x0 x1 x2] (vV a0 a1 a2)) (HB : CallIs 160 #[vV y0 y1 y2] (vV b0 b1 b2)) (HX : CallIs 204 #[vV a0 a1 a2, vV b0 b1 b2] (vV c0 c1 c2)) (HY : CallIs 204 #[vV b0 b1 b2, vV a0 a1 a2] (vV c0 d1 d2)) (H1 : CallIs 208 #[.int .i64 c1, .int .i64 d1] (.int .i64 v)) : CallIs 184 #[vV x0 x1 x2, vV y0 y1 y2] (.int .i64 v) := by
  intro w
  go_enter Tryz.func184, Tryz.ntmps184
  try simp only [List.append]
  have ca : Hid (O3 ((w.alloc (vO x0 x1 x2)).alloc (vO y0 y1 y2)) (w.heap.size) (.int .i64 x0) (.int .i64 x1) (.string x2)) := hide (by have h0 := ((O3.new w (.int .i64 x0) (.int .i64 x1) (.string x2) 31).alloc (vO y0 y1 y2)); exact h0)
  have cb : Hid (O3 ((w.alloc (vO x0 x1 x2)).alloc (vO y0 y1 y2)) (w.heap.size + 1) (.int .i64 y0) (.int .i64 y1) (.string y2)) := hide (by have h0 := (O3.new (w.alloc (vO x0 x1 x2)) (.int .i64 y0) (.int .i64 y1) (.string y2) 31); simp only [World.size_alloc] at h0; exact h0)
  have qca10 := cell_regrown ca.out.1.1
  have qca11 := cell_regrown ca.out.1.2.1
  have qca12 := cell_regrown ca.out.1.2.2
  have qcb10 := cell_regrown cb.out.1.1
  have qcb11 := cell_regrown cb.out.1.2.1
  have qcb12 := cell_regrown cb.out.1.2.2
  have k10 := fun d' os => Calls.regrown_of (HA.out (grow (redrawn ((w.alloc (vO x0 x1 x2)).alloc (vO y0 y1 y2)) d') os))
  have k11 := fun d' os => Calls.regrown_of (HB.out (grow (redrawn ((w.alloc (vO x0 x1 x2)).alloc (vO y0 y1 y2)) d') os))
  go_wp2_with fail
  refine quiet_tail 4 (by kernel_rfl) (by kernel_rfl) ?_
  simp only [List.take_succ_cons, List.take_zero, List.drop_succ_cons, List.drop_zero]
  repeat (go_big_quiet_step (first | (with_reducible exact k10 _ _) | (with_reducible exact k11 _ _)))
  refine wpQuiet_nil ?_
  intro w1 hw1
  have hb1 : Below (((w.alloc (vO x0 x1 x2)).alloc (vO y0 y1 y2))).heap.size ((w.alloc (vO x0 x1 x2)).alloc (vO y0 y1 y2)) w1 := by obtain ⟨⟨dq, osq⟩, hq⟩ := hw1; rw [hq]; exact below_regrown _ dq osq
  clear hw1 qca10 qca11 qca12 qcb10 qcb11 qcb12 k10 k11
  have B1 := hide (next (step (step (Below.refl w.heap.size w) _) _) hb1)
  replace ca := hide (ca.out.keep hb1)
  replace cb := hide (cb.out.keep hb1)
  have caw100 := ca.out.1.1
  have caw101 := ca.out.1.2.1
  have caw102 := ca.out.1.2.2
  have caw10f := ca.out.2
  have B1p := hide (below_put3 (b := w.heap.size) (B1.out) (by omega) (.int .i64 a0) (.int .i64 a1) (.string a2))
  replace ca := hide (ca.out.put (.int .i64 a0) (.int .i64 a1) (.string a2))
  replace cb := hide (O3.other (b := w.heap.size) (u0 := .int .i64 a0) (u1 := .int .i64 a1) (u2 := .string a2) cb.out (by omega))
  obtain ⟨w1p, hw1p⟩ : ∃ w1p, put3 w1 (w.heap.size) (.int .i64 a0) (.int .i64 a1) (.string a2) = w1p := ⟨_, rfl⟩
  rw [hw1p] at B1p ca cb
  unfold put3 at hw1p
  have cbw1p00 := cb.out.1.1
  have cbw1p01 := cb.out.1.2.1
  have cbw1p02 := cb.out.1.2.2
  have cbw1p0f := cb.out.2
  have B1p := hide (below_put3 (b := w.heap.size + 1) (B1p.out) (by omega) (.int .i64 b0) (.int .i64 b1) (.string b2))
  replace ca := hide (O3.other (b := w.heap.size + 1) (u0 := .int .i64 b0) (u1 := .int .i64 b1) (u2 := .string b2) ca.out (by omega))
  replace cb := hide (cb.out.put (.int .i64 b0) (.int .i64 b1) (.string b2))
  obtain ⟨w1pp, hw1pp⟩ : ∃ w1pp, put3 w1p (w.heap.size + 1) (.int .i64 b0) (.int .i64 b1) (.string b2) = w1pp := ⟨_, rfl⟩
  rw [hw1pp] at B1p ca cb
  unfold put3 at hw1pp
  have qca20 := cell_regrown ca.out.1.1
  have qca21 := cell_regrown ca.out.1.2.1
  have qca22 := cell_regrown ca.out.1.2.2
  have qcb20 := cell_regrown cb.out.1.1
  have qcb21 := cell_regrown cb.out.1.2.1
  have qcb22 := cell_regrown cb.out.1.2.2
  have k20 := fun d' os => Calls.regrown_of (HX.out (grow (redrawn w1pp d') os))
  have k21 := fun d' os => Calls.regrown_of (HY.out (grow (redrawn w1pp d') os))
  go_wp2_with fail
  refine quiet_tail 6 (by kernel_rfl) (by kernel_rfl) ?_
  simp only [List.take_succ_cons, List.take_zero, List.drop_succ_cons, List.drop_zero]
  repeat (go_big_quiet_step (first | (with_reducible exact k20 _ _) | (with_reducible exact k21 _ _)))
  refine wpQuiet_nil ?_
  intro w2 hw2
  have hb2 : Below (w1pp).heap.size w1pp w2 := by obtain ⟨⟨dq, osq⟩, hq⟩ := hw2; rw [hq]; exact below_regrown _ dq osq
  clear hw2 qca20 qca21 qca22 qcb20 qcb21 qcb22 k20 k21
  clear caw100
  clear caw101
  clear caw102
  clear caw10f
  clear cbw1p00
  clear cbw1p01
  clear cbw1p02
  clear cbw1p0f
  have B2 := hide (next (B1p.out) hb2)
  replace ca := hide (ca.out.keep hb2)
  replace cb := hide (cb.out.keep hb2)
  have caw200 := ca.out.1.1
  have caw201 := ca.out.1.2.1
  have caw202 := ca.out.1.2.2
  have caw20f := ca.out.2
  have B2p := hide (below_put3 (b := w.heap.size) (B2.out) (by omega) (.int .i64 c0) (.int .i64 c1) (.string c2))
  replace ca := hide (ca.out.put (.int .i64 c0) (.int .i64 c1) (.string c2))
  replace cb := hide (O3.other (b := w.heap.size) (u0 := .int .i64 c0) (u1 := .int .i64 c1) (u2 := .string c2) cb.out (by omega))
  obtain ⟨w2p, hw2p⟩ : ∃ w2p, put3 w2 (w.heap.size) (.int .i64 c0) (.int .i64 c1) (.string c2) = w2p := ⟨_, rfl⟩
  rw [hw2p] at B2p ca cb
  unfold put3 at hw2p
  have cbw2p00 := cb.out.1.1
  have cbw2p01 := cb.out.1.2.1
  have cbw2p02 := cb.out.1.2.2
  have cbw2p0f := cb.out.2
  have B2p := hide (below_put3 (b := w.heap.size + 1) (B2p.out) (by omega) (.int .i64 c0) (.int .i64 d1) (.string d2))
  replace ca := hide (O3.other (b := w.heap.size + 1) (u0 := .int .i64 c0) (u1 := .int .i64 d1) (u2 := .string d2) ca.out (by omega))
  replace cb := hide (cb.out.put (.int .i64 c0) (.int .i64 d1) (.string d2))
  obtain ⟨w2pp, hw2pp⟩ : ∃ w2pp, put3 w2p (w.heap.size + 1) (.int .i64 c0) (.int .i64 d1) (.string d2) = w2pp := ⟨_, rfl⟩
  rw [hw2pp] at B2p ca cb
  unfold put3 at hw2pp
  have caw2pp00 := ca.out.1.1
  have caw2pp01 := ca.out.1.2.1
  have caw2pp02 := ca.out.1.2.2
  have cbw2pp00 := cb.out.1.1
  have cbw2pp01 := cb.out.1.2.1
  have cbw2pp02 := cb.out.1.2.2
  go_wp2_with fail
  refine (H1.out _).mono ?_
  rintro e w3 ⟨rfl, hb3⟩
  clear caw200
  clear caw201
  clear caw202
  clear caw20f
  clear cbw2p00
  clear cbw2p01
  clear cbw2p02
  clear cbw2p0f
  clear caw2pp00
  clear caw2pp01
  clear caw2pp02
  clear cbw2pp00
  clear cbw2pp01
  clear cbw2pp02
  have B3 := hide (next (B2p.out) hb3)
  replace ca := hide (ca.out.keep hb3)
  replace cb := hide (cb.out.keep hb3)
  go_wp2_with fail
  go_ret
  exact ⟨rfl, B3.out⟩
theorem ord1_zero (a b : Int) : (ord1 a b == 0) = (a == b) := by
  unfold ord1
  by_cases h1 : a < b
  · rw [if_pos h1]
    have : (a == b) = false := by simp; omega
    rw [this]; rfl
  · rw [if_neg h1]
    by_cases h2 : b < a
    · rw [if_pos h2]
      have : (a == b) = false := by simp; omega
      rw [this]; rfl
    · rw [if_neg h2]
      have : (a == b) = true := by simp; omega
      rw [this]; rfl
theorem compare_int (a b : Int) : CallIs 184 #[vV 1 a no, vV 1 b no] (.int .i64 (ord1 a b)) :=
  vcmp_int 1 a no 1 b no 1 a no b no (ord1 a b) rfl 1 a no 1 b no (sound_good (.inr (.inl ⟨rfl, rfl⟩))) (sound_good (.inr (.inl ⟨rfl, rfl⟩))) (beside_self 1 a 1 b no no rfl) (beside_self 1 b 1 a no no rfl) (cmpL_is a b)
set_option maxHeartbeats 1000000 in
set_option maxRecDepth 100000 in
theorem sought_int (a b : Int) : CallIs 124 #[vV 1 a no, agV (agN b)] (.bool (a == b)) := by
  intro w
  have HC := compare_int a b
  rw [← ord1_zero]
  generalize ord1 a b = z at *
  go_enter Tryz.func124, Tryz.ntmps124
  go_wp2_with fail
  refine (HC.out _).mono ?_
  rintro e w1 ⟨rfl, hb1⟩
  have K1 := hide (next (step (step (Below.refl w.heap.size w) (vO 1 a no)) (agO (agN b))) hb1)
  go_wp2_with fail
  go_ret
  exact ⟨rfl, K1.out⟩
set_option maxHeartbeats 1000000 in
theorem amiss_sought (b : Int) : CallIs 121 #[agV (agN b)] (.int .i64 0) := by
  intro w
  go_enter Tryz.func121, Tryz.ntmps121
  go_wp2_with fail
  go_ret
  exact ⟨rfl, by go_grown⟩
set_option maxHeartbeats 1000000 in
theorem amiss_area (t l b r : Int) (v : Va) : CallIs 122 #[agV ⟨true, t, l, b, r, v⟩] (.int .i64 0) := by
  intro w
  go_enter Tryz.func122, Tryz.ntmps122
  go_wp2_with fail
  go_ret
  exact ⟨rfl, by go_grown⟩
set_option maxHeartbeats 1000000 in
theorem asNumber_int (b : Int) : CallIs 170 #[agV (agN b)] (.tuple #[.int .i64 b, .int .i64 0]) := by
  intro w
  have HN : CallIs 95 #[vV 1 b no] (.tuple #[.int .i64 b, .int .i64 0]) := vnum_plain 1 b no rfl rfl (sound_good (.inr (.inl ⟨rfl, rfl⟩)))
  go_enter Tryz.func170, Tryz.ntmps170
  go_wp2_with fail
  refine (HN.out _).mono ?_
  rintro e w1 ⟨rfl, hb1⟩
  have K1 := hide (next (step (Below.refl w.heap.size w) (agO (agN b))) hb1)
  go_wp2_with fail
  go_ret2
  exact ⟨rfl, K1.out⟩
/-- cmp.Or of a list of zeros. -/
theorem or_zero (n : Nat) (hn : n ≤ 10) (b : Nat) (cap : Nat) (w : World) (h : ∀ j, j < n → w.cell? ⟨b, j, none⟩ = some (.int .i64 0)) : Calls Tryz.prog 120 #[.slice (some ⟨b, 0, none⟩) n cap] w fun e w' => e = .returned (.int .i64 0) ∧ w' = w := by
  replace h := hide h
  go_enter Tryz.func120, Tryz.ntmps120
  go_wp2_with fail
  go_loopw [8] (fun v wr => w = wr ∧ ∃ j : Nat, j ≤ n ∧ v = .int .i64 (j : Int)) (fun v _ => n - (intOf v).toNat)
  case atStart => exact ⟨rfl, 0, Nat.zero_le _, rfl⟩
  case round =>
    obtain ⟨rfl, j, hj, rfl⟩ := hrel
    by_cases hlt : j < n
    · have p0 : (j : Int) < (n : Int) := by omega
      have c0 : w.cell? ⟨b, 0 + j, none⟩ = some (.int .i64 0) := by rw [Nat.zero_add]; exact h.out j hlt
      have c1 := h.out j hlt
      go_wp2_with fail
      refine ⟨⟨trivial, j + 1, hlt, rfl⟩, ?_⟩
      have h1 : (intOf (.int .i64 ((j : Int) + 1))).toNat = j + 1 := rfl
      have h2 : (intOf (.int .i64 (j : Int))).toNat = j := rfl
      rw [h1, h2]
      omega
    · obtain rfl : j = n := by omega
      go_wp2_with fail
      go_ret
      exact ⟨rfl, rfl⟩
end Go.Proofs.YtnpdkojhlgchlaaGreatDoor
