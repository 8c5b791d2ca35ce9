/- The reference's Read: what it answers, proved of the Go text; it answers as package whole's does. -/
import Derived.Test.YtfhgljepnieigaaGreatDoorRefC
import Derived.Test.YtfhgljepnieigaaGreatDoorBaJ
import Derived.Test.YtfhgljepnieigaaGreatDoorBgnJ
import Derived.Deep.RegionWith
namespace Go.Proofs.YtfhgljepnieigaaGreatDoor
open Go.RowKit Go.Sort
set_option linter.unusedVariables false

theorem isN_abs (s : Bool) (m z : Int) (h : IsN s false m z) (hz : 0 ≤ z) : m = z := by
  obtain ⟨h0, h1, h2, -⟩ := h
  have := h2 rfl
  unfold sval at this
  cases s <;> simp at this <;> omega
theorem isN_ten : IsN false false 10 10 := isN_plain false 10 (by decide) (by decide)

set_option maxHeartbeats 2000000 in
theorem refRead_empty (s : ByteArray) (w : World) (hs : s.size ≤ maxLen) (hp : ¬ 0 < s.size)  :
    Calls Tryz.prog 147 #[.string s] w fun e w' => e = .returned (.tuple #[.int .i64 0, .int .i64 12]) ∧ Below w.heap.size w w' := by
  unfold maxLen at hs
  have z : s.size = 0 := by omega
  have z1 : ((s.size : Int) == 0) = true := by rw [beq_iff_eq]; omega
  have z2 : ¬ (0 : Int) < s.size := by omega
  go_enter Tryz.func147, Tryz.ntmps147
  go_wp2
  go_ret2
  exact ⟨rfl, Below.refl _ _⟩

set_option maxHeartbeats 2000000 in
theorem refRead_lead (s : ByteArray) (w : World) (hs : s.size ≤ maxLen) (hp : 0 < s.size) (h1 : ((s[0].toNat : Int) == 45) = false) (h2 : ((s[0].toNat : Int) == 48) = true) (h0 : (s.toList == [48]) = false)  :
    Calls Tryz.prog 147 #[.string s] w fun e w' => e = .returned (.tuple #[.int .i64 0, .int .i64 12]) ∧ Below w.heap.size w w' := by
  unfold maxLen at hs
  have n1 := toList_ne s hp
  have n2 := isEmpty_ne s hp
  have n3 : (0 : Int) < s.size := by omega
  have n4 : ((s.size : Int) == 0) = false := by rw [beq_eq_false_iff_ne]; omega
  go_enter Tryz.func147, Tryz.ntmps147
  go_wp2
  go_ret2
  exact ⟨rfl, Below.refl _ _⟩

set_option maxHeartbeats 2000000 in
theorem refRead_signnil (s : ByteArray) (t : ByteArray) (w : World) (hs : s.size ≤ maxLen) (hp : 0 < s.size) (h1 : ((s[0].toNat : Int) == 45) = true) (ht : s.extract 1 s.size = t) (tp : ¬ 0 < t.size)  :
    Calls Tryz.prog 147 #[.string s] w fun e w' => e = .returned (.tuple #[.int .i64 0, .int .i64 12]) ∧ Below w.heap.size w w' := by
  unfold maxLen at hs
  have n3 : (0 : Int) < s.size := by omega
  have hle : (1 : Int) ≤ s.size := by omega
  have htm : t.size ≤ 9223372036854775807 := by rw [← ht]; simp; omega
  have m3 : ((t.size : Int) == 0) = true := by rw [beq_iff_eq]; omega
  clear tp
  go_enter Tryz.func147, Tryz.ntmps147
  go_wp2
  go_ret2
  exact ⟨rfl, Below.refl _ _⟩

set_option maxHeartbeats 2000000 in
theorem refRead_signlead (s : ByteArray) (t : ByteArray) (w : World) (hs : s.size ≤ maxLen) (hp : 0 < s.size) (h1 : ((s[0].toNat : Int) == 45) = true) (ht : s.extract 1 s.size = t) (tp : 0 < t.size) (h2 : ((t[0].toNat : Int) == 48) = true) (h0 : (s.toList == [48]) = false)  :
    Calls Tryz.prog 147 #[.string s] w fun e w' => e = .returned (.tuple #[.int .i64 0, .int .i64 12]) ∧ Below w.heap.size w w' := by
  unfold maxLen at hs
  have n3 : (0 : Int) < s.size := by omega
  have hle : (1 : Int) ≤ s.size := by omega
  have htm : t.size ≤ 9223372036854775807 := by rw [← ht]; simp; omega
  have m3 : ((t.size : Int) == 0) = false := by rw [beq_eq_false_iff_ne]; omega
  have m4 : (0 : Int) < t.size := by omega
  go_enter Tryz.func147, Tryz.ntmps147
  go_wp2
  go_ret2
  exact ⟨rfl, Below.refl _ _⟩

set_option maxHeartbeats 2000000 in
theorem refRead_badbare (s : ByteArray) (w : World) (hs : s.size ≤ maxLen) (hp : 0 < s.size) (h1 : ((s[0].toNat : Int) == 45) = false) (h2 : ((s[0].toNat : Int) == 48) = false) (HD : Hid (dgs s.data.toList = false))  :
    Calls Tryz.prog 147 #[.string s] w fun e w' => e = .returned (.tuple #[.int .i64 0, .int .i64 12]) ∧ Below w.heap.size w w' := by
  unfold maxLen at hs
  have n1 := toList_ne s hp
  have n2 := isEmpty_ne s hp
  have n3 : (0 : Int) < s.size := by omega
  have n4 : ((s.size : Int) == 0) = false := by rw [beq_eq_false_iff_ne]; omega
  go_enter Tryz.func147, Tryz.ntmps147
  go_wp2
  go_loop [5] (fun i => ∃ k : Nat, k ≤ s.size ∧ i = .int .i64 k ∧ Hid (dgs (s.data.toList.take k) = true)) (fun i => s.size - (intOf i).toNat)
  case atStart => exact ⟨0, Nat.zero_le _, rfl, rfl⟩
  case round =>
    obtain ⟨k, hk, rfl, hd⟩ := hrel
    by_cases hlt : k < s.size
    · by_cases hc : 48 ≤ (s[k].toNat : Int) ∧ (s[k].toNat : Int) ≤ 57
      · have HS := hide (dgs_step s k hlt hd.out hc)
        obtain ⟨hc1, hc2⟩ := hc
        go_wp2
        go_round
        case rel => exact ⟨k + 1, by omega, by go_num, HS.out⟩
        case measure => simp [intOf]; omega
      · by_cases hc1 : 48 ≤ (s[k].toNat : Int)
        · have hc2 : 57 < (s[k].toNat : Int) := by omega
          clear hc
          go_wp2
          go_ret2
          exact ⟨rfl, Below.refl _ _⟩
        · have hc2 : (s[k].toNat : Int) < 48 := by omega
          clear hc hc1
          go_wp2
          go_ret2
          exact ⟨rfl, Below.refl _ _⟩
    · exfalso
      have := hd.out
      rw [take_all s k (by omega)] at this
      rw [HD.out] at this
      cases this

set_option maxHeartbeats 2000000 in
theorem refRead_badsign (s : ByteArray) (t : ByteArray) (w : World) (hs : s.size ≤ maxLen) (hp : 0 < s.size) (h1 : ((s[0].toNat : Int) == 45) = true) (ht : s.extract 1 s.size = t) (tp : 0 < t.size) (h2 : ((t[0].toNat : Int) == 48) = false) (HD : Hid (dgs t.data.toList = false))  :
    Calls Tryz.prog 147 #[.string s] w fun e w' => e = .returned (.tuple #[.int .i64 0, .int .i64 12]) ∧ Below w.heap.size w w' := by
  unfold maxLen at hs
  have n3 : (0 : Int) < s.size := by omega
  have hle : (1 : Int) ≤ s.size := by omega
  have htm : t.size ≤ 9223372036854775807 := by rw [← ht]; simp; omega
  have m3 : ((t.size : Int) == 0) = false := by rw [beq_eq_false_iff_ne]; omega
  have m4 : (0 : Int) < t.size := by omega
  go_enter Tryz.func147, Tryz.ntmps147
  go_wp2
  go_loop [5] (fun i => ∃ k : Nat, k ≤ t.size ∧ i = .int .i64 k ∧ Hid (dgs (t.data.toList.take k) = true)) (fun i => t.size - (intOf i).toNat)
  case atStart => exact ⟨0, Nat.zero_le _, rfl, rfl⟩
  case round =>
    obtain ⟨k, hk, rfl, hd⟩ := hrel
    by_cases hlt : k < t.size
    · by_cases hc : 48 ≤ (t[k].toNat : Int) ∧ (t[k].toNat : Int) ≤ 57
      · have HS := hide (dgs_step t k hlt hd.out hc)
        obtain ⟨hc1, hc2⟩ := hc
        go_wp2
        go_round
        case rel => exact ⟨k + 1, by omega, by go_num, HS.out⟩
        case measure => simp [intOf]; omega
      · by_cases hc1 : 48 ≤ (t[k].toNat : Int)
        · have hc2 : 57 < (t[k].toNat : Int) := by omega
          clear hc
          go_wp2
          go_ret2
          exact ⟨rfl, Below.refl _ _⟩
        · have hc2 : (t[k].toNat : Int) < 48 := by omega
          clear hc hc1
          go_wp2
          go_ret2
          exact ⟨rfl, Below.refl _ _⟩
    · exfalso
      have := hd.out
      rw [take_all t k (by omega)] at this
      rw [HD.out] at this
      cases this

set_option maxHeartbeats 2000000 in
theorem refRead_longbare (s : ByteArray) (w : World) (hs : s.size ≤ maxLen) (hp : 0 < s.size) (h1 : ((s[0].toNat : Int) == 45) = false) (h2 : ((s[0].toNat : Int) == 48) = false) (HD : Hid (dgs s.data.toList = true)) (hl : 19 < s.size)  :
    Calls Tryz.prog 147 #[.string s] w fun e w' => e = .returned (.tuple #[.int .i64 0, .int .i64 13]) ∧ Below w.heap.size w w' := by
  unfold maxLen at hs
  have n1 := toList_ne s hp
  have n2 := isEmpty_ne s hp
  have n3 : (0 : Int) < s.size := by omega
  have n4 : ((s.size : Int) == 0) = false := by rw [beq_eq_false_iff_ne]; omega
  have n5 : (19 : Int) < s.size := by omega
  go_enter Tryz.func147, Tryz.ntmps147
  go_wp2
  go_loop [5] (fun i => ∃ k : Nat, k ≤ s.size ∧ i = .int .i64 k ∧ Hid (dgs (s.data.toList.take k) = true)) (fun i => s.size - (intOf i).toNat)
  case atStart => exact ⟨0, Nat.zero_le _, rfl, rfl⟩
  case round =>
    obtain ⟨k, hk, rfl, hd⟩ := hrel
    by_cases hlt : k < s.size
    · have hc := dgs_at s k hlt HD.out
      have hc1 : 48 ≤ (s[k].toNat : Int) := by omega
      have hc2 : (s[k].toNat : Int) ≤ 57 := by omega
      clear hc
      have HS := hide (dgs_step s k hlt hd.out ⟨hc1, hc2⟩)
      go_wp2
      go_round
      case rel => exact ⟨k + 1, by omega, by go_num, HS.out⟩
      case measure => simp [intOf]; omega
    · clear hd
      go_wp2
      go_ret2
      exact ⟨rfl, Below.refl _ _⟩

set_option maxHeartbeats 2000000 in
theorem refRead_longsign (s : ByteArray) (t : ByteArray) (w : World) (hs : s.size ≤ maxLen) (hp : 0 < s.size) (h1 : ((s[0].toNat : Int) == 45) = true) (ht : s.extract 1 s.size = t) (tp : 0 < t.size) (h2 : ((t[0].toNat : Int) == 48) = false) (HD : Hid (dgs t.data.toList = true)) (hl : 19 < t.size)  :
    Calls Tryz.prog 147 #[.string s] w fun e w' => e = .returned (.tuple #[.int .i64 0, .int .i64 13]) ∧ Below w.heap.size w w' := by
  unfold maxLen at hs
  have n3 : (0 : Int) < s.size := by omega
  have hle : (1 : Int) ≤ s.size := by omega
  have htm : t.size ≤ 9223372036854775807 := by rw [← ht]; simp; omega
  have m3 : ((t.size : Int) == 0) = false := by rw [beq_eq_false_iff_ne]; omega
  have m4 : (0 : Int) < t.size := by omega
  have n5 : (19 : Int) < t.size := by omega
  go_enter Tryz.func147, Tryz.ntmps147
  go_wp2
  go_loop [5] (fun i => ∃ k : Nat, k ≤ t.size ∧ i = .int .i64 k ∧ Hid (dgs (t.data.toList.take k) = true)) (fun i => t.size - (intOf i).toNat)
  case atStart => exact ⟨0, Nat.zero_le _, rfl, rfl⟩
  case round =>
    obtain ⟨k, hk, rfl, hd⟩ := hrel
    by_cases hlt : k < t.size
    · have hc := dgs_at t k hlt HD.out
      have hc1 : 48 ≤ (t[k].toNat : Int) := by omega
      have hc2 : (t[k].toNat : Int) ≤ 57 := by omega
      clear hc
      have HS := hide (dgs_step t k hlt hd.out ⟨hc1, hc2⟩)
      go_wp2
      go_round
      case rel => exact ⟨k + 1, by omega, by go_num, HS.out⟩
      case measure => simp [intOf]; omega
    · clear hd
      go_wp2
      go_ret2
      exact ⟨rfl, Below.refl _ _⟩

set_option maxHeartbeats 2000000 in
theorem refRead_bare (s : ByteArray) (x e0 : Int) (w : World) (hs : s.size ≤ maxLen) (hp : 0 < s.size) (h1 : ((s[0].toNat : Int) == 45) = false) (h2 : ((s[0].toNat : Int) == 48) = false) (HD : Hid (dgs s.data.toList = true)) (hl : s.size ≤ 19) (HT : Hid (∀ w, Calls Tryz.prog 155 #[num false false (val s.data.toList : Int)] w fun e w' => e = .returned (.tuple #[.int .i64 x, .int .i64 e0]) ∧ Below w.heap.size w w'))  :
    Calls Tryz.prog 147 #[.string s] w fun e w' => e = .returned (.tuple #[.int .i64 x, .int .i64 e0]) ∧ Below w.heap.size w w' := by
  unfold maxLen at hs
  have n1 := toList_ne s hp
  have n2 := isEmpty_ne s hp
  have n3 : (0 : Int) < s.size := by omega
  have n4 : ((s.size : Int) == 0) = false := by rw [beq_eq_false_iff_ne]; omega
  have n5 : ¬ (19 : Int) < s.size := by omega
  have HT10 := hide isN_ten
  go_enter Tryz.func147, Tryz.ntmps147
  go_wp2
  go_loop [5] (fun i => ∃ k : Nat, k ≤ s.size ∧ i = .int .i64 k ∧ Hid (dgs (s.data.toList.take k) = true)) (fun i => s.size - (intOf i).toNat)
  case atStart => exact ⟨0, Nat.zero_le _, rfl, rfl⟩
  case round =>
    obtain ⟨k, hk, rfl, hd⟩ := hrel
    by_cases hlt : k < s.size
    · have hc := dgs_at s k hlt HD.out
      have hc1 : 48 ≤ (s[k].toNat : Int) := by omega
      have hc2 : (s[k].toNat : Int) ≤ 57 := by omega
      clear hc
      have HS := hide (dgs_step s k hlt hd.out ⟨hc1, hc2⟩)
      go_wp2
      go_round
      case rel => exact ⟨k + 1, by omega, by go_num, HS.out⟩
      case measure => simp [intOf]; omega
    · clear hd
      go_wp2
      go_loopw [7] (fun i wr => ∃ (k : Nat) (v : Nat) (s' : Bool) (m : Int), k ≤ s.size ∧ i = .int .i64 k ∧ Hid (v = val (s.data.toList.take k)) ∧ Hid (IsN s' false m v) ∧ wr.cell? ⟨w.heap.size, 0, none⟩ = some (.bool s') ∧ wr.cell? ⟨w.heap.size, 1, none⟩ = some (.bool false) ∧ wr.cell? ⟨w.heap.size, 2, none⟩ = some (.int .u64 m) ∧ wr.frozen? ⟨w.heap.size, 0, none⟩ = false ∧ wr.frozen? ⟨w.heap.size, 1, none⟩ = false ∧ wr.frozen? ⟨w.heap.size, 2, none⟩ = false ∧ w.heap.size < wr.heap.size ∧ Hid (Below w.heap.size w wr)) (fun i _ => s.size - (intOf i).toNat)
      case atStart =>
        refine ⟨0, 0, false, 0, Nat.zero_le _, rfl, hide rfl, hide (isN_plain false 0 (by decide) (by decide)), ?_, ?_, ?_, ?_, ?_, ?_, ?_, ?_⟩
        any_goals go_simp
        exact hide ((Below.refl _ _).alloc (Nat.le_refl _) _)
      case round =>
        obtain ⟨k, v, s', m, hk, rfl, Hv, Hn, c0, c1, c2, f0, f1, f2, hsz, Hb⟩ := hrel
        by_cases hlt : k < s.size
        · obtain ⟨d1, d2⟩ := dgs_at s k hlt HD.out
          have hvl : v < 10 ^ k := by
            have h1 := val_lt (s.data.toList.take k) (dgs_all _ k HD.out)
            rw [← Hv.out, List.length_take, ← Lib.size_eq, Nat.min_eq_left hk] at h1
            exact h1
          have hpk : 10 ^ k ≤ 10 ^ 18 := Nat.pow_le_pow_right (by decide) (by omega)
          have hv18 : v < 1000000000000000000 := by omega
          clear hvl hpk
          have Hx : Hid (v * 10 + (s[k].toNat - 48) = val (s.data.toList.take (k + 1))) := by rw [take_snoc s k hlt, val_snoc, ← Hv.out]; rfl
          have d1' : 48 ≤ (s[k].toNat : Int) := by omega
          have d2' : (s[k].toNat : Int) ≤ 57 := by omega
          have Hd : Hid (IsN false false (IntKind.u64.wrap (IntKind.u8.wrap ((s[k].toNat : Int) - 48))) ((s[k].toNat : Int) - 48)) := by
            have e : IntKind.u64.wrap (IntKind.u8.wrap ((s[k].toNat : Int) - 48)) = (s[k].toNat : Int) - 48 := by rw [IntKind.wrap_u64, IntKind.wrap_u8]; omega
            rw [e]
            exact hide (isN_plain false _ (by omega) (by omega))
          have he : (v : Int) * 10 + ((s[k].toNat : Int) - 48) = ((v * 10 + (s[k].toNat - 48) : Nat) : Int) := by omega
          have He := hide he
          have hlim : (v : Int) * 10 + ((s[k].toNat : Int) - 48) < 18446744073709551616 := by rw [he]; omega
          have hlim0 : 0 ≤ (v : Int) * 10 + ((s[k].toNat : Int) - 48) := by rw [he]; omega
          clear he
          have HL := hide hlim
          have HL0 := hide hlim0
          clear hlim hlim0
          go_wp2
          go_region_with (first
            | (go_at_call 154; refine (product_is _ _ _ _ _ _ _ Hn.out HT10.out).mono ?_; rintro e w1 ⟨r, o, c, rfl, hn1, hb1⟩; obtain rfl : o = false := (by cases o; rfl; have h3 := hn1.2.2.2 rfl; omega); have Hp := hide hn1; have q1 : Below wr.heap.size wr w1 := Below.trans (by go_grown) (hb1.mono (by simp)); have Hq1 := hide q1; clear hn1 hb1 q1)
            | (go_at_call 152; refine (sum_is _ _ _ _ _ _ _ Hp.out Hd.out).mono ?_; rintro e w2 ⟨r2, o2, c3, rfl, hn2, hb2⟩; obtain rfl : o2 = false := (by cases o2; rfl; have h3 := hn2.2.2.2 rfl; have h5 := HL.out; have h6 := HL0.out; omega); have Hn2 := hide hn2; have q : Below wr.heap.size wr w2 := Below.trans Hq1.out (hb2.mono Hq1.out.size); have y0 := (q.cell (p := ⟨w.heap.size, 0, none⟩) hsz).trans c0; have y1 := (q.cell (p := ⟨w.heap.size, 1, none⟩) hsz).trans c1; have y2 := (q.cell (p := ⟨w.heap.size, 2, none⟩) hsz).trans c2; have x0 := (q.frozen (p := ⟨w.heap.size, 0, none⟩) hsz).trans f0; have x1 := (q.frozen (p := ⟨w.heap.size, 1, none⟩) hsz).trans f1; have x2 := (q.frozen (p := ⟨w.heap.size, 2, none⟩) hsz).trans f2; have Hq := hide q; clear hn2 hb2 q))
          all_goals
            have zq := Hq.out.size
            have hw2 : w.heap.size ≤ wr.heap.size := by omega
            have hz3 : w.heap.size < (((w2.setCell ⟨w.heap.size, 0, none⟩ (.bool r2)).setCell ⟨w.heap.size, 1, none⟩ (.bool false)).setCell ⟨w.heap.size, 2, none⟩ (.int .u64 c3)).heap.size := by simp; omega
            have e0 : (((w2.setCell ⟨w.heap.size, 0, none⟩ (.bool r2)).setCell ⟨w.heap.size, 1, none⟩ (.bool false)).setCell ⟨w.heap.size, 2, none⟩ (.int .u64 c3)).cell? ⟨w.heap.size, 0, none⟩ = some (.bool r2) := by go_simp
            have e1 : (((w2.setCell ⟨w.heap.size, 0, none⟩ (.bool r2)).setCell ⟨w.heap.size, 1, none⟩ (.bool false)).setCell ⟨w.heap.size, 2, none⟩ (.int .u64 c3)).cell? ⟨w.heap.size, 1, none⟩ = some (.bool false) := by go_simp
            have e2 : (((w2.setCell ⟨w.heap.size, 0, none⟩ (.bool r2)).setCell ⟨w.heap.size, 1, none⟩ (.bool false)).setCell ⟨w.heap.size, 2, none⟩ (.int .u64 c3)).cell? ⟨w.heap.size, 2, none⟩ = some (.int .u64 c3) := by go_simp
            have g0 : (((w2.setCell ⟨w.heap.size, 0, none⟩ (.bool r2)).setCell ⟨w.heap.size, 1, none⟩ (.bool false)).setCell ⟨w.heap.size, 2, none⟩ (.int .u64 c3)).frozen? ⟨w.heap.size, 0, none⟩ = false := by go_simp
            have g1 : (((w2.setCell ⟨w.heap.size, 0, none⟩ (.bool r2)).setCell ⟨w.heap.size, 1, none⟩ (.bool false)).setCell ⟨w.heap.size, 2, none⟩ (.int .u64 c3)).frozen? ⟨w.heap.size, 1, none⟩ = false := by go_simp
            have g2 : (((w2.setCell ⟨w.heap.size, 0, none⟩ (.bool r2)).setCell ⟨w.heap.size, 1, none⟩ (.bool false)).setCell ⟨w.heap.size, 2, none⟩ (.int .u64 c3)).frozen? ⟨w.heap.size, 2, none⟩ = false := by go_simp
            have k3 : Below w.heap.size w (((w2.setCell ⟨w.heap.size, 0, none⟩ (.bool r2)).setCell ⟨w.heap.size, 1, none⟩ (.bool false)).setCell ⟨w.heap.size, 2, none⟩ (.int .u64 c3)) := Below.setCell (Below.setCell (Below.setCell (Hb.out.trans (Hq.out.mono hw2)) (Nat.le_refl _) _) (Nat.le_refl _) _) (Nat.le_refl _) _
            have Hk3 := hide k3
            have HE : Hid (IsN r2 false c3 ((v * 10 + (s[k].toNat - 48) : Nat) : Int)) := by rw [← He.out]; exact Hn2
            have E0 := hide e0
            have E1 := hide e1
            have E2 := hide e2
            have G0 := hide g0
            have G1 := hide g1
            have G2 := hide g2
            have HZ := hide hz3
            clear e0 e1 e2 g0 g1 g2 hz3 k3
            go_wp2
            go_roundw
            case rel => exact ⟨k + 1, v * 10 + (s[k].toNat - 48), r2, c3, by omega, by go_num, Hx, HE, E0.out, E1.out, E2.out, G0.out, G1.out, G2.out, HZ.out, Hk3⟩
            case measure => simp [intOf]; omega
        · have hmv : m = (val s.data.toList : Int) := by
            have h3 := isN_abs _ _ _ Hn.out (by omega)
            rw [h3, Hv.out, take_all s k (by omega)]
          subst hmv
          go_wp2_with (go_at_call 155; refine (HT.out _).mono ?_; rintro e w2 ⟨rfl, hb2⟩)
          go_ret2
          have hbs := Hb.out.size
          exact ⟨rfl, (Hb.out.setCell (Nat.le_refl _) _).trans (hb2.mono (by simp; omega))⟩

set_option maxHeartbeats 2000000 in
theorem refRead_sign (s : ByteArray) (t : ByteArray) (x e0 : Int) (w : World) (hs : s.size ≤ maxLen) (hp : 0 < s.size) (h1 : ((s[0].toNat : Int) == 45) = true) (ht : s.extract 1 s.size = t) (tp : 0 < t.size) (h2 : ((t[0].toNat : Int) == 48) = false) (HD : Hid (dgs t.data.toList = true)) (hl : t.size ≤ 19) (HT : Hid (∀ w, Calls Tryz.prog 155 #[num true false (val t.data.toList : Int)] w fun e w' => e = .returned (.tuple #[.int .i64 x, .int .i64 e0]) ∧ Below w.heap.size w w'))  :
    Calls Tryz.prog 147 #[.string s] w fun e w' => e = .returned (.tuple #[.int .i64 x, .int .i64 e0]) ∧ Below w.heap.size w w' := by
  unfold maxLen at hs
  have n3 : (0 : Int) < s.size := by omega
  have hle : (1 : Int) ≤ s.size := by omega
  have htm : t.size ≤ 9223372036854775807 := by rw [← ht]; simp; omega
  have m3 : ((t.size : Int) == 0) = false := by rw [beq_eq_false_iff_ne]; omega
  have m4 : (0 : Int) < t.size := by omega
  have n5 : ¬ (19 : Int) < t.size := by omega
  have HT10 := hide isN_ten
  go_enter Tryz.func147, Tryz.ntmps147
  go_wp2
  go_loop [5] (fun i => ∃ k : Nat, k ≤ t.size ∧ i = .int .i64 k ∧ Hid (dgs (t.data.toList.take k) = true)) (fun i => t.size - (intOf i).toNat)
  case atStart => exact ⟨0, Nat.zero_le _, rfl, rfl⟩
  case round =>
    obtain ⟨k, hk, rfl, hd⟩ := hrel
    by_cases hlt : k < t.size
    · have hc := dgs_at t k hlt HD.out
      have hc1 : 48 ≤ (t[k].toNat : Int) := by omega
      have hc2 : (t[k].toNat : Int) ≤ 57 := by omega
      clear hc
      have HS := hide (dgs_step t k hlt hd.out ⟨hc1, hc2⟩)
      go_wp2
      go_round
      case rel => exact ⟨k + 1, by omega, by go_num, HS.out⟩
      case measure => simp [intOf]; omega
    · clear hd
      go_wp2
      go_loopw [7] (fun i wr => ∃ (k : Nat) (v : Nat) (s' : Bool) (m : Int), k ≤ t.size ∧ i = .int .i64 k ∧ Hid (v = val (t.data.toList.take k)) ∧ Hid (IsN s' false m v) ∧ wr.cell? ⟨w.heap.size, 0, none⟩ = some (.bool s') ∧ wr.cell? ⟨w.heap.size, 1, none⟩ = some (.bool false) ∧ wr.cell? ⟨w.heap.size, 2, none⟩ = some (.int .u64 m) ∧ wr.frozen? ⟨w.heap.size, 0, none⟩ = false ∧ wr.frozen? ⟨w.heap.size, 1, none⟩ = false ∧ wr.frozen? ⟨w.heap.size, 2, none⟩ = false ∧ w.heap.size < wr.heap.size ∧ Hid (Below w.heap.size w wr)) (fun i _ => t.size - (intOf i).toNat)
      case atStart =>
        refine ⟨0, 0, false, 0, Nat.zero_le _, rfl, hide rfl, hide (isN_plain false 0 (by decide) (by decide)), ?_, ?_, ?_, ?_, ?_, ?_, ?_, ?_⟩
        any_goals go_simp
        exact hide ((Below.refl _ _).alloc (Nat.le_refl _) _)
      case round =>
        obtain ⟨k, v, s', m, hk, rfl, Hv, Hn, c0, c1, c2, f0, f1, f2, hsz, Hb⟩ := hrel
        by_cases hlt : k < t.size
        · obtain ⟨d1, d2⟩ := dgs_at t k hlt HD.out
          have hvl : v < 10 ^ k := by
            have h1 := val_lt (t.data.toList.take k) (dgs_all _ k HD.out)
            rw [← Hv.out, List.length_take, ← Lib.size_eq, Nat.min_eq_left hk] at h1
            exact h1
          have hpk : 10 ^ k ≤ 10 ^ 18 := Nat.pow_le_pow_right (by decide) (by omega)
          have hv18 : v < 1000000000000000000 := by omega
          clear hvl hpk
          have Hx : Hid (v * 10 + (t[k].toNat - 48) = val (t.data.toList.take (k + 1))) := by rw [take_snoc t k hlt, val_snoc, ← Hv.out]; rfl
          have d1' : 48 ≤ (t[k].toNat : Int) := by omega
          have d2' : (t[k].toNat : Int) ≤ 57 := by omega
          have Hd : Hid (IsN false false (IntKind.u64.wrap (IntKind.u8.wrap ((t[k].toNat : Int) - 48))) ((t[k].toNat : Int) - 48)) := by
            have e : IntKind.u64.wrap (IntKind.u8.wrap ((t[k].toNat : Int) - 48)) = (t[k].toNat : Int) - 48 := by rw [IntKind.wrap_u64, IntKind.wrap_u8]; omega
            rw [e]
            exact hide (isN_plain false _ (by omega) (by omega))
          have he : (v : Int) * 10 + ((t[k].toNat : Int) - 48) = ((v * 10 + (t[k].toNat - 48) : Nat) : Int) := by omega
          have He := hide he
          have hlim : (v : Int) * 10 + ((t[k].toNat : Int) - 48) < 18446744073709551616 := by rw [he]; omega
          have hlim0 : 0 ≤ (v : Int) * 10 + ((t[k].toNat : Int) - 48) := by rw [he]; omega
          clear he
          have HL := hide hlim
          have HL0 := hide hlim0
          clear hlim hlim0
          go_wp2
          go_region_with (first
            | (go_at_call 154; refine (product_is _ _ _ _ _ _ _ Hn.out HT10.out).mono ?_; rintro e w1 ⟨r, o, c, rfl, hn1, hb1⟩; obtain rfl : o = false := (by cases o; rfl; have h3 := hn1.2.2.2 rfl; omega); have Hp := hide hn1; have q1 : Below wr.heap.size wr w1 := Below.trans (by go_grown) (hb1.mono (by simp)); have Hq1 := hide q1; clear hn1 hb1 q1)
            | (go_at_call 152; refine (sum_is _ _ _ _ _ _ _ Hp.out Hd.out).mono ?_; rintro e w2 ⟨r2, o2, c3, rfl, hn2, hb2⟩; obtain rfl : o2 = false := (by cases o2; rfl; have h3 := hn2.2.2.2 rfl; have h5 := HL.out; have h6 := HL0.out; omega); have Hn2 := hide hn2; have q : Below wr.heap.size wr w2 := Below.trans Hq1.out (hb2.mono Hq1.out.size); have y0 := (q.cell (p := ⟨w.heap.size, 0, none⟩) hsz).trans c0; have y1 := (q.cell (p := ⟨w.heap.size, 1, none⟩) hsz).trans c1; have y2 := (q.cell (p := ⟨w.heap.size, 2, none⟩) hsz).trans c2; have x0 := (q.frozen (p := ⟨w.heap.size, 0, none⟩) hsz).trans f0; have x1 := (q.frozen (p := ⟨w.heap.size, 1, none⟩) hsz).trans f1; have x2 := (q.frozen (p := ⟨w.heap.size, 2, none⟩) hsz).trans f2; have Hq := hide q; clear hn2 hb2 q))
          all_goals
            have zq := Hq.out.size
            have hw2 : w.heap.size ≤ wr.heap.size := by omega
            have hz3 : w.heap.size < (((w2.setCell ⟨w.heap.size, 0, none⟩ (.bool r2)).setCell ⟨w.heap.size, 1, none⟩ (.bool false)).setCell ⟨w.heap.size, 2, none⟩ (.int .u64 c3)).heap.size := by simp; omega
            have e0 : (((w2.setCell ⟨w.heap.size, 0, none⟩ (.bool r2)).setCell ⟨w.heap.size, 1, none⟩ (.bool false)).setCell ⟨w.heap.size, 2, none⟩ (.int .u64 c3)).cell? ⟨w.heap.size, 0, none⟩ = some (.bool r2) := by go_simp
            have e1 : (((w2.setCell ⟨w.heap.size, 0, none⟩ (.bool r2)).setCell ⟨w.heap.size, 1, none⟩ (.bool false)).setCell ⟨w.heap.size, 2, none⟩ (.int .u64 c3)).cell? ⟨w.heap.size, 1, none⟩ = some (.bool false) := by go_simp
            have e2 : (((w2.setCell ⟨w.heap.size, 0, none⟩ (.bool r2)).setCell ⟨w.heap.size, 1, none⟩ (.bool false)).setCell ⟨w.heap.size, 2, none⟩ (.int .u64 c3)).cell? ⟨w.heap.size, 2, none⟩ = some (.int .u64 c3) := by go_simp
            have g0 : (((w2.setCell ⟨w.heap.size, 0, none⟩ (.bool r2)).setCell ⟨w.heap.size, 1, none⟩ (.bool false)).setCell ⟨w.heap.size, 2, none⟩ (.int .u64 c3)).frozen? ⟨w.heap.size, 0, none⟩ = false := by go_simp
            have g1 : (((w2.setCell ⟨w.heap.size, 0, none⟩ (.bool r2)).setCell ⟨w.heap.size, 1, none⟩ (.bool false)).setCell ⟨w.heap.size, 2, none⟩ (.int .u64 c3)).frozen? ⟨w.heap.size, 1, none⟩ = false := by go_simp
            have g2 : (((w2.setCell ⟨w.heap.size, 0, none⟩ (.bool r2)).setCell ⟨w.heap.size, 1, none⟩ (.bool false)).setCell ⟨w.heap.size, 2, none⟩ (.int .u64 c3)).frozen? ⟨w.heap.size, 2, none⟩ = false := by go_simp
            have k3 : Below w.heap.size w (((w2.setCell ⟨w.heap.size, 0, none⟩ (.bool r2)).setCell ⟨w.heap.size, 1, none⟩ (.bool false)).setCell ⟨w.heap.size, 2, none⟩ (.int .u64 c3)) := Below.setCell (Below.setCell (Below.setCell (Hb.out.trans (Hq.out.mono hw2)) (Nat.le_refl _) _) (Nat.le_refl _) _) (Nat.le_refl _) _
            have Hk3 := hide k3
            have HE : Hid (IsN r2 false c3 ((v * 10 + (t[k].toNat - 48) : Nat) : Int)) := by rw [← He.out]; exact Hn2
            have E0 := hide e0
            have E1 := hide e1
            have E2 := hide e2
            have G0 := hide g0
            have G1 := hide g1
            have G2 := hide g2
            have HZ := hide hz3
            clear e0 e1 e2 g0 g1 g2 hz3 k3
            go_wp2
            go_roundw
            case rel => exact ⟨k + 1, v * 10 + (t[k].toNat - 48), r2, c3, by omega, by go_num, Hx, HE, E0.out, E1.out, E2.out, G0.out, G1.out, G2.out, HZ.out, Hk3⟩
            case measure => simp [intOf]; omega
        · have hmv : m = (val t.data.toList : Int) := by
            have h3 := isN_abs _ _ _ Hn.out (by omega)
            rw [h3, Hv.out, take_all t k (by omega)]
          subst hmv
          go_wp2_with (go_at_call 155; refine (HT.out _).mono ?_; rintro e w2 ⟨rfl, hb2⟩)
          go_ret2
          have hbs := Hb.out.size
          exact ⟨rfl, (Hb.out.setCell (Nat.le_refl _) _).trans (hb2.mono (by simp; omega))⟩

set_option maxHeartbeats 2000000 in
theorem refRead_zero (s : ByteArray) (x e0 : Int) (w : World) (hs : s.size ≤ maxLen) (hp : 0 < s.size) (h1 : ((s[0].toNat : Int) == 45) = false) (h2 : ((s[0].toNat : Int) == 48) = true) (h0 : (s.toList == [48]) = true) (HD : Hid (dgs s.data.toList = true)) (hl : s.size ≤ 19) (HT : Hid (∀ w, Calls Tryz.prog 155 #[num false false (val s.data.toList : Int)] w fun e w' => e = .returned (.tuple #[.int .i64 x, .int .i64 e0]) ∧ Below w.heap.size w w'))  :
    Calls Tryz.prog 147 #[.string s] w fun e w' => e = .returned (.tuple #[.int .i64 x, .int .i64 e0]) ∧ Below w.heap.size w w' := by
  unfold maxLen at hs
  have n1 := toList_ne s hp
  have n2 := isEmpty_ne s hp
  have n3 : (0 : Int) < s.size := by omega
  have n4 : ((s.size : Int) == 0) = false := by rw [beq_eq_false_iff_ne]; omega
  have n5 : ¬ (19 : Int) < s.size := by omega
  have HT10 := hide isN_ten
  go_enter Tryz.func147, Tryz.ntmps147
  go_wp2
  go_loop [5] (fun i => ∃ k : Nat, k ≤ s.size ∧ i = .int .i64 k ∧ Hid (dgs (s.data.toList.take k) = true)) (fun i => s.size - (intOf i).toNat)
  case atStart => exact ⟨0, Nat.zero_le _, rfl, rfl⟩
  case round =>
    obtain ⟨k, hk, rfl, hd⟩ := hrel
    by_cases hlt : k < s.size
    · have hc := dgs_at s k hlt HD.out
      have hc1 : 48 ≤ (s[k].toNat : Int) := by omega
      have hc2 : (s[k].toNat : Int) ≤ 57 := by omega
      clear hc
      have HS := hide (dgs_step s k hlt hd.out ⟨hc1, hc2⟩)
      go_wp2
      go_round
      case rel => exact ⟨k + 1, by omega, by go_num, HS.out⟩
      case measure => simp [intOf]; omega
    · clear hd
      go_wp2
      go_loopw [7] (fun i wr => ∃ (k : Nat) (v : Nat) (s' : Bool) (m : Int), k ≤ s.size ∧ i = .int .i64 k ∧ Hid (v = val (s.data.toList.take k)) ∧ Hid (IsN s' false m v) ∧ wr.cell? ⟨w.heap.size, 0, none⟩ = some (.bool s') ∧ wr.cell? ⟨w.heap.size, 1, none⟩ = some (.bool false) ∧ wr.cell? ⟨w.heap.size, 2, none⟩ = some (.int .u64 m) ∧ wr.frozen? ⟨w.heap.size, 0, none⟩ = false ∧ wr.frozen? ⟨w.heap.size, 1, none⟩ = false ∧ wr.frozen? ⟨w.heap.size, 2, none⟩ = false ∧ w.heap.size < wr.heap.size ∧ Hid (Below w.heap.size w wr)) (fun i _ => s.size - (intOf i).toNat)
      case atStart =>
        refine ⟨0, 0, false, 0, Nat.zero_le _, rfl, hide rfl, hide (isN_plain false 0 (by decide) (by decide)), ?_, ?_, ?_, ?_, ?_, ?_, ?_, ?_⟩
        any_goals go_simp
        exact hide ((Below.refl _ _).alloc (Nat.le_refl _) _)
      case round =>
        obtain ⟨k, v, s', m, hk, rfl, Hv, Hn, c0, c1, c2, f0, f1, f2, hsz, Hb⟩ := hrel
        by_cases hlt : k < s.size
        · obtain ⟨d1, d2⟩ := dgs_at s k hlt HD.out
          have hvl : v < 10 ^ k := by
            have h1 := val_lt (s.data.toList.take k) (dgs_all _ k HD.out)
            rw [← Hv.out, List.length_take, ← Lib.size_eq, Nat.min_eq_left hk] at h1
            exact h1
          have hpk : 10 ^ k ≤ 10 ^ 18 := Nat.pow_le_pow_right (by decide) (by omega)
          have hv18 : v < 1000000000000000000 := by omega
          clear hvl hpk
          have Hx : Hid (v * 10 + (s[k].toNat - 48) = val (s.data.toList.take (k + 1))) := by rw [take_snoc s k hlt, val_snoc, ← Hv.out]; rfl
          have d1' : 48 ≤ (s[k].toNat : Int) := by omega
          have d2' : (s[k].toNat : Int) ≤ 57 := by omega
          have Hd : Hid (IsN false false (IntKind.u64.wrap (IntKind.u8.wrap ((s[k].toNat : Int) - 48))) ((s[k].toNat : Int) - 48)) := by
            have e : IntKind.u64.wrap (IntKind.u8.wrap ((s[k].toNat : Int) - 48)) = (s[k].toNat : Int) - 48 := by rw [IntKind.wrap_u64, IntKind.wrap_u8]; omega
            rw [e]
            exact hide (isN_plain false _ (by omega) (by omega))
          have he : (v : Int) * 10 + ((s[k].toNat : Int) - 48) = ((v * 10 + (s[k].toNat - 48) : Nat) : Int) := by omega
          have He := hide he
          have hlim : (v : Int) * 10 + ((s[k].toNat : Int) - 48) < 18446744073709551616 := by rw [he]; omega
          have hlim0 : 0 ≤ (v : Int) * 10 + ((s[k].toNat : Int) - 48) := by rw [he]; omega
          clear he
          have HL := hide hlim
          have HL0 := hide hlim0
          clear hlim hlim0
          go_wp2
          go_region_with (first
            | (go_at_call 154; refine (product_is _ _ _ _ _ _ _ Hn.out HT10.out).mono ?_; rintro e w1 ⟨r, o, c, rfl, hn1, hb1⟩; obtain rfl : o = false := (by cases o; rfl; have h3 := hn1.2.2.2 rfl; omega); have Hp := hide hn1; have q1 : Below wr.heap.size wr w1 := Below.trans (by go_grown) (hb1.mono (by simp)); have Hq1 := hide q1; clear hn1 hb1 q1)
            | (go_at_call 152; refine (sum_is _ _ _ _ _ _ _ Hp.out Hd.out).mono ?_; rintro e w2 ⟨r2, o2, c3, rfl, hn2, hb2⟩; obtain rfl : o2 = false := (by cases o2; rfl; have h3 := hn2.2.2.2 rfl; have h5 := HL.out; have h6 := HL0.out; omega); have Hn2 := hide hn2; have q : Below wr.heap.size wr w2 := Below.trans Hq1.out (hb2.mono Hq1.out.size); have y0 := (q.cell (p := ⟨w.heap.size, 0, none⟩) hsz).trans c0; have y1 := (q.cell (p := ⟨w.heap.size, 1, none⟩) hsz).trans c1; have y2 := (q.cell (p := ⟨w.heap.size, 2, none⟩) hsz).trans c2; have x0 := (q.frozen (p := ⟨w.heap.size, 0, none⟩) hsz).trans f0; have x1 := (q.frozen (p := ⟨w.heap.size, 1, none⟩) hsz).trans f1; have x2 := (q.frozen (p := ⟨w.heap.size, 2, none⟩) hsz).trans f2; have Hq := hide q; clear hn2 hb2 q))
          all_goals
            have zq := Hq.out.size
            have hw2 : w.heap.size ≤ wr.heap.size := by omega
            have hz3 : w.heap.size < (((w2.setCell ⟨w.heap.size, 0, none⟩ (.bool r2)).setCell ⟨w.heap.size, 1, none⟩ (.bool false)).setCell ⟨w.heap.size, 2, none⟩ (.int .u64 c3)).heap.size := by simp; omega
            have e0 : (((w2.setCell ⟨w.heap.size, 0, none⟩ (.bool r2)).setCell ⟨w.heap.size, 1, none⟩ (.bool false)).setCell ⟨w.heap.size, 2, none⟩ (.int .u64 c3)).cell? ⟨w.heap.size, 0, none⟩ = some (.bool r2) := by go_simp
            have e1 : (((w2.setCell ⟨w.heap.size, 0, none⟩ (.bool r2)).setCell ⟨w.heap.size, 1, none⟩ (.bool false)).setCell ⟨w.heap.size, 2, none⟩ (.int .u64 c3)).cell? ⟨w.heap.size, 1, none⟩ = some (.bool false) := by go_simp
            have e2 : (((w2.setCell ⟨w.heap.size, 0, none⟩ (.bool r2)).setCell ⟨w.heap.size, 1, none⟩ (.bool false)).setCell ⟨w.heap.size, 2, none⟩ (.int .u64 c3)).cell? ⟨w.heap.size, 2, none⟩ = some (.int .u64 c3) := by go_simp
            have g0 : (((w2.setCell ⟨w.heap.size, 0, none⟩ (.bool r2)).setCell ⟨w.heap.size, 1, none⟩ (.bool false)).setCell ⟨w.heap.size, 2, none⟩ (.int .u64 c3)).frozen? ⟨w.heap.size, 0, none⟩ = false := by go_simp
            have g1 : (((w2.setCell ⟨w.heap.size, 0, none⟩ (.bool r2)).setCell ⟨w.heap.size, 1, none⟩ (.bool false)).setCell ⟨w.heap.size, 2, none⟩ (.int .u64 c3)).frozen? ⟨w.heap.size, 1, none⟩ = false := by go_simp
            have g2 : (((w2.setCell ⟨w.heap.size, 0, none⟩ (.bool r2)).setCell ⟨w.heap.size, 1, none⟩ (.bool false)).setCell ⟨w.heap.size, 2, none⟩ (.int .u64 c3)).frozen? ⟨w.heap.size, 2, none⟩ = false := by go_simp
            have k3 : Below w.heap.size w (((w2.setCell ⟨w.heap.size, 0, none⟩ (.bool r2)).setCell ⟨w.heap.size, 1, none⟩ (.bool false)).setCell ⟨w.heap.size, 2, none⟩ (.int .u64 c3)) := Below.setCell (Below.setCell (Below.setCell (Hb.out.trans (Hq.out.mono hw2)) (Nat.le_refl _) _) (Nat.le_refl _) _) (Nat.le_refl _) _
            have Hk3 := hide k3
            have HE : Hid (IsN r2 false c3 ((v * 10 + (s[k].toNat - 48) : Nat) : Int)) := by rw [← He.out]; exact Hn2
            have E0 := hide e0
            have E1 := hide e1
            have E2 := hide e2
            have G0 := hide g0
            have G1 := hide g1
            have G2 := hide g2
            have HZ := hide hz3
            clear e0 e1 e2 g0 g1 g2 hz3 k3
            go_wp2
            go_roundw
            case rel => exact ⟨k + 1, v * 10 + (s[k].toNat - 48), r2, c3, by omega, by go_num, Hx, HE, E0.out, E1.out, E2.out, G0.out, G1.out, G2.out, HZ.out, Hk3⟩
            case measure => simp [intOf]; omega
        · have hmv : m = (val s.data.toList : Int) := by
            have h3 := isN_abs _ _ _ Hn.out (by omega)
            rw [h3, Hv.out, take_all s k (by omega)]
          subst hmv
          go_wp2_with (go_at_call 155; refine (HT.out _).mono ?_; rintro e w2 ⟨rfl, hb2⟩)
          go_ret2
          have hbs := Hb.out.size
          exact ⟨rfl, (Hb.out.setCell (Nat.le_refl _) _).trans (hb2.mono (by simp; omega))⟩
end Go.Proofs.YtfhgljepnieigaaGreatDoor
