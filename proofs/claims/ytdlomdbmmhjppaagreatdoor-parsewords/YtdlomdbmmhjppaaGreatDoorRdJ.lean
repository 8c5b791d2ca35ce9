/- Plain facts on whole numbers, on which the walks of package whole stand: no Go in sight. Package whole's checked sums (Add, Sub, Mul at int32, int64 and two types of one's own) answer the exact result where it fits, else 0 and false: proved of the Go text for all operands of their kind. whole.Read answers the number of a text in its one form, ErrNumber for any other text, ErrOver for a number beyond 64 bits: proved of the Go text for every text. -/
import Derived.WalkKit
import Derived.Test.YtdlomdbmmhjppaaGreatDoorRows
import Derived.WalkSpells
import Derived.WalkLawsBesides
import Derived.Test.YtdlomdbmmhjppaaGreatDoorByJ
namespace Go.Proofs.YtdlomdbmmhjppaaGreatDoor
open Go.RowKit

theorem ret_two {k : IntKind} {a b : Int} {c d : Bool} (h : a = b) (h' : c = d) : Ending.returned (.tuple #[.int k a, .bool c]) = .returned (.tuple #[.int k b, .bool d]) := by rw [h, h']

theorem ret_ii {k j : IntKind} {a b c d : Int} (h : a = b) (h' : c = d) : Ending.returned (.tuple #[.int k a, .int j c]) = .returned (.tuple #[.int k b, .int j d]) := by rw [h, h']
theorem ret_bool {a b : Bool} (h : a = b) : Ending.returned (.bool a) = .returned (.bool b) := by rw [h]

theorem mul_sign (a b : Int) (ha : a ≠ 0) (hb : b ≠ 0) : (decide (a * b < 0)) = (!(decide (a < 0) == decide (b < 0))) := by
  rw [Bool.eq_iff_iff]
  simp only [decide_eq_true_eq, Bool.not_eq_true', beq_eq_false_iff_ne, ne_eq, decide_eq_decide]
  rcases Int.lt_or_gt_of_ne ha with h1 | h1 <;> rcases Int.lt_or_gt_of_ne hb with h2 | h2
  · have := Int.mul_pos_of_neg_of_neg h1 h2; omega
  · have := Int.mul_neg_of_neg_of_pos h1 h2; omega
  · have := Int.mul_neg_of_pos_of_neg h1 h2; omega
  · have := Int.mul_pos h1 h2; omega

theorem mul_over64 (a b : Int) (ha : -9223372036854775808 ≤ a) (ha' : a ≤ 9223372036854775807) (hb : -9223372036854775808 ≤ b) (hb' : b ≤ 9223372036854775807) (zb : b ≠ 0) (h : a * b < -9223372036854775808 ∨ 9223372036854775807 < a * b)
    (hs : decide (wrap64 (a * b) < 0) = (!(decide (a < 0) == decide (b < 0)))) (hq : (wrap64 ((wrap64 (a * b)).tdiv b) != a) = false) : False := by
  have hq' : wrap64 ((wrap64 (a * b)).tdiv b) = a := by simpa using hq
  clear hq
  have hc : b * a = a * b := Int.mul_comm b a
  generalize a * b = x at *
  obtain ⟨p, hp⟩ : ∃ p, p = wrap64 x := ⟨_, rfl⟩
  rw [← hp] at hs hq'
  have hpb : -9223372036854775808 ≤ p ∧ p ≤ 9223372036854775807 ∧ ∃ k : Int, p = x + k * 18446744073709551616 := by
    rw [hp]; unfold wrap64
    refine ⟨by omega, by omega, -((x + 9223372036854775808) / 18446744073709551616), ?_⟩
    omega
  clear hp
  obtain ⟨p1, p2, k, hk⟩ := hpb
  have e := Int.mul_tdiv_add_tmod p b
  have nq : (p.tdiv b).natAbs = p.natAbs / b.natAbs := Int.natAbs_tdiv p b
  have nr : (p.tmod b).natAbs < b.natAbs := by rw [Int.natAbs_tmod]; exact Nat.mod_lt _ (by omega)
  have hle : p.natAbs / b.natAbs ≤ p.natAbs := Nat.div_le_self _ _
  generalize p.tmod b = r at *
  generalize hqq : p.tdiv b = q at *
  by_cases hf : q ≤ 9223372036854775807
  · have : wrap64 q = q := by unfold wrap64; omega
    rw [this] at hq'
    subst hq'
    rw [hc] at e
    omega
  · have q1 : q = 9223372036854775808 := by omega
    have p3 : p = -9223372036854775808 := by omega
    have a1 : a = -9223372036854775808 := by rw [← hq', q1]; decide +kernel
    have b1 : b = -1 := by
      by_cases hb2 : b.natAbs = 1
      · by_cases hb3 : b = 1
        · subst hb3; simp at hqq; omega
        · omega
      · have : p.natAbs / b.natAbs < p.natAbs := Nat.div_lt_self (by omega) (by omega)
        omega
    rw [p3, a1, b1] at hs
    simp at hs

theorem mul_over32 (a b : Int) (ha : -2147483648 ≤ a) (ha' : a ≤ 2147483647) (hb : -2147483648 ≤ b) (hb' : b ≤ 2147483647) (zb : b ≠ 0) (h : a * b < -2147483648 ∨ 2147483647 < a * b)
    (hs : decide (wrap32 (a * b) < 0) = (!(decide (a < 0) == decide (b < 0)))) (hq : (wrap32 ((wrap32 (a * b)).tdiv b) != a) = false) : False := by
  have hq' : wrap32 ((wrap32 (a * b)).tdiv b) = a := by simpa using hq
  clear hq
  have hc : b * a = a * b := Int.mul_comm b a
  generalize a * b = x at *
  obtain ⟨p, hp⟩ : ∃ p, p = wrap32 x := ⟨_, rfl⟩
  rw [← hp] at hs hq'
  have hpb : -2147483648 ≤ p ∧ p ≤ 2147483647 ∧ ∃ k : Int, p = x + k * 4294967296 := by
    rw [hp]; unfold wrap32
    refine ⟨by omega, by omega, -((x + 2147483648) / 4294967296), ?_⟩
    omega
  clear hp
  obtain ⟨p1, p2, k, hk⟩ := hpb
  have e := Int.mul_tdiv_add_tmod p b
  have nq : (p.tdiv b).natAbs = p.natAbs / b.natAbs := Int.natAbs_tdiv p b
  have nr : (p.tmod b).natAbs < b.natAbs := by rw [Int.natAbs_tmod]; exact Nat.mod_lt _ (by omega)
  have hle : p.natAbs / b.natAbs ≤ p.natAbs := Nat.div_le_self _ _
  generalize p.tmod b = r at *
  generalize hqq : p.tdiv b = q at *
  by_cases hf : q ≤ 2147483647
  · have : wrap32 q = q := by unfold wrap32; omega
    rw [this] at hq'
    subst hq'
    rw [hc] at e
    omega
  · have q1 : q = 2147483648 := by omega
    have p3 : p = -2147483648 := by omega
    have a1 : a = -2147483648 := by rw [← hq', q1]; decide +kernel
    have b1 : b = -1 := by
      by_cases hb2 : b.natAbs = 1
      · by_cases hb3 : b = 1
        · subst hb3; simp at hqq; omega
        · omega
      · have : p.natAbs / b.natAbs < p.natAbs := Nat.div_lt_self (by omega) (by omega)
        omega
    rw [p3, a1, b1] at hs
    simp at hs

end Go.Proofs.YtdlomdbmmhjppaaGreatDoor
namespace Go.Proofs.YtdlomdbmmhjppaaGreatDoor
open Go.RowKit
set_option linter.unusedVariables false

set_option maxHeartbeats 400000 in
theorem sub64_yes (a b : Int) (w : World) (ha : -9223372036854775808 ≤ a) (ha' : a ≤ 9223372036854775807) (hb : -9223372036854775808 ≤ b) (hb' : b ≤ 9223372036854775807) (h1 : -9223372036854775808 ≤ a - b) (h2 : a - b ≤ 9223372036854775807) :
    Calls Tryz.prog 195 #[.int .i64 a, .int .i64 b] w fun e w' => e = .returned (.tuple #[.int .i64 (a - b), .bool true]) ∧ w' = w := by
  have t : (decide (0 < b) == decide (a - b < a)) = true := by rw [beq_iff_eq, decide_eq_decide]; omega
  go_enter Tryz.func195, Tryz.ntmps195
  go_wp2
  go_ret2
  exact ⟨rfl, rfl⟩
set_option maxHeartbeats 400000 in
theorem sub64_no (a b : Int) (w : World) (ha : -9223372036854775808 ≤ a) (ha' : a ≤ 9223372036854775807) (hb : -9223372036854775808 ≤ b) (hb' : b ≤ 9223372036854775807) (h : a - b < -9223372036854775808 ∨ 9223372036854775807 < a - b) :
    Calls Tryz.prog 195 #[.int .i64 a, .int .i64 b] w fun e w' => e = .returned (.tuple #[.int .i64 0, .bool false]) ∧ w' = w := by
  have t : (decide (0 < b) == decide (wrap64 (a - b) < a)) = false := by
    rw [beq_eq_false_iff_ne, ne_eq, decide_eq_decide]; unfold wrap64; omega
  clear h
  go_enter Tryz.func195, Tryz.ntmps195
  go_wp2
  go_ret2
  exact ⟨rfl, rfl⟩

set_option maxHeartbeats 400000 in
theorem mul64_yes (a b : Int) (w : World) (ha : -9223372036854775808 ≤ a) (ha' : a ≤ 9223372036854775807) (hb : -9223372036854775808 ≤ b) (hb' : b ≤ 9223372036854775807) (h1 : -9223372036854775808 ≤ a * b) (h2 : a * b ≤ 9223372036854775807) :
    Calls Tryz.prog 194 #[.int .i64 a, .int .i64 b] w fun e w' => e = .returned (.tuple #[.int .i64 (a * b), .bool true]) ∧ w' = w := by
  by_cases za : a = 0
  · subst za
    go_enter Tryz.func194, Tryz.ntmps194
    go_wp2
    go_ret2
    exact ⟨ret_two (by omega) rfl, rfl⟩
  by_cases zb : b = 0
  · subst zb
    have ta : (a == 0) = false := by rw [beq_eq_false_iff_ne]; exact za
    go_enter Tryz.func194, Tryz.ntmps194
    go_wp2
    go_ret2
    exact ⟨ret_two (by omega) rfl, rfl⟩
  have ta : (a == 0) = false := by rw [beq_eq_false_iff_ne]; exact za
  have tb : (b == 0) = false := by rw [beq_eq_false_iff_ne]; exact zb
  go_enter Tryz.func194, Tryz.ntmps194
  go_wp2
  · go_ret2
    exact ⟨rfl, rfl⟩
  · exact absurd (mul_sign a b za zb) (by assumption)
set_option maxHeartbeats 400000 in
theorem mul64_no (a b : Int) (w : World) (ha : -9223372036854775808 ≤ a) (ha' : a ≤ 9223372036854775807) (hb : -9223372036854775808 ≤ b) (hb' : b ≤ 9223372036854775807) (h : a * b < -9223372036854775808 ∨ 9223372036854775807 < a * b) :
    Calls Tryz.prog 194 #[.int .i64 a, .int .i64 b] w fun e w' => e = .returned (.tuple #[.int .i64 0, .bool false]) ∧ w' = w := by
  have za : a ≠ 0 := by rintro rfl; omega
  have zb : b ≠ 0 := by rintro rfl; omega
  have ta : (a == 0) = false := by rw [beq_eq_false_iff_ne]; exact za
  have tb : (b == 0) = false := by rw [beq_eq_false_iff_ne]; exact zb
  have H : ¬ (decide (wrap64 (a * b) < 0) = (!(decide (a < 0) == decide (b < 0))) ∧ (wrap64 ((wrap64 (a * b)).tdiv b) != a) = false) := fun h3 => mul_over64 a b ha ha' hb hb' zb h h3.1 h3.2
  have HH : Hid (¬ (decide (wrap64 (a * b) < 0) = (!(decide (a < 0) == decide (b < 0))) ∧ (wrap64 ((wrap64 (a * b)).tdiv b) != a) = false)) := H
  clear H h
  go_enter Tryz.func194, Tryz.ntmps194
  go_wp2
  · go_ret2
    exact ⟨rfl, rfl⟩
  · exact absurd ⟨by assumption, by assumption⟩ HH.out
  · go_ret2
    exact ⟨rfl, rfl⟩

end Go.Proofs.YtdlomdbmmhjppaaGreatDoor
namespace Go.Proofs.YtdlomdbmmhjppaaGreatDoor
open Go.RowKit
set_option linter.unusedVariables false

theorem dgs_step (s : ByteArray) (k : Nat) (h : k < s.size) (hd : dgs (s.data.toList.take k) = true) (hc : 48 ≤ (s[k].toNat : Int) ∧ (s[k].toNat : Int) ≤ 57) : dgs (s.data.toList.take (k + 1)) = true := by
  rw [take_snoc s k h, dgs_snoc, hd]
  simp [dig]; omega
theorem dgs_stop (s : ByteArray) (k : Nat) (h : k < s.size) (hc : ¬ (48 ≤ (s[k].toNat : Int) ∧ (s[k].toNat : Int) ≤ 57)) : dgs s.data.toList = false := by
  rw [Bool.eq_false_iff]
  intro hd
  have := dgs_at s k h hd
  omega

set_option maxHeartbeats 1000000 in
theorem isForm_any (s : ByteArray) (w : World) (hs : s.size ≤ maxLen) :
    Calls Tryz.prog 166 #[.string s] w fun e w' => e = .returned (.bool (formB s)) ∧ w' = w := by
  unfold maxLen at hs
  cases h0 : (s.toList == [48])
  · by_cases hp : 0 < s.size
    · have n1 := toList_ne s hp
      have n2 := isEmpty_ne s hp
      cases h1 : ((s[0].toNat : Int) == 45)
      · cases h2 : ((s[0].toNat : Int) == 48)
        · have HF := hide (form_bare s hp h0 h1 h2)
          go_enter Tryz.func166, Tryz.ntmps166
          go_wp2
          go_loop [24, 3] (fun i _ => ∃ k : Nat, k ≤ s.size ∧ i = .int .i64 k ∧ Hid (dgs (s.data.toList.take k) = true)) (fun i _ => s.size - (intOf i).toNat)
          case atStart => exact ⟨0, Nat.zero_le _, rfl, rfl⟩
          case round =>
            obtain ⟨k, hk, rfl, hd⟩ := hrel
            by_cases hlt : k < s.size
            · by_cases hc : 48 ≤ (s[k].toNat : Int) ∧ (s[k].toNat : Int) ≤ 57
              · have HD := hide (dgs_step s k hlt hd.out hc)
                obtain ⟨hc1, hc2⟩ := hc
                go_wp2
                go_round
                case rel => exact ⟨k + 1, by omega, by go_num, HD.out⟩
                case measure => simp [intOf]; omega
              · have HN := hide (dgs_stop s k hlt hc)
                by_cases hc1 : 48 ≤ (s[k].toNat : Int)
                · have hc2 : 57 < (s[k].toNat : Int) := by omega
                  clear hc
                  go_wp2
                  go_ret
                  exact ⟨ret_bool (HF.out.trans HN.out).symm, rfl⟩
                · have hc2 : (s[k].toNat : Int) < 48 := by omega
                  clear hc hc1
                  go_wp2
                  go_ret
                  exact ⟨ret_bool (HF.out.trans HN.out).symm, rfl⟩
            · have HA := hide (show dgs s.data.toList = true by rw [← take_all s k (by omega)]; exact hd.out)
              go_wp2
              go_ret
              exact ⟨ret_bool (HF.out.trans HA.out).symm, rfl⟩
        · have HF := hide (form_lead s hp h0 h2)
          go_enter Tryz.func166, Tryz.ntmps166
          go_wp2
          go_ret
          exact ⟨ret_bool HF.out.symm, rfl⟩
      · obtain ⟨t, ht⟩ : ∃ t, s.extract 1 s.size = t := ⟨_, rfl⟩
        have HS := hide (form_sign s t hp ht h1)
        have hts : t.size = s.size - 1 := by rw [← ht]; simp
        have htm : t.size ≤ 9223372036854775807 := by omega
        by_cases tp : 0 < t.size
        · have m1 := toList_ne t tp
          have m2 := isEmpty_ne t tp
          have hle : (1 : Int) ≤ s.size := by omega
          clear hts
          cases h2 : ((t[0].toNat : Int) == 48)
          · have HF := hide (HS.out.trans (num_else t tp h2))
            go_enter Tryz.func166, Tryz.ntmps166
            go_wp2
            go_loop [24, 3] (fun i _ => ∃ k : Nat, k ≤ t.size ∧ i = .int .i64 k ∧ Hid (dgs (t.data.toList.take k) = true)) (fun i _ => t.size - (intOf i).toNat)
            case atStart => exact ⟨0, Nat.zero_le _, rfl, rfl⟩
            case round =>
              obtain ⟨k, hk, rfl, hd⟩ := hrel
              by_cases hlt : k < t.size
              · by_cases hc : 48 ≤ (t[k].toNat : Int) ∧ (t[k].toNat : Int) ≤ 57
                · have HD := hide (dgs_step t k hlt hd.out hc)
                  obtain ⟨hc1, hc2⟩ := hc
                  go_wp2
                  go_round
                  case rel => exact ⟨k + 1, by omega, by go_num, HD.out⟩
                  case measure => simp [intOf]; omega
                · have HN := hide (dgs_stop t k hlt hc)
                  by_cases hc1 : 48 ≤ (t[k].toNat : Int)
                  · have hc2 : 57 < (t[k].toNat : Int) := by omega
                    clear hc
                    go_wp2
                    go_ret
                    exact ⟨ret_bool (HF.out.trans HN.out).symm, rfl⟩
                  · have hc2 : (t[k].toNat : Int) < 48 := by omega
                    clear hc hc1
                    go_wp2
                    go_ret
                    exact ⟨ret_bool (HF.out.trans HN.out).symm, rfl⟩
              · have HA := hide (show dgs t.data.toList = true by rw [← take_all t k (by omega)]; exact hd.out)
                go_wp2
                go_ret
                exact ⟨ret_bool (HF.out.trans HA.out).symm, rfl⟩
          · have HF := hide (HS.out.trans (num_zero t tp h2))
            go_enter Tryz.func166, Tryz.ntmps166
            go_wp2
            go_ret
            exact ⟨ret_bool HF.out.symm, rfl⟩
        · have HF := hide (HS.out.trans (num_nil t tp))
          have m1 : t.toList = [] := by rw [ByteArray.toList_eq]; exact toList_nil t tp
          have hle : (1 : Int) ≤ s.size := by omega
          clear hts
          go_enter Tryz.func166, Tryz.ntmps166
          go_wp2
          go_ret
          exact ⟨ret_bool HF.out.symm, rfl⟩
    · have HF := hide (form_nil s hp)
      have m1 : s.toList = [] := by rw [ByteArray.toList_eq]; exact toList_nil s hp
      go_enter Tryz.func166, Tryz.ntmps166
      go_wp2
      go_ret
      exact ⟨ret_bool HF.out.symm, rfl⟩
  · have HF := hide (form_zero s h0)
    go_enter Tryz.func166, Tryz.ntmps166
    go_wp2
    go_ret
    exact ⟨ret_bool HF.out.symm, rfl⟩


set_option maxHeartbeats 1000000 in
theorem readBelow_yes (s : ByteArray) (w : World) (hs : s.size ≤ maxLen) (hd : dgs s.data.toList = true) (hv : val s.data.toList ≤ 9223372036854775808) :
    Calls Tryz.prog 167 #[.string s] w fun e w' => e = .returned (.tuple #[.int .i64 (-(val s.data.toList : Int)), .int .i64 0]) ∧ w' = w := by
  unfold maxLen at hs
  have HD := hide hd
  clear hd
  have HV := hide hv
  clear hv
  go_enter Tryz.func167, Tryz.ntmps167
  go_wp2
  go_loop [4, 10] (fun b i => ∃ k v : Nat, k ≤ s.size ∧ i = .int .i64 k ∧ Hid (v = val (s.data.toList.take k)) ∧ b = .int .i64 (-(v : Int)) ∧ v ≤ 9223372036854775808) (fun _ i => s.size - (intOf i).toNat)
  case atStart => exact ⟨0, 0, Nat.zero_le _, rfl, rfl, rfl, Nat.zero_le _⟩
  case round =>
    obtain ⟨k, v, hk, rfl, Hv, rfl, hvb⟩ := hrel
    by_cases hlt : k < s.size
    · obtain ⟨d1, d2⟩ := dgs_at s k hlt HD.out
      have Hn : Hid (val (s.data.toList.take (k + 1)) = v * 10 + (s[k].toNat - 48)) := by rw [take_snoc s k hlt, val_snoc, ← Hv.out]; rfl
      have hm := Nat.le_trans (val_take s.data.toList (k + 1)) HV.out
      rw [Hn.out] at hm
      have d1' : 48 ≤ (s[k].toNat : Int) := by omega
      have d2' : (s[k].toNat : Int) ≤ 57 := by omega
      go_wp2_with (first
        | (go_at_call 194; refine (mul64_yes _ _ _ (by omega) (by omega) (by omega) (by omega) (by omega) (by omega)).mono ?_; rintro e w' ⟨rfl, rfl⟩)
        | (go_at_call 195; refine (sub64_yes _ _ _ (by omega) (by omega) (by omega) (by omega) (by omega) (by omega)).mono ?_; rintro e w' ⟨rfl, rfl⟩))
      go_round
      case rel => exact ⟨k + 1, v * 10 + (s[k].toNat - 48), by omega, by go_num, Hn.out.symm, congrArg (Value.int .i64) (by omega), hm⟩
      case measure => simp [intOf]; omega
    · have Hz : Hid (v = val s.data.toList) := by rw [← take_all s k (by omega)]; exact Hv.out
      go_wp2
      go_ret2
      exact ⟨ret_ii (by rw [Hz.out]) rfl, rfl⟩

set_option maxHeartbeats 1000000 in
theorem readBelow_no (s : ByteArray) (w : World) (hs : s.size ≤ maxLen) (hd : dgs s.data.toList = true) (hv : 9223372036854775808 < val s.data.toList) :
    Calls Tryz.prog 167 #[.string s] w fun e w' => e = .returned (.tuple #[.int .i64 0, .int .i64 13]) ∧ w' = w := by
  unfold maxLen at hs
  have HD := hide hd
  clear hd
  have HV := hide hv
  clear hv
  go_enter Tryz.func167, Tryz.ntmps167
  go_wp2
  go_loop [4, 10] (fun b i => ∃ k v : Nat, k ≤ s.size ∧ i = .int .i64 k ∧ Hid (v = val (s.data.toList.take k)) ∧ b = .int .i64 (-(v : Int)) ∧ v ≤ 9223372036854775808) (fun _ i => s.size - (intOf i).toNat)
  case atStart => exact ⟨0, 0, Nat.zero_le _, rfl, rfl, rfl, Nat.zero_le _⟩
  case round =>
    obtain ⟨k, v, hk, rfl, Hv, rfl, hvb⟩ := hrel
    by_cases hlt : k < s.size
    · obtain ⟨d1, d2⟩ := dgs_at s k hlt HD.out
      have Hn : Hid (val (s.data.toList.take (k + 1)) = v * 10 + (s[k].toNat - 48)) := by rw [take_snoc s k hlt, val_snoc, ← Hv.out]; rfl
      have d1' : 48 ≤ (s[k].toNat : Int) := by omega
      have d2' : (s[k].toNat : Int) ≤ 57 := by omega
      by_cases hm1 : v * 10 ≤ 9223372036854775808
      · by_cases hm : v * 10 + (s[k].toNat - 48) ≤ 9223372036854775808
        · go_wp2_with (first
            | (go_at_call 194; refine (mul64_yes _ _ _ (by omega) (by omega) (by omega) (by omega) (by omega) (by omega)).mono ?_; rintro e w' ⟨rfl, rfl⟩)
            | (go_at_call 195; refine (sub64_yes _ _ _ (by omega) (by omega) (by omega) (by omega) (by omega) (by omega)).mono ?_; rintro e w' ⟨rfl, rfl⟩))
          go_round
          case rel => exact ⟨k + 1, v * 10 + (s[k].toNat - 48), by omega, by go_num, Hn.out.symm, congrArg (Value.int .i64) (by omega), hm⟩
          case measure => simp [intOf]; omega
        · go_wp2_with (first
            | (go_at_call 194; refine (mul64_yes _ _ _ (by omega) (by omega) (by omega) (by omega) (by omega) (by omega)).mono ?_; rintro e w' ⟨rfl, rfl⟩)
            | (go_at_call 195; refine (sub64_no _ _ _ (by omega) (by omega) (by omega) (by omega) (by omega)).mono ?_; rintro e w' ⟨rfl, rfl⟩))
          go_ret2
          exact ⟨rfl, rfl⟩
      · go_wp2_with (go_at_call 194; refine (mul64_no _ _ _ (by omega) (by omega) (by omega) (by omega) (by omega)).mono ?_; rintro e w' ⟨rfl, rfl⟩)
        go_ret2
        exact ⟨rfl, rfl⟩
    · exfalso
      have := HV.out
      rw [← take_all s k (by omega), ← Hv.out] at this
      omega

theorem form_size (s : ByteArray) (h : formB s = true) : 0 < s.size := by
  by_cases hp : 0 < s.size
  · exact hp
  · rw [form_nil s hp] at h; cases h
theorem form_dgs_bare (s : ByteArray) (hp : 0 < s.size) (h : formB s = true) (h1 : ((s[0].toNat : Int) == 45) = false) : dgs s.data.toList = true := by
  cases h0 : (s.toList == [48])
  · cases h2 : ((s[0].toNat : Int) == 48)
    · rw [← form_bare s hp h0 h1 h2]; exact h
    · rw [form_lead s hp h0 h2] at h; cases h
  · rw [ByteArray.toList_eq, beq_iff_eq] at h0; rw [h0]; rfl
theorem form_dgs_sign (s t : ByteArray) (hp : 0 < s.size) (ht : s.extract 1 s.size = t) (h : formB s = true) (h1 : ((s[0].toNat : Int) == 45) = true) : dgs t.data.toList = true := by
  rw [form_sign s t hp ht h1] at h
  by_cases tp : 0 < t.size
  · cases h2 : ((t[0].toNat : Int) == 48)
    · rw [← num_else t tp h2]; exact h
    · rw [num_zero t tp h2] at h; cases h
  · rw [num_nil t tp] at h; cases h

set_option maxHeartbeats 400000 in
theorem read_bad (s : ByteArray) (w : World) (hs : s.size ≤ maxLen) (h : formB s = false) :
    Calls Tryz.prog 139 #[.string s] w fun e w' => e = .returned (.tuple #[.int .i64 0, .int .i64 12]) ∧ w' = w := by
  go_enter Tryz.func139, Tryz.ntmps139
  go_wp2_with (go_at_call 166; refine (isForm_any _ _ (by assumption)).mono ?_; rintro e w' ⟨rfl, rfl⟩)
  go_ret2
  exact ⟨rfl, rfl⟩
set_option maxHeartbeats 400000 in
theorem read_neg (s t : ByteArray) (w : World) (hs : s.size ≤ maxLen) (h : formB s = true) (hp : 0 < s.size) (ht : s.extract 1 s.size = t) (h1 : ((s[0].toNat : Int) == 45) = true) (hv : val t.data.toList ≤ 9223372036854775808) :
    Calls Tryz.prog 139 #[.string s] w fun e w' => e = .returned (.tuple #[.int .i64 (-(val t.data.toList : Int)), .int .i64 0]) ∧ w' = w := by
  have HD := hide (form_dgs_sign s t hp ht h h1)
  have HV := hide hv
  clear hv
  have hts : t.size ≤ maxLen := by rw [← ht]; simp; omega
  have hle : (1 : Int) ≤ s.size := by omega
  go_enter Tryz.func139, Tryz.ntmps139
  go_wp2_with (first | (go_at_call 166; refine (isForm_any _ _ (by assumption)).mono ?_; rintro e w' ⟨rfl, rfl⟩) | (go_at_call 167; refine (readBelow_yes _ _ hts HD.out HV.out).mono ?_; rintro e w' ⟨rfl, rfl⟩))
  go_ret2
  exact ⟨rfl, rfl⟩
set_option maxHeartbeats 400000 in
theorem read_negover (s t : ByteArray) (w : World) (hs : s.size ≤ maxLen) (h : formB s = true) (hp : 0 < s.size) (ht : s.extract 1 s.size = t) (h1 : ((s[0].toNat : Int) == 45) = true) (hv : 9223372036854775808 < val t.data.toList) :
    Calls Tryz.prog 139 #[.string s] w fun e w' => e = .returned (.tuple #[.int .i64 0, .int .i64 13]) ∧ w' = w := by
  have HD := hide (form_dgs_sign s t hp ht h h1)
  have HV := hide hv
  clear hv
  have hts : t.size ≤ maxLen := by rw [← ht]; simp; omega
  have hle : (1 : Int) ≤ s.size := by omega
  go_enter Tryz.func139, Tryz.ntmps139
  go_wp2_with (first | (go_at_call 166; refine (isForm_any _ _ (by assumption)).mono ?_; rintro e w' ⟨rfl, rfl⟩) | (go_at_call 167; refine (readBelow_no _ _ hts HD.out HV.out).mono ?_; rintro e w' ⟨rfl, rfl⟩))
  go_ret2
  exact ⟨rfl, rfl⟩
set_option maxHeartbeats 400000 in
theorem read_pos (s : ByteArray) (w : World) (hs : s.size ≤ maxLen) (h : formB s = true) (hp : 0 < s.size) (h1 : ((s[0].toNat : Int) == 45) = false) (hv : val s.data.toList ≤ 9223372036854775807) :
    Calls Tryz.prog 139 #[.string s] w fun e w' => e = .returned (.tuple #[.int .i64 (val s.data.toList : Int), .int .i64 0]) ∧ w' = w := by
  have HD := hide (form_dgs_bare s hp h h1)
  have HR := hide (readBelow_yes s · hs HD.out (by omega))
  have hm : ((-(val s.data.toList : Int)) == -9223372036854775808) = false := by rw [beq_eq_false_iff_ne]; omega
  generalize val s.data.toList = v at *
  go_enter Tryz.func139, Tryz.ntmps139
  go_wp2_with (first | (go_at_call 166; refine (isForm_any _ _ (by assumption)).mono ?_; rintro e w' ⟨rfl, rfl⟩) | (go_at_call 167; refine (HR.out _).mono ?_; rintro e w' ⟨rfl, rfl⟩))
  go_ret2
  exact ⟨ret_ii (by omega) rfl, rfl⟩
set_option maxHeartbeats 400000 in
theorem read_posover (s : ByteArray) (w : World) (hs : s.size ≤ maxLen) (h : formB s = true) (hp : 0 < s.size) (h1 : ((s[0].toNat : Int) == 45) = false) (hv : 9223372036854775807 < val s.data.toList) :
    Calls Tryz.prog 139 #[.string s] w fun e w' => e = .returned (.tuple #[.int .i64 0, .int .i64 13]) ∧ w' = w := by
  have HD := hide (form_dgs_bare s hp h h1)
  by_cases hm : val s.data.toList ≤ 9223372036854775808
  · have HR := hide (readBelow_yes s · hs HD.out hm)
    have e : val s.data.toList = 9223372036854775808 := by omega
    rw [e] at HR
    clear e hm hv
    go_enter Tryz.func139, Tryz.ntmps139
    go_wp2_with (first | (go_at_call 166; refine (isForm_any _ _ (by assumption)).mono ?_; rintro e w' ⟨rfl, rfl⟩) | (go_at_call 167; refine (HR.out _).mono ?_; rintro e w' ⟨rfl, rfl⟩))
    go_ret2
    exact ⟨rfl, rfl⟩
  · have HR := hide (readBelow_no s · hs HD.out (by omega))
    clear hm hv
    go_enter Tryz.func139, Tryz.ntmps139
    go_wp2_with (first | (go_at_call 166; refine (isForm_any _ _ (by assumption)).mono ?_; rintro e w' ⟨rfl, rfl⟩) | (go_at_call 167; refine (HR.out _).mono ?_; rintro e w' ⟨rfl, rfl⟩))
    go_ret2
    exact ⟨rfl, rfl⟩
end Go.Proofs.YtdlomdbmmhjppaaGreatDoor
