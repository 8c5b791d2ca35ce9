/- What package hash puts behind a byte for a number, and what it sums of a value: for every value. Proved of the Go text. -/
import Derived.Test.YtdbdonpcdoeeiaaMay6
namespace Go.Proofs.Ytdbdonpcdoeeiaa
open Go.RowKit Go.Sort
set_option linter.unusedVariables false

theorem own_snoc {B : Nat} {w wr w1 : World} {v v' : Value} {L : List UInt8} {c : UInt8} {x : Int} {o : Obj} (hx : x = (c.toNat : Int)) (hB : B ≤ wr.heap.size) (hnx : Below B w wr)
    (hown' : w1.ownsRow B 5 1 v' (L.length + 1) (vs L ++ [.int .u8 x])) (hown : Own wr B v L) (hgrow : (wr.alloc o).grownBy w1 v.ownBlock) :
    Own w1 B v' (L ++ [c]) ∧ Below B w w1 := by
  refine ⟨?_, (hnx.alloc hB o).grown hgrow (by simp; omega) fun j hj => (World.ownsRow.lt hown j hj).1⟩
  unfold Own
  rw [List.length_append, ← vs_snoc, ← hx]
  exact hown'
theorem be8_len (n : Int) : (be8 n).length = 8 := rfl
theorem byte_0 (n : Int) : n / 72057594037927936 % 256 = ((byteAt n 56).toNat : Int) := by have := byteAt_int n 56; simpa only [Int.reducePow] using this.symm
theorem take_0 (L : List UInt8) (n : Int) : (L ++ (be8 n).take 0) ++ [byteAt n 56] = L ++ (be8 n).take 1 := by rw [List.append_assoc]; rfl
theorem byte_1 (n : Int) : n / 281474976710656 % 256 = ((byteAt n 48).toNat : Int) := by have := byteAt_int n 48; simpa only [Int.reducePow] using this.symm
theorem take_1 (L : List UInt8) (n : Int) : (L ++ (be8 n).take 1) ++ [byteAt n 48] = L ++ (be8 n).take 2 := by rw [List.append_assoc]; rfl
theorem byte_2 (n : Int) : n / 1099511627776 % 256 = ((byteAt n 40).toNat : Int) := by have := byteAt_int n 40; simpa only [Int.reducePow] using this.symm
theorem take_2 (L : List UInt8) (n : Int) : (L ++ (be8 n).take 2) ++ [byteAt n 40] = L ++ (be8 n).take 3 := by rw [List.append_assoc]; rfl
theorem byte_3 (n : Int) : n / 4294967296 % 256 = ((byteAt n 32).toNat : Int) := by have := byteAt_int n 32; simpa only [Int.reducePow] using this.symm
theorem take_3 (L : List UInt8) (n : Int) : (L ++ (be8 n).take 3) ++ [byteAt n 32] = L ++ (be8 n).take 4 := by rw [List.append_assoc]; rfl
theorem byte_4 (n : Int) : n / 16777216 % 256 = ((byteAt n 24).toNat : Int) := by have := byteAt_int n 24; simpa only [Int.reducePow] using this.symm
theorem take_4 (L : List UInt8) (n : Int) : (L ++ (be8 n).take 4) ++ [byteAt n 24] = L ++ (be8 n).take 5 := by rw [List.append_assoc]; rfl
theorem byte_5 (n : Int) : n / 65536 % 256 = ((byteAt n 16).toNat : Int) := by have := byteAt_int n 16; simpa only [Int.reducePow] using this.symm
theorem take_5 (L : List UInt8) (n : Int) : (L ++ (be8 n).take 5) ++ [byteAt n 16] = L ++ (be8 n).take 6 := by rw [List.append_assoc]; rfl
theorem byte_6 (n : Int) : n / 256 % 256 = ((byteAt n 8).toNat : Int) := by have := byteAt_int n 8; simpa only [Int.reducePow] using this.symm
theorem take_6 (L : List UInt8) (n : Int) : (L ++ (be8 n).take 6) ++ [byteAt n 8] = L ++ (be8 n).take 7 := by rw [List.append_assoc]; rfl
theorem byte_7 (n : Int) : n % 256 = ((byteAt n 0).toNat : Int) := by have := byteAt_int n 0; rw [Int.pow_zero, Int.ediv_one] at this; exact this.symm
theorem take_7 (L : List UInt8) (n : Int) : (L ++ (be8 n).take 7) ++ [byteAt n 0] = L ++ (be8 n).take 8 := by rw [List.append_assoc]; rfl
set_option maxHeartbeats 2000000 in
theorem number_any (n : Int) (w : World) (B : Nat) (v : Value) (L : List UInt8) (hL : L.length ≤ 100) (hB : B ≤ w.heap.size) (hown0 : Own w B v L) :
    Calls Try.prog 16 #[v, .int .i64 n] w fun e w' => ∃ v', e = .returned v' ∧ Own w' B v' (L ++ be8 n) ∧ Below B w w' := by
  obtain ⟨i0, hi, hz0, hz1, hz2⟩ := info_parts info_u8
  have h0 := hide hown0
  clear hown0
  go_enter Try.func16, Try.ntmps16
  go_wp2
  go_loopw [0, 5] (fun v sh wr => ∃ j : Nat, j ≤ 8 ∧ sh = .int .i64 (56 - 8 * (j : Int)) ∧ Hid (Own wr B v (L ++ (be8 n).take j)) ∧ Hid (Below B w wr)) (fun _ sh _ => (intOf sh + 8).toNat)
  case atStart => exact ⟨0, by omega, rfl, by rw [List.take_zero, List.append_nil]; exact h0, hide (Below.refl _ _)⟩
  case round =>
    obtain ⟨j, hj, rfl, hown, hbel⟩ := hrel
    have hwz : B ≤ wr.heap.size := Nat.le_trans hB hbel.out.size
    have hcase : j = 0 ∨ j = 1 ∨ j = 2 ∨ j = 3 ∨ j = 4 ∨ j = 5 ∨ j = 6 ∨ j = 7 ∨ j = 8 := by omega
    rcases hcase with rfl | rfl | rfl | rfl | rfl | rfl | rfl | rfl | rfl
    · rw [show ((56 : Int) - 8 * ((0 : Nat) : Int)) = 56 from rfl]
      obtain ⟨M, hM⟩ : ∃ M, M = L ++ (be8 n).take 0 := ⟨_, rfl⟩
      rw [← hM] at hown
      have hlen : M.length ≤ 107 := by rw [hM, List.length_append, List.length_take, be8_len]; omega
      replace hM := hide hM
      go_wp2_with (at_builtin; refine wpList_append_own _ rfl _ _ 28 rfl B 5 i0 (.int .u8 0) 1 1 Try.underlying28 hi hz0 hz1 hz2 rfl (by decide) _ _ _ rfl (hown.out.alloc _) ⟨wr.heap.size, 0, none⟩ 1 1 [.int .u8 (n / 72057594037927936 % 256)] rfl rfl (fun j u hj => by match j, hj with | 0, hj => simp at hj; subst hj; simp [Addr.add]) (fun u hu => by simp at hu; subst hu; rfl) (by unfold maxLen; omega) (by omega) (by simp; omega) ?_)
      intro v' w1 hown' hgrow _
      have R := hide (own_snoc (byte_0 n) hwz hbel.out hown' hown.out hgrow)
      clear hown' hgrow hown
      go_wp2
      go_roundw
      case rel => exact ⟨1, by omega, rfl, by rw [← take_0, ← hM.out]; exact R.out.1, R.out.2⟩
      case measure => simp [intOf]
    · rw [show ((56 : Int) - 8 * ((1 : Nat) : Int)) = 48 from rfl]
      obtain ⟨M, hM⟩ : ∃ M, M = L ++ (be8 n).take 1 := ⟨_, rfl⟩
      rw [← hM] at hown
      have hlen : M.length ≤ 107 := by rw [hM, List.length_append, List.length_take, be8_len]; omega
      replace hM := hide hM
      go_wp2_with (at_builtin; refine wpList_append_own _ rfl _ _ 28 rfl B 5 i0 (.int .u8 0) 1 1 Try.underlying28 hi hz0 hz1 hz2 rfl (by decide) _ _ _ rfl (hown.out.alloc _) ⟨wr.heap.size, 0, none⟩ 1 1 [.int .u8 (n / 281474976710656 % 256)] rfl rfl (fun j u hj => by match j, hj with | 0, hj => simp at hj; subst hj; simp [Addr.add]) (fun u hu => by simp at hu; subst hu; rfl) (by unfold maxLen; omega) (by omega) (by simp; omega) ?_)
      intro v' w1 hown' hgrow _
      have R := hide (own_snoc (byte_1 n) hwz hbel.out hown' hown.out hgrow)
      clear hown' hgrow hown
      go_wp2
      go_roundw
      case rel => exact ⟨2, by omega, rfl, by rw [← take_1, ← hM.out]; exact R.out.1, R.out.2⟩
      case measure => simp [intOf]
    · rw [show ((56 : Int) - 8 * ((2 : Nat) : Int)) = 40 from rfl]
      obtain ⟨M, hM⟩ : ∃ M, M = L ++ (be8 n).take 2 := ⟨_, rfl⟩
      rw [← hM] at hown
      have hlen : M.length ≤ 107 := by rw [hM, List.length_append, List.length_take, be8_len]; omega
      replace hM := hide hM
      go_wp2_with (at_builtin; refine wpList_append_own _ rfl _ _ 28 rfl B 5 i0 (.int .u8 0) 1 1 Try.underlying28 hi hz0 hz1 hz2 rfl (by decide) _ _ _ rfl (hown.out.alloc _) ⟨wr.heap.size, 0, none⟩ 1 1 [.int .u8 (n / 1099511627776 % 256)] rfl rfl (fun j u hj => by match j, hj with | 0, hj => simp at hj; subst hj; simp [Addr.add]) (fun u hu => by simp at hu; subst hu; rfl) (by unfold maxLen; omega) (by omega) (by simp; omega) ?_)
      intro v' w1 hown' hgrow _
      have R := hide (own_snoc (byte_2 n) hwz hbel.out hown' hown.out hgrow)
      clear hown' hgrow hown
      go_wp2
      go_roundw
      case rel => exact ⟨3, by omega, rfl, by rw [← take_2, ← hM.out]; exact R.out.1, R.out.2⟩
      case measure => simp [intOf]
    · rw [show ((56 : Int) - 8 * ((3 : Nat) : Int)) = 32 from rfl]
      obtain ⟨M, hM⟩ : ∃ M, M = L ++ (be8 n).take 3 := ⟨_, rfl⟩
      rw [← hM] at hown
      have hlen : M.length ≤ 107 := by rw [hM, List.length_append, List.length_take, be8_len]; omega
      replace hM := hide hM
      go_wp2_with (at_builtin; refine wpList_append_own _ rfl _ _ 28 rfl B 5 i0 (.int .u8 0) 1 1 Try.underlying28 hi hz0 hz1 hz2 rfl (by decide) _ _ _ rfl (hown.out.alloc _) ⟨wr.heap.size, 0, none⟩ 1 1 [.int .u8 (n / 4294967296 % 256)] rfl rfl (fun j u hj => by match j, hj with | 0, hj => simp at hj; subst hj; simp [Addr.add]) (fun u hu => by simp at hu; subst hu; rfl) (by unfold maxLen; omega) (by omega) (by simp; omega) ?_)
      intro v' w1 hown' hgrow _
      have R := hide (own_snoc (byte_3 n) hwz hbel.out hown' hown.out hgrow)
      clear hown' hgrow hown
      go_wp2
      go_roundw
      case rel => exact ⟨4, by omega, rfl, by rw [← take_3, ← hM.out]; exact R.out.1, R.out.2⟩
      case measure => simp [intOf]
    · rw [show ((56 : Int) - 8 * ((4 : Nat) : Int)) = 24 from rfl]
      obtain ⟨M, hM⟩ : ∃ M, M = L ++ (be8 n).take 4 := ⟨_, rfl⟩
      rw [← hM] at hown
      have hlen : M.length ≤ 107 := by rw [hM, List.length_append, List.length_take, be8_len]; omega
      replace hM := hide hM
      go_wp2_with (at_builtin; refine wpList_append_own _ rfl _ _ 28 rfl B 5 i0 (.int .u8 0) 1 1 Try.underlying28 hi hz0 hz1 hz2 rfl (by decide) _ _ _ rfl (hown.out.alloc _) ⟨wr.heap.size, 0, none⟩ 1 1 [.int .u8 (n / 16777216 % 256)] rfl rfl (fun j u hj => by match j, hj with | 0, hj => simp at hj; subst hj; simp [Addr.add]) (fun u hu => by simp at hu; subst hu; rfl) (by unfold maxLen; omega) (by omega) (by simp; omega) ?_)
      intro v' w1 hown' hgrow _
      have R := hide (own_snoc (byte_4 n) hwz hbel.out hown' hown.out hgrow)
      clear hown' hgrow hown
      go_wp2
      go_roundw
      case rel => exact ⟨5, by omega, rfl, by rw [← take_4, ← hM.out]; exact R.out.1, R.out.2⟩
      case measure => simp [intOf]
    · rw [show ((56 : Int) - 8 * ((5 : Nat) : Int)) = 16 from rfl]
      obtain ⟨M, hM⟩ : ∃ M, M = L ++ (be8 n).take 5 := ⟨_, rfl⟩
      rw [← hM] at hown
      have hlen : M.length ≤ 107 := by rw [hM, List.length_append, List.length_take, be8_len]; omega
      replace hM := hide hM
      go_wp2_with (at_builtin; refine wpList_append_own _ rfl _ _ 28 rfl B 5 i0 (.int .u8 0) 1 1 Try.underlying28 hi hz0 hz1 hz2 rfl (by decide) _ _ _ rfl (hown.out.alloc _) ⟨wr.heap.size, 0, none⟩ 1 1 [.int .u8 (n / 65536 % 256)] rfl rfl (fun j u hj => by match j, hj with | 0, hj => simp at hj; subst hj; simp [Addr.add]) (fun u hu => by simp at hu; subst hu; rfl) (by unfold maxLen; omega) (by omega) (by simp; omega) ?_)
      intro v' w1 hown' hgrow _
      have R := hide (own_snoc (byte_5 n) hwz hbel.out hown' hown.out hgrow)
      clear hown' hgrow hown
      go_wp2
      go_roundw
      case rel => exact ⟨6, by omega, rfl, by rw [← take_5, ← hM.out]; exact R.out.1, R.out.2⟩
      case measure => simp [intOf]
    · rw [show ((56 : Int) - 8 * ((6 : Nat) : Int)) = 8 from rfl]
      obtain ⟨M, hM⟩ : ∃ M, M = L ++ (be8 n).take 6 := ⟨_, rfl⟩
      rw [← hM] at hown
      have hlen : M.length ≤ 107 := by rw [hM, List.length_append, List.length_take, be8_len]; omega
      replace hM := hide hM
      go_wp2_with (at_builtin; refine wpList_append_own _ rfl _ _ 28 rfl B 5 i0 (.int .u8 0) 1 1 Try.underlying28 hi hz0 hz1 hz2 rfl (by decide) _ _ _ rfl (hown.out.alloc _) ⟨wr.heap.size, 0, none⟩ 1 1 [.int .u8 (n / 256 % 256)] rfl rfl (fun j u hj => by match j, hj with | 0, hj => simp at hj; subst hj; simp [Addr.add]) (fun u hu => by simp at hu; subst hu; rfl) (by unfold maxLen; omega) (by omega) (by simp; omega) ?_)
      intro v' w1 hown' hgrow _
      have R := hide (own_snoc (byte_6 n) hwz hbel.out hown' hown.out hgrow)
      clear hown' hgrow hown
      go_wp2
      go_roundw
      case rel => exact ⟨7, by omega, rfl, by rw [← take_6, ← hM.out]; exact R.out.1, R.out.2⟩
      case measure => simp [intOf]
    · rw [show ((56 : Int) - 8 * ((7 : Nat) : Int)) = 0 from rfl]
      obtain ⟨M, hM⟩ : ∃ M, M = L ++ (be8 n).take 7 := ⟨_, rfl⟩
      rw [← hM] at hown
      have hlen : M.length ≤ 107 := by rw [hM, List.length_append, List.length_take, be8_len]; omega
      replace hM := hide hM
      go_wp2_with (at_builtin; refine wpList_append_own _ rfl _ _ 28 rfl B 5 i0 (.int .u8 0) 1 1 Try.underlying28 hi hz0 hz1 hz2 rfl (by decide) _ _ _ rfl (hown.out.alloc _) ⟨wr.heap.size, 0, none⟩ 1 1 [.int .u8 (n % 256)] rfl rfl (fun j u hj => by match j, hj with | 0, hj => simp at hj; subst hj; simp [Addr.add]) (fun u hu => by simp at hu; subst hu; rfl) (by unfold maxLen; omega) (by omega) (by simp; omega) ?_)
      intro v' w1 hown' hgrow _
      have R := hide (own_snoc (byte_7 n) hwz hbel.out hown' hown.out hgrow)
      clear hown' hgrow hown
      go_wp2
      go_roundw
      case rel => exact ⟨8, by omega, rfl, by rw [← take_7, ← hM.out]; exact R.out.1, R.out.2⟩
      case measure => simp [intOf]
    · rw [show ((56 : Int) - 8 * ((8 : Nat) : Int)) = -8 from rfl]
      go_wp2_with fail
      go_ret
      exact ⟨_, rfl, hown.out, hbel.out⟩
end Go.Proofs.Ytdbdonpcdoeeiaa
