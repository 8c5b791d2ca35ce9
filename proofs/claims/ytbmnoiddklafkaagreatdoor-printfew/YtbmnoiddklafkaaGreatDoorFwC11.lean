/- PrintFew: what its walk cuts and counts; no order in sight. -/
import Derived.Test.YtbmnoiddklafkaaGreatDoorFwR11
import Derived.Test.YtbmnoiddklafkaaGreatDoorFwJ
import Derived.Test.YtbmnoiddklafkaaGreatDoorPsJ
import Derived.Deep.CutRange
namespace Go.Proofs.YtbmnoiddklafkaaGreatDoor.T9

open Go.RowKit Go.Sort
set_option linter.unusedVariables false

theorem wf_u8f {x : Int} (h : (Lit.int .u8 x).wf = true) : 0 ≤ x ∧ x ≤ 255 := by
  simp only [Lit.wf, Bool.and_eq_true, decide_eq_true_eq, show IntKind.u8.min = 0 from rfl, show IntKind.u8.max = 255 from rfl] at h
  exact h
theorem RowQ.at {w : World} {B g n cap : Nat} {P : List (Nat × Nat)} (hn : P.length = n) (h : RowQ w B (.slice (some ⟨g, 0, none⟩) n cap) P) (j : Nat) (hj : j < P.length) : w.cell? ⟨g, j * 2, none⟩ = some (.int .i64 (P[j].1 : Int)) ∧ w.cell? ⟨g, j * 2 + 1, none⟩ = some (.int .i64 (P[j].2 : Int)) := by
  subst hn
  have ha : ∀ j, (⟨g, 0, none⟩ : Addr).add j = ⟨g, j, none⟩ := fun j => by unfold Addr.add; split <;> simp_all
  have hf : ∀ (L : List (Nat × Nat)) (j : Nat) (h : j < L.length), (vs2 L)[j * 2]? = some (.int .i64 (L[j].1 : Int)) ∧ (vs2 L)[j * 2 + 1]? = some (.int .i64 (L[j].2 : Int)) := by
    intro L
    induction L with
    | nil => intro j h; simp at h
    | cons x l ih =>
      intro j h
      cases j with
      | zero => exact ⟨rfl, rfl⟩
      | succ j =>
        have := ih j (by simpa using h)
        have e : vs2 (x :: l) = [.int .i64 (x.1 : Int), .int .i64 (x.2 : Int)] ++ vs2 l := by unfold vs2; rfl
        rw [e, show (j + 1) * 2 = j * 2 + 2 by omega, List.getElem?_append_right (by simp), List.getElem?_append_right (by simp)]
        simpa [show j * 2 + 2 + 1 - 2 = j * 2 + 1 by omega] using this
  obtain ⟨f1, f2⟩ := hf P j hj
  have c1 := World.ownsRow.cells h (g := g) rfl _ _ f1
  have c2 := World.ownsRow.cells h (g := g) rfl _ _ f2
  rw [ha] at c1 c2
  exact ⟨c1, c2⟩
theorem ext_take (L : List UInt8) (k : Nat) (h : k ≤ L.length) : (ba L).extract 0 k = ba (L.take k) := by
  apply ByteArray.ext
  apply Array.ext'
  simp
theorem ext_mid (L : List UInt8) (k i : Nat) (h : k ≤ i) (hi : i ≤ L.length) : (ba L).extract k i = ba ((L.drop k).take (i - k)) := by
  apply ByteArray.ext
  apply Array.ext'
  simp
theorem ext_drop (L : List UInt8) (k : Nat) (h : k ≤ L.length) : (ba L).extract k (ba L).size = ba (L.drop k) := by
  rw [ba_size, ext_mid L k L.length h (Nat.le_refl _), List.take_of_length_le (by rw [List.length_drop]; exact Nat.le_refl _)]
theorem cut_to (L : List UInt8) (k : Nat) (h : k ≤ L.length) (w : World) : (Instr.slice 9 (.string (ba L)) none (some (.int .i64 (k : Int))) none).run Tryz.prog w = .ok (.string (ba (L.take k))) w := by
  rw [run_slice_string_h w 9 (ba L) Tryz.underlying9 .i64 (k : Int) (by omega) (by rw [ba_size]; omega), Int.toNat_natCast, ext_take L k h]
theorem cut_mid (L : List UInt8) (k i : Nat) (h : k ≤ i) (hi : i ≤ L.length) (w : World) : (Instr.slice 9 (.string (ba L)) (some (.int .i64 (k : Int))) (some (.int .i64 (i : Int))) none).run Tryz.prog w = .ok (.string (ba ((L.drop k).take (i - k)))) w := by
  rw [run_slice_string w 9 (ba L) .i64 .i64 (k : Int) (i : Int) Tryz.underlying9 (by omega) (by omega) (by rw [ba_size]; omega), Int.toNat_natCast, Int.toNat_natCast, ext_mid L k i h hi]
theorem cut_from (L : List UInt8) (k : Nat) (h : k ≤ L.length) (w : World) : (Instr.slice 9 (.string (ba L)) (some (.int .i64 (k : Int))) none none).run Tryz.prog w = .ok (.string (ba (L.drop k))) w := by
  rw [run_slice_string_l w 9 (ba L) Tryz.underlying9 .i64 (k : Int) (by omega) (by rw [ba_size]; omega), Int.toNat_natCast, ext_drop L k h]
theorem same_not {t u : Ex} (h : ¬ u = t) : (fitB t && fitB u && sameE t u) = false := by
  cases hq : (fitB t && fitB u && sameE t u)
  · rfl
  · exfalso
    simp only [Bool.and_eq_true] at hq
    exact h (same_eq t u hq.2).symm
theorem few_cut {L : List UInt8} {k i : Nat} (hz : L.length ≤ 65536) (hp : Pair L k i) : wrap64 ((k : Int) + 1) = (k : Int) + 1 ∧ wrap64 ((i : Int) + 1) = (i : Int) + 1 ∧ ∃ S1 S2 S3 SY SX : ByteArray,
    (∀ w, (Instr.slice 9 (.string (ba L)) none (some (.int .i64 (k : Int))) none).run Tryz.prog w = .ok (.string S1) w) ∧ (∀ w, (Instr.slice 9 (.string (ba L)) (some (.int .i64 ((k : Int) + 1))) (some (.int .i64 (i : Int))) none).run Tryz.prog w = .ok (.string S2) w) ∧ (∀ w, (Instr.slice 9 (.string (ba L)) (some (.int .i64 ((i : Int) + 1))) none none).run Tryz.prog w = .ok (.string S3) w) ∧
    (∀ w, Sem.run Tryz.prog (Op.stringOp BinOp.add S1 S2) w = Result.ok (.string SY) w) ∧ (∀ w, Sem.run Tryz.prog (Op.stringOp BinOp.add SY S3) w = Result.ok (.string SX) w) ∧ SX = ba (strike L k i) ∧ SX.size ≤ maxLen := by
  have hki : k + 1 ≤ i := hp.lt
  have hil : i + 1 ≤ L.length := hp.le
  have z1 : (L.take k).length ≤ 65536 := by rw [List.length_take]; omega
  have z2 : ((L.drop (k + 1)).take (i - (k + 1))).length ≤ 65536 := by rw [List.length_take, List.length_drop]; omega
  have z3 : (L.drop (i + 1)).length ≤ 65536 := by rw [List.length_drop]; omega
  refine ⟨IntWalk.wrap64_in _ ⟨by omega, by omega⟩, IntWalk.wrap64_in _ ⟨by omega, by omega⟩, ba (L.take k), ba ((L.drop (k + 1)).take (i - (k + 1))), ba (L.drop (i + 1)), _, _, fun w => cut_to L k (by omega) w, fun w => cut_mid L (k + 1) i hki (by omega) w, fun w => cut_from L (i + 1) hil w, fun w => addl_run (by omega) w, fun w => addl_run (by rw [List.length_append]; omega) w, rfl, ?_⟩
  rw [ba_size, List.length_append, List.length_append]
  unfold maxLen
  omega
theorem few_rem (m n : Nat) (h : ¬ n = 0) : ∃ j, j < n ∧ (m : Int).tmod (n : Int) = (j : Int) ∧ (j : Int) < n ∧ ¬ ((n : Int) = 0) ∧ ((n : Int) == 0) = false :=
  ⟨m % n, Nat.mod_lt _ (by omega), Int.ofNat_tmod m n, by have := Nat.mod_lt m (show 0 < n by omega); omega, by omega, by rw [beq_eq_false_iff_ne]; omega⟩

end Go.Proofs.YtbmnoiddklafkaaGreatDoor.T9
