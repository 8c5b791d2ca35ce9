/- What runes.Trim answers, for every text: blanks at both ends left away, of blanks in a row one: proved of the Go text. -/
import Derived.Test.YtjmdhfopokmhcaaGreatDoorCase5
namespace Go.Proofs.YtjmdhfopokmhcaaGreatDoor.T5
open Go.RowKit Go.Sort
set_option linter.unusedVariables false
set_option maxRecDepth 100000

/-- What was put down so far; is a blank held? -/
def trStep (st : List UInt8 × Bool) (c : UInt8) : List UInt8 × Bool :=
  if c = 32 then (st.1, !st.1.isEmpty) else (st.1 ++ ((if st.2 then [32] else []) ++ [c]), false)
def trF (l : List UInt8) : List UInt8 × Bool := l.foldl trStep ([], false)
def trimL (l : List UInt8) : List UInt8 := (trF l).1
def trimB (s : ByteArray) : ByteArray := ⟨(trimL s.data.toList).toArray⟩
theorem trF_snoc (l : List UInt8) (c : UInt8) : trF (l ++ [c]) = trStep (trF l) c := by simp [trF]
theorem snoc_ind {P : List UInt8 → Prop} (h0 : P []) (h1 : ∀ l c, P l → P (l ++ [c])) (l : List UInt8) : P l := by
  suffices h : ∀ l : List UInt8, P l.reverse by have := h l.reverse; rwa [List.reverse_reverse] at this
  intro l
  induction l with
  | nil => exact h0
  | cons c l ih => rw [List.reverse_cons]; exact h1 _ _ ih
theorem trF_len (l : List UInt8) : (trF l).1.length + (if (trF l).2 then 1 else 0) ≤ l.length := by
  refine snoc_ind (P := fun l => (trF l).1.length + (if (trF l).2 then 1 else 0) ≤ l.length) (by simp [trF]) (fun l c ih => ?_) l
  · rw [trF_snoc]
    unfold trStep
    split
    · simp only [List.length_append, List.length_singleton]
      split at ih <;> split <;> omega
    · simp only [List.length_append, List.length_singleton]
      split at ih
      · rename_i h; simp [h]; omega
      · rename_i h; simp [h]; omega
theorem take_snoc (s : ByteArray) (k : Nat) (h : k < s.size) : s.data.toList.take (k + 1) = s.data.toList.take k ++ [s[k]] := by
  rw [List.take_succ_eq_append_getElem (by simpa using h)]; rfl
/-- Bytes as values. -/
def vs (l : List UInt8) : List Value := l.map fun c => Value.int .u8 (c.toNat : Int)
theorem vs_len (l : List UInt8) : (vs l).length = l.length := by simp [vs]
theorem vs_snoc (l : List UInt8) (c : UInt8) : vs l ++ [.int .u8 (c.toNat : Int)] = vs (l ++ [c]) := by simp [vs]
theorem conv_own {w : World} {B n : Nat} {v : Value} {L : List UInt8} (h : w.ownsRow B 5 1 v n (vs L)) : (convert 96 9 v).run Tryz.prog w = .ok (.string ⟨L.toArray⟩) w := by
  obtain ⟨hl, h⟩ := h
  rw [vs_len, Nat.mul_one] at hl
  rcases h with ⟨rfl, rfl⟩ | ⟨g, cap, cur, rfl, _, hg, _, _, _, ht⟩
  · obtain rfl := List.eq_nil_of_length_eq_zero hl
    exact run_convert_bytes_nil w 96 5 Tryz.underlying96 Tryz.underlying5 0 0 9 Tryz.underlying9
  · have hc := run_convert_bytes_arg (P := Tryz.prog) w 96 5 Tryz.underlying96 Tryz.underlying5 g 0 n cap (L.map fun x => (x.toNat : Int)) (by simpa using hl) (fun i hi => by
      have e : cur.toList[i]? = some (.int .u8 ((L.map fun x => (x.toNat : Int)).getD i 0)) := by
        have h1 : (cur.toList.take (n * 1))[i]? = cur.toList[i]? := by rw [List.getElem?_take]; rw [if_pos (by omega)]
        rw [← h1, ht]
        simp [vs, List.getElem?_map, List.getD, List.getElem?_eq_getElem (show i < L.length by omega)]
      unfold World.cell?
      simp [hg]
      simpa using e) 9 Tryz.underlying9
    rw [hc]
    congr 2
    unfold strOfNums
    congr 2
    rw [List.map_map]
    conv => rhs; rw [← List.map_id L]
    apply List.map_congr_left
    intro x _
    simp
/-- One byte more in a row of one's own. -/
theorem own_more {B : Nat} {w wr w1 : World} {v v' : Value} {o : Obj} {n : Nat} {L : List UInt8} {c : UInt8} (hB : B ≤ wr.heap.size) (hnx : Below B w wr)
    (hown' : w1.ownsRow B 5 1 v' (n + 1) (vs L ++ [.int .u8 (c.toNat : Int)])) (hown : wr.ownsRow B 5 1 v n (vs L)) (hgrow : (wr.alloc o).grownBy w1 v.ownBlock) :
    w1.ownsRow B 5 1 v' (n + 1) (vs (L ++ [c])) ∧ Below B w w1 := by
  refine ⟨by rw [← vs_snoc]; exact hown', (hnx.alloc hB o).grown hgrow (by simp; omega) fun j hj => ?_⟩
  exact (hown.lt j hj).1
theorem own_form {w : World} {B n : Nat} {v : Value} {xs : List Value} (h : w.ownsRow B 5 1 v n xs) : ∃ a c, v = .slice a n c := by
  obtain ⟨_, ⟨rfl, rfl⟩ | ⟨g, cap, cur, rfl, _⟩⟩ := h
  · exact ⟨_, _, rfl⟩
  · exact ⟨_, _, rfl⟩
theorem more_0 (l : List UInt8) : decide (0 < l.length) = !l.isEmpty := by cases l <;> simp
set_option maxHeartbeats 1000000 in
theorem trim_any (s : ByteArray) (hs : s.size ≤ 200000) : CallIs 71 #[.string s] (.string (trimB s)) := by
  intro w
  obtain ⟨i0, hi, hz0, hz1, hz2⟩ := info_parts info_u8
  go_enter Tryz.func71, Tryz.ntmps71
  go_wp2
  go_loopw [3, 4, 5, 8] (fun v h _ i wr => ∃ k : Nat, k ≤ s.size ∧ i = .int .i64 k ∧ h = .bool (trF (s.data.toList.take k)).2 ∧ Hid (wr.ownsRow w.heap.size 5 1 v (trF (s.data.toList.take k)).1.length (vs (trF (s.data.toList.take k)).1)) ∧ Hid (Below w.heap.size w wr)) (fun _ _ _ i _ => s.size - (intOf i).toNat)
  case atStart => exact ⟨0, Nat.zero_le _, rfl, rfl, hide (World.ownsRow_nil _ _ _ _), hide (Below.refl _ _)⟩
  case round =>
    obtain ⟨k, hk, rfl, rfl, hown, hB⟩ := hrel
    have hwz := hB.out.size
    have hll := trF_len (s.data.toList.take k)
    rw [List.length_take, ← Lib.size_eq] at hll
    by_cases hlt : k < s.size
    · have hst : Hid (trF (s.data.toList.take (k + 1)) = trStep (trF (s.data.toList.take k)) s[k]) := hide (by rw [take_snoc s k hlt, trF_snoc])
      have hk1 : (k : Int) + 1 ≤ 9223372036854775807 := by omega
      generalize trF (s.data.toList.take k) = st at *
      obtain ⟨L, b⟩ := st
      simp only at hown hll
      by_cases h1 : (s[k].toNat : Int) = 32
      · have h2 : ((s[k].toNat : Int) == 32) = true := by simpa using h1
        have hc : s[k] = 32 := UInt8.toNat_inj.1 (by show s[k].toNat = 32; omega)
        have hs2 : Hid (trF (s.data.toList.take (k + 1)) = (L, !L.isEmpty)) := hide (by rw [hst.out]; unfold trStep; rw [if_pos hc])
        have hz := hide (more_0 L)
        obtain ⟨a0, c0, rfl⟩ := own_form hown.out
        clear hst hll hc h1
        go_wp2
        go_roundw
        case rel =>
          refine ⟨k + 1, by omega, by go_num, ?_, ?_, hB⟩
          · rw [hs2.out, ← hz.out]
          · rw [hs2.out]; exact hown
        case measure => simp [intOf]; omega
      · have h2 : ((s[k].toNat : Int) == 32) = false := by simpa using h1
        have hc : ¬ s[k] = 32 := fun e => h1 (by rw [e]; rfl)
        cases b with
        | false =>
          have hs2 : Hid (trF (s.data.toList.take (k + 1)) = (L ++ [s[k]], false)) := hide (by rw [hst.out]; unfold trStep; rw [if_neg hc]; simp)
          clear hst hc h1
          have hown0 := hown.out
          go_wp2_with (at_builtin; refine wpList_append_own _ rfl _ _ 96 rfl w.heap.size 5 i0 (.int .u8 0) 1 1 Tryz.underlying96 hi hz0 hz1 hz2 rfl (by decide) _ _ _ rfl (hown0.alloc _) ⟨wr.heap.size, 0, none⟩ 1 1 [.int .u8 ((s[k].toNat : Int))] rfl rfl (fun j u hj => by match j, hj with | 0, hj => simp at hj; subst hj; simp [Addr.add]) (fun u hu => by simp at hu; subst hu; rfl) (by unfold maxLen; omega) (by omega) (by simp; omega) ?_)
          intro v' w1 hown' hgrow _
          have R := hide (own_more hwz hB.out hown' hown0 hgrow)
          clear hown' hgrow hown0
          go_wp2
          go_roundw
          case rel =>
            refine ⟨k + 1, by omega, by go_num, ?_, ?_, hide R.out.2⟩
            · rw [hs2.out]
            · rw [hs2.out, List.length_append]; exact hide R.out.1
          case measure => simp [intOf]; omega
        | true =>
          have hs2 : Hid (trF (s.data.toList.take (k + 1)) = (L ++ [32] ++ [s[k]], false)) := hide (by rw [hst.out]; unfold trStep; rw [if_neg hc]; simp)
          clear hst hc h1
          have hown0 := hown.out
          go_wp2_with (at_builtin; refine wpList_append_own _ rfl _ _ 96 rfl w.heap.size 5 i0 (.int .u8 0) 1 1 Tryz.underlying96 hi hz0 hz1 hz2 rfl (by decide) _ _ _ rfl (hown0.alloc _) ⟨wr.heap.size, 0, none⟩ 1 1 [.int .u8 (32)] rfl rfl (fun j u hj => by match j, hj with | 0, hj => simp at hj; subst hj; simp [Addr.add]) (fun u hu => by simp at hu; subst hu; rfl) (by unfold maxLen; omega) (by omega) (by simp; omega) ?_)
          intro v' w1 hown' hgrow _
          have R := hide (own_more (c := 32) hwz hB.out hown' hown0 hgrow)
          have hw1 := R.out.2.size
          have hown1 := R.out.1
          clear hown' hgrow hown0
          go_wp2_with (at_builtin; refine wpList_append_own _ rfl _ _ 96 rfl w.heap.size 5 i0 (.int .u8 0) 1 1 Tryz.underlying96 hi hz0 hz1 hz2 rfl (by decide) _ _ _ rfl (hown1.alloc _) ⟨w1.heap.size, 0, none⟩ 1 1 [.int .u8 ((s[k].toNat : Int))] rfl rfl (fun j u hj => by match j, hj with | 0, hj => simp at hj; subst hj; simp [Addr.add]) (fun u hu => by simp at hu; subst hu; rfl) (by unfold maxLen; omega) (by omega) (by simp; omega) ?_)
          intro v2 w2 hown2 hgrow2 _
          have R2 := hide (own_more hw1 R.out.2 hown2 hown1 hgrow2)
          clear hown2 hgrow2 hown1
          go_wp2
          go_roundw
          case rel =>
            refine ⟨k + 1, by omega, by go_num, ?_, ?_, hide R2.out.2⟩
            · rw [hs2.out]
            · rw [hs2.out, List.length_append, List.length_append]; exact hide R2.out.1
          case measure => simp [intOf]; omega
    · obtain rfl : k = s.size := by omega
      rw [List.take_of_length_le (by rw [← Lib.size_eq]; exact Nat.le_refl _)] at hown
      have hcv := conv_own hown.out
      change _ = Result.ok (Value.string (trimB s)) wr at hcv
      clear hll
      go_wp2
      go_ret
      exact ⟨rfl, hB.out⟩
end Go.Proofs.YtjmdhfopokmhcaaGreatDoor.T5
