/- What runes.Trim answers, for every text: blanks at both ends left away, of blanks in a row one: proved of the Go text. What is trimmed is trimmed; capitals and small letters there and back: of no program. -/
import Derived.Test.YtgnmkhjilecdhaaGreatDoorCase5
namespace Go.Proofs.YtgnmkhjilecdhaaGreatDoor.T5
open Go.RowKit Go.Sort
set_option linter.unusedVariables false
set_option maxRecDepth 100000

/-- What was put down so far; is a blank held? -/
def trStep (st : List UInt8 × Bool) (c : UInt8) : List UInt8 × Bool :=
  if c = 32 then (st.1, !st.1.isEmpty) else (st.1 ++ ((if st.2 then [32] else []) ++ [c]), false)
def trF (l : List UInt8) : List UInt8 × Bool := l.foldl trStep ([], false)
def trimL (l : List UInt8) : List UInt8 := (trF l).1
def trimB (s : ByteArray) : ByteArray := ⟨(trimL s.data.toList).toArray⟩
theorem trF_snoc (l : List UInt8) (c : UInt8) : trF (l ++ [c]) = trStep (trF l) c := by simp [trF]
theorem snoc_ind {P : List UInt8 → Prop} (h0 : P []) (h1 : ∀ l c, P l → P (l ++ [c])) (l : List UInt8) : P l := by
  suffices h : ∀ l : List UInt8, P l.reverse by have := h l.reverse; rwa [List.reverse_reverse] at this
  intro l
  induction l with
  | nil => exact h0
  | cons c l ih => rw [List.reverse_cons]; exact h1 _ _ ih
theorem trF_len (l : List UInt8) : (trF l).1.length + (if (trF l).2 then 1 else 0) ≤ l.length := by
  refine snoc_ind (P := fun l => (trF l).1.length + (if (trF l).2 then 1 else 0) ≤ l.length) (by simp [trF]) (fun l c ih => ?_) l
  · rw [trF_snoc]
    unfold trStep
    split
    · simp only [List.length_append, List.length_singleton]
      split at ih <;> split <;> omega
    · simp only [List.length_append, List.length_singleton]
      split at ih
      · rename_i h; simp [h]; omega
      · rename_i h; simp [h]; omega
theorem take_snoc (s : ByteArray) (k : Nat) (h : k < s.size) : s.data.toList.take (k + 1) = s.data.toList.take k ++ [s[k]] := by
  rw [List.take_succ_eq_append_getElem (by simpa using h)]; rfl
/-- Bytes as values. -/
def vs (l : List UInt8) : List Value := l.map fun c => Value.int .u8 (c.toNat : Int)
theorem vs_len (l : List UInt8) : (vs l).length = l.length := by simp [vs]
theorem vs_snoc (l : List UInt8) (c : UInt8) : vs l ++ [.int .u8 (c.toNat : Int)] = vs (l ++ [c]) := by simp [vs]
theorem conv_own {w : World} {B n : Nat} {v : Value} {L : List UInt8} (h : w.ownsRow B 5 1 v n (vs L)) : (convert 93 9 v).run Tryz.prog w = .ok (.string ⟨L.toArray⟩) w := by
  obtain ⟨hl, h⟩ := h
  rw [vs_len, Nat.mul_one] at hl
  rcases h with ⟨rfl, rfl⟩ | ⟨g, cap, cur, rfl, _, hg, _, _, _, ht⟩
  · obtain rfl := List.eq_nil_of_length_eq_zero hl
    exact run_convert_bytes_nil w 93 5 Tryz.underlying93 Tryz.underlying5 0 0 9 Tryz.underlying9
  · have hc := run_convert_bytes_arg (P := Tryz.prog) w 93 5 Tryz.underlying93 Tryz.underlying5 g 0 n cap (L.map fun x => (x.toNat : Int)) (by simpa using hl) (fun i hi => by
      have e : cur.toList[i]? = some (.int .u8 ((L.map fun x => (x.toNat : Int)).getD i 0)) := by
        have h1 : (cur.toList.take (n * 1))[i]? = cur.toList[i]? := by rw [List.getElem?_take]; rw [if_pos (by omega)]
        rw [← h1, ht]
        simp [vs, List.getElem?_map, List.getD, List.getElem?_eq_getElem (show i < L.length by omega)]
      unfold World.cell?
      simp [hg]
      simpa using e) 9 Tryz.underlying9
    rw [hc]
    congr 2
    unfold strOfNums
    congr 2
    rw [List.map_map]
    conv => rhs; rw [← List.map_id L]
    apply List.map_congr_left
    intro x _
    simp
/-- One byte more in a row of one's own. -/
theorem own_more {B : Nat} {w wr w1 : World} {v v' : Value} {o : Obj} {n : Nat} {L : List UInt8} {c : UInt8} (hB : B ≤ wr.heap.size) (hnx : Below B w wr)
    (hown' : w1.ownsRow B 5 1 v' (n + 1) (vs L ++ [.int .u8 (c.toNat : Int)])) (hown : wr.ownsRow B 5 1 v n (vs L)) (hgrow : (wr.alloc o).grownBy w1 v.ownBlock) :
    w1.ownsRow B 5 1 v' (n + 1) (vs (L ++ [c])) ∧ Below B w w1 := by
  refine ⟨by rw [← vs_snoc]; exact hown', (hnx.alloc hB o).grown hgrow (by simp; omega) fun j hj => ?_⟩
  exact (hown.lt j hj).1
theorem own_form {w : World} {B n : Nat} {v : Value} {xs : List Value} (h : w.ownsRow B 5 1 v n xs) : ∃ a c, v = .slice a n c := by
  obtain ⟨_, ⟨rfl, rfl⟩ | ⟨g, cap, cur, rfl, _⟩⟩ := h
  · exact ⟨_, _, rfl⟩
  · exact ⟨_, _, rfl⟩
theorem more_0 (l : List UInt8) : decide (0 < l.length) = !l.isEmpty := by cases l <;> simp
set_option maxHeartbeats 1000000 in
theorem trim_any (s : ByteArray) (hs : s.size ≤ 200000) : CallIs 68 #[.string s] (.string (trimB s)) := by
  intro w
  obtain ⟨i0, hi, hz0, hz1, hz2⟩ := info_parts info_u8
  go_enter Tryz.func68, Tryz.ntmps68
  go_wp2
  go_loopw [3, 4, 5, 8] (fun v h _ i wr => ∃ k : Nat, k ≤ s.size ∧ i = .int .i64 k ∧ h = .bool (trF (s.data.toList.take k)).2 ∧ Hid (wr.ownsRow w.heap.size 5 1 v (trF (s.data.toList.take k)).1.length (vs (trF (s.data.toList.take k)).1)) ∧ Hid (Below w.heap.size w wr)) (fun _ _ _ i _ => s.size - (intOf i).toNat)
  case atStart => exact ⟨0, Nat.zero_le _, rfl, rfl, hide (World.ownsRow_nil _ _ _ _), hide (Below.refl _ _)⟩
  case round =>
    obtain ⟨k, hk, rfl, rfl, hown, hB⟩ := hrel
    have hwz := hB.out.size
    have hll := trF_len (s.data.toList.take k)
    rw [List.length_take, ← Lib.size_eq] at hll
    by_cases hlt : k < s.size
    · have hst : Hid (trF (s.data.toList.take (k + 1)) = trStep (trF (s.data.toList.take k)) s[k]) := hide (by rw [take_snoc s k hlt, trF_snoc])
      have hk1 : (k : Int) + 1 ≤ 9223372036854775807 := by omega
      generalize trF (s.data.toList.take k) = st at *
      obtain ⟨L, b⟩ := st
      simp only at hown hll
      by_cases h1 : (s[k].toNat : Int) = 32
      · have h2 : ((s[k].toNat : Int) == 32) = true := by simpa using h1
        have hc : s[k] = 32 := UInt8.toNat_inj.1 (by show s[k].toNat = 32; omega)
        have hs2 : Hid (trF (s.data.toList.take (k + 1)) = (L, !L.isEmpty)) := hide (by rw [hst.out]; unfold trStep; rw [if_pos hc])
        have hz := hide (more_0 L)
        obtain ⟨a0, c0, rfl⟩ := own_form hown.out
        clear hst hll hc h1
        go_wp2
        go_roundw
        case rel =>
          refine ⟨k + 1, by omega, by go_num, ?_, ?_, hB⟩
          · rw [hs2.out, ← hz.out]
          · rw [hs2.out]; exact hown
        case measure => simp [intOf]; omega
      · have h2 : ((s[k].toNat : Int) == 32) = false := by simpa using h1
        have hc : ¬ s[k] = 32 := fun e => h1 (by rw [e]; rfl)
        cases b with
        | false =>
          have hs2 : Hid (trF (s.data.toList.take (k + 1)) = (L ++ [s[k]], false)) := hide (by rw [hst.out]; unfold trStep; rw [if_neg hc]; simp)
          clear hst hc h1
          have hown0 := hown.out
          go_wp2_with (at_builtin; refine wpList_append_own _ rfl _ _ 93 rfl w.heap.size 5 i0 (.int .u8 0) 1 1 Tryz.underlying93 hi hz0 hz1 hz2 rfl (by decide) _ _ _ rfl (hown0.alloc _) ⟨wr.heap.size, 0, none⟩ 1 1 [.int .u8 ((s[k].toNat : Int))] rfl rfl (fun j u hj => by match j, hj with | 0, hj => simp at hj; subst hj; simp [Addr.add]) (fun u hu => by simp at hu; subst hu; rfl) (by unfold maxLen; omega) (by omega) (by simp; omega) ?_)
          intro v' w1 hown' hgrow _
          have R := hide (own_more hwz hB.out hown' hown0 hgrow)
          clear hown' hgrow hown0
          go_wp2
          go_roundw
          case rel =>
            refine ⟨k + 1, by omega, by go_num, ?_, ?_, hide R.out.2⟩
            · rw [hs2.out]
            · rw [hs2.out, List.length_append]; exact hide R.out.1
          case measure => simp [intOf]; omega
        | true =>
          have hs2 : Hid (trF (s.data.toList.take (k + 1)) = (L ++ [32] ++ [s[k]], false)) := hide (by rw [hst.out]; unfold trStep; rw [if_neg hc]; simp)
          clear hst hc h1
          have hown0 := hown.out
          go_wp2_with (at_builtin; refine wpList_append_own _ rfl _ _ 93 rfl w.heap.size 5 i0 (.int .u8 0) 1 1 Tryz.underlying93 hi hz0 hz1 hz2 rfl (by decide) _ _ _ rfl (hown0.alloc _) ⟨wr.heap.size, 0, none⟩ 1 1 [.int .u8 (32)] rfl rfl (fun j u hj => by match j, hj with | 0, hj => simp at hj; subst hj; simp [Addr.add]) (fun u hu => by simp at hu; subst hu; rfl) (by unfold maxLen; omega) (by omega) (by simp; omega) ?_)
          intro v' w1 hown' hgrow _
          have R := hide (own_more (c := 32) hwz hB.out hown' hown0 hgrow)
          have hw1 := R.out.2.size
          have hown1 := R.out.1
          clear hown' hgrow hown0
          go_wp2_with (at_builtin; refine wpList_append_own _ rfl _ _ 93 rfl w.heap.size 5 i0 (.int .u8 0) 1 1 Tryz.underlying93 hi hz0 hz1 hz2 rfl (by decide) _ _ _ rfl (hown1.alloc _) ⟨w1.heap.size, 0, none⟩ 1 1 [.int .u8 ((s[k].toNat : Int))] rfl rfl (fun j u hj => by match j, hj with | 0, hj => simp at hj; subst hj; simp [Addr.add]) (fun u hu => by simp at hu; subst hu; rfl) (by unfold maxLen; omega) (by omega) (by simp; omega) ?_)
          intro v2 w2 hown2 hgrow2 _
          have R2 := hide (own_more hw1 R.out.2 hown2 hown1 hgrow2)
          clear hown2 hgrow2 hown1
          go_wp2
          go_roundw
          case rel =>
            refine ⟨k + 1, by omega, by go_num, ?_, ?_, hide R2.out.2⟩
            · rw [hs2.out]
            · rw [hs2.out, List.length_append, List.length_append]; exact hide R2.out.1
          case measure => simp [intOf]; omega
    · obtain rfl : k = s.size := by omega
      rw [List.take_of_length_le (by rw [← Lib.size_eq]; exact Nat.le_refl _)] at hown
      have hcv := conv_own hown.out
      change _ = Result.ok (Value.string (trimB s)) wr at hcv
      clear hll
      go_wp2
      go_ret
      exact ⟨rfl, hB.out⟩
end Go.Proofs.YtgnmkhjilecdhaaGreatDoor.T5
namespace Go.Proofs.YtgnmkhjilecdhaaGreatDoor.T5
set_option linter.unusedVariables false
set_option maxRecDepth 100000

/-- No blank at the ends, none beside another. -/
def Good (t : List UInt8) : Prop := ∀ i, i < t.length → t.getD i 0 = 32 → 0 < i ∧ i + 1 < t.length ∧ t.getD (i - 1) 0 ≠ 32
theorem getD_app (t : List UInt8) (r : List UInt8) (i : Nat) (h : i < t.length) : (t ++ r).getD i 0 = t.getD i 0 := by
  simp [List.getD, List.getElem?_append_left h]
theorem getD_end (t : List UInt8) (c : UInt8) (r : List UInt8) : (t ++ c :: r).getD t.length 0 = c := by simp [List.getD]
theorem good_snoc {t : List UInt8} {c : UInt8} (h : Good t) (hc : c ≠ 32) : Good (t ++ [c]) := by
  intro i hi e
  rw [List.length_append, List.length_singleton] at hi
  by_cases hl : i < t.length
  · rw [getD_app _ _ _ hl] at e
    obtain ⟨h1, h2, h3⟩ := h i hl e
    rw [List.length_append, List.length_singleton, getD_app _ _ _ (by omega)]
    exact ⟨h1, by omega, h3⟩
  · obtain rfl : i = t.length := by omega
    rw [getD_end] at e
    exact absurd e hc
theorem good_two {t : List UInt8} {c : UInt8} (h : Good t) (hc : c ≠ 32) (hne : t ≠ []) : Good (t ++ [32, c]) := by
  have hp : 0 < t.length := List.length_pos_iff.2 hne
  intro i hi e
  have hz : (t ++ [32, c]).length = t.length + 2 := by simp
  rw [hz] at hi ⊢
  by_cases hl : i < t.length
  · rw [getD_app _ _ _ hl] at e
    obtain ⟨h1, h2, h3⟩ := h i hl e
    rw [getD_app _ _ _ (by omega)]
    exact ⟨h1, by omega, h3⟩
  · by_cases h2 : i = t.length
    · subst h2
      refine ⟨hp, by omega, ?_⟩
      rw [getD_app _ _ _ (by omega)]
      intro e2
      have := (h _ (by omega) e2).2.1
      omega
    · obtain rfl : i = t.length + 1 := by omega
      have : (t ++ [32, c]).getD (t.length + 1) 0 = c := by simp [List.getD]
      rw [this] at e
      exact absurd e hc
theorem trF_good (l : List UInt8) : Good (trF l).1 ∧ ((trF l).2 = true → (trF l).1 ≠ []) := by
  refine snoc_ind (P := fun l => Good (trF l).1 ∧ ((trF l).2 = true → (trF l).1 ≠ [])) ?_ (fun l c ih => ?_) l
  · exact ⟨fun i hi => by simp [trF] at hi, by simp [trF]⟩
  · rw [trF_snoc]
    unfold trStep
    by_cases hc : c = 32
    · rw [if_pos hc]
      exact ⟨ih.1, fun h e => by simp only at h e; rw [e] at h; simp at h⟩
    · rw [if_neg hc]
      refine ⟨?_, fun h => by simp at h⟩
      cases hb : (trF l).2 with
      | false => simpa using good_snoc ih.1 hc
      | true => simpa using good_two ih.1 hc (ih.2 hb)
theorem take_snoc' (t : List UInt8) (k : Nat) (h : k < t.length) : t.take (k + 1) = t.take k ++ [t.getD k 0] := by
  rw [List.take_succ_eq_append_getElem h]; simp [List.getD, List.getElem?_eq_getElem h]
theorem trF_of_good {t : List UInt8} (h : Good t) : ∀ k, k ≤ t.length → trF (t.take k) = if 0 < k ∧ t.getD (k - 1) 0 = 32 then (t.take (k - 1), true) else (t.take k, false)
  | 0, _ => by simp [trF]
  | k + 1, hk => by
    have ih := trF_of_good h k (by omega)
    have e1 : k + 1 - 1 = k := by omega
    rw [e1, take_snoc' t k (by omega), trF_snoc]
    by_cases hp : 0 < k ∧ t.getD (k - 1) 0 = 32
    · rw [if_pos hp] at ih
      have hc : ¬ t.getD k 0 = 32 := fun hc => (h k (by omega) hc).2.2 hp.2
      have hs : trStep (t.take (k - 1), true) (t.getD k 0) = (t.take (k - 1) ++ ([32] ++ [t.getD k 0]), false) := if_neg hc
      have e2 : t.take k = t.take (k - 1) ++ [32] := by
        have := take_snoc' t (k - 1) (by omega)
        rw [show k - 1 + 1 = k by omega, hp.2] at this
        exact this
      rw [ih, hs, if_neg (fun e => hc e.2), e2, List.append_assoc]
    · rw [if_neg hp] at ih
      rw [ih]
      by_cases hc : t.getD k 0 = 32
      · obtain ⟨h1, h2, h3⟩ := h k (by omega) hc
        have hs : trStep (t.take k, false) (t.getD k 0) = (t.take k, !(t.take k).isEmpty) := if_pos hc
        have : (t.take k).isEmpty = false := by
          rw [List.isEmpty_eq_false_iff]
          intro e
          have := congrArg List.length e
          rw [List.length_take, List.length_nil] at this
          omega
        rw [hs, this, if_pos ⟨by omega, hc⟩]
        rfl
      · have hs : trStep (t.take k, false) (t.getD k 0) = (t.take k ++ ([] ++ [t.getD k 0]), false) := if_neg hc
        rw [hs, if_neg (fun e => hc e.2), List.nil_append]
theorem trim_idem (l : List UInt8) : trimL (trimL l) = trimL l := by
  have hg := (trF_good l).1
  have h := trF_of_good hg (trF l).1.length (Nat.le_refl _)
  rw [List.take_of_length_le (Nat.le_refl _)] at h
  show (trF (trF l).1).1 = _
  rw [h, if_neg]
  · rfl
  · rintro ⟨h1, h2⟩
    have := (hg _ (by omega) h2).2.1
    omega
theorem trimB_idem (s : ByteArray) : trimB (trimB s) = trimB s := by
  unfold trimB
  rw [show (⟨(trimL s.data.toList).toArray⟩ : ByteArray).data.toList = trimL s.data.toList from rfl, trim_idem]
theorem get_getD (t : ByteArray) (i : Nat) (h : i < t.size) : t.data.toList.getD i 0 = t[i] := by
  simp [List.getD, List.getElem?_eq_getElem (show i < t.data.toList.length by rw [← Lib.size_eq]; exact h)]; rfl
/-- In a trimmed text. -/
theorem trimmed_at (s : ByteArray) (i : Nat) (h : i < (trimB s).size) (e : (trimB s)[i] = 32) : 0 < i ∧ i + 1 < (trimB s).size ∧ ∀ h' : i - 1 < (trimB s).size, (trimB s)[i - 1] ≠ 32 := by
  have hz : (trimB s).size = (trimL s.data.toList).length := by rw [Lib.size_eq]; rfl
  have hg : Good (trimB s).data.toList := (trF_good s.data.toList).1
  have h1 := hg i (by rw [← Lib.size_eq]; exact h) (by rw [get_getD _ i h]; exact e)
  refine ⟨h1.1, by rw [Lib.size_eq]; exact h1.2.1, fun h' => ?_⟩
  rw [← get_getD _ _ h']
  exact h1.2.2
/-- What is put down stays. -/
theorem trF_grows (l r : List UInt8) : (trF l).1 <+: (trF (l ++ r)).1 := by
  refine snoc_ind (P := fun r => (trF l).1 <+: (trF (l ++ r)).1) (by simp) (fun r c ih => ?_) r
  rw [← List.append_assoc, trF_snoc]
  refine ih.trans ?_
  unfold trStep
  split
  · exact List.prefix_refl _
  · exact List.prefix_append _ _
/-- How much is put down behind i bytes. -/
def kk (s : ByteArray) (i : Nat) : Nat := (trF (s.data.toList.take i)).1.length
theorem kk_end (s : ByteArray) : kk s s.size = (trimB s).size := by
  unfold kk
  rw [List.take_of_length_le (by rw [← Lib.size_eq]; exact Nat.le_refl _), Lib.size_eq]
  rfl
theorem kk_aux (T : ByteArray) (L r : List UInt8) (b : Bool) (c : UInt8) (hr : (L ++ ((if b then [32] else []) ++ [c])) ++ r = T.data.toList) :
    ((L ++ ((if b then [32] else []) ++ [c])).length = L.length + 1 ∧ ∃ h1 : L.length < T.size, T[L.length] = c) ∨
    ((L ++ ((if b then [32] else []) ++ [c])).length = L.length + 2 ∧ ∃ h1 : L.length + 1 < T.size, T[L.length] = 32 ∧ T[L.length + 1] = c) := by
  have hl := congrArg List.length hr
  rw [← Lib.size_eq] at hl
  cases b with
  | false =>
    simp at hl
    have h1 : L.length < T.size := by omega
    refine .inl ⟨by simp, h1, ?_⟩
    rw [← get_getD _ _ h1, ← hr]
    simp [List.getD]
  | true =>
    simp at hl
    have h1 : L.length + 1 < T.size := by omega
    refine .inr ⟨by simp, h1, ?_, ?_⟩
    · rw [← get_getD _ _ (by omega), ← hr]
      simp [List.getD]
    · rw [← get_getD _ _ h1, ← hr]
      simp [List.getD]
theorem kk_step (s : ByteArray) (i : Nat) (h : i < s.size) : (s[i] = 32 ∧ kk s (i + 1) = kk s i) ∨
    (s[i] ≠ 32 ∧ kk s (i + 1) = kk s i + 1 ∧ ∃ h1 : kk s i < (trimB s).size, (trimB s)[kk s i] = s[i]) ∨
    (s[i] ≠ 32 ∧ kk s (i + 1) = kk s i + 2 ∧ ∃ h1 : kk s i + 1 < (trimB s).size, (trimB s)[kk s i] = 32 ∧ (trimB s)[kk s i + 1] = s[i]) := by
  have hst : trF (s.data.toList.take (i + 1)) = trStep (trF (s.data.toList.take i)) s[i] := by rw [take_snoc s i h, trF_snoc]
  have hpre : (trF (s.data.toList.take (i + 1))).1 <+: (trimB s).data.toList := by
    have := trF_grows (s.data.toList.take (i + 1)) (s.data.toList.drop (i + 1))
    rw [List.take_append_drop] at this
    exact this
  unfold kk
  rw [hst] at hpre ⊢
  unfold trStep at hpre ⊢
  by_cases hc : s[i] = 32
  · rw [if_pos hc] at hpre ⊢
    exact .inl ⟨hc, rfl⟩
  · rw [if_neg hc] at hpre ⊢
    obtain ⟨r, hr⟩ := hpre
    rcases kk_aux (trimB s) _ r _ _ hr with ⟨e, h⟩ | ⟨e, h⟩
    · exact .inr (.inl ⟨hc, e, h⟩)
    · exact .inr (.inr ⟨hc, e, h⟩)
theorem cas_ul (x : Nat) : cas 97 65 (cas 65 97 x) = cas 97 65 x := by
  unfold cas
  repeat' split
  all_goals omega
theorem cas_lu (x : Nat) : cas 65 97 (cas 97 65 x) = cas 65 97 x := by
  unfold cas
  repeat' split
  all_goals omega
theorem casB_twice (f t : Nat) (hf : f ≤ 97) (ht : t ≤ 97) (h : ∀ x, cas t f (cas f t x) = cas t f x) (s : ByteArray) : casB t f (casB f t s) = casB t f s := by
  unfold casB
  show (⟨(List.map _ (List.map _ s.data.toList)).toArray⟩ : ByteArray) = _
  rw [List.map_map]
  congr 3
  funext c
  have := cas_le hf ht (show c.toNat ≤ 255 by have := c.toNat_lt; omega)
  simp only [Function.comp]
  rw [b1 (by omega), h]
theorem casB_size (f t : Nat) (s : ByteArray) : (casB f t s).size = s.size := by
  show (List.map _ s.data.toList).toArray.size = _
  rw [List.size_toArray, List.length_map, ← Lib.size_eq]
end Go.Proofs.YtgnmkhjilecdhaaGreatDoor.T5
