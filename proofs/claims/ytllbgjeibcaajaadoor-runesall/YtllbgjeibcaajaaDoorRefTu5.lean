/- What the reference's Turn answers, for every text: what runes.Turn answers. Proved of the Go text. -/
import Derived.Test.YtllbgjeibcaajaaDoorRefT5
import Derived.Test.YtllbgjeibcaajaaDoorStarts5
namespace Go.Proofs.YtllbgjeibcaajaaDoor
open Go.RowKit Go.Sort
set_option linter.unusedVariables false

theorem step_append_str {P : Program} {ops : Array Oper} {o : Oper} {a : Act} {w : World} {K : Act → World → Prop} {Q : Exit → Act → World → Prop} {E : Prop} (hgd : o.guard = none) (sl x : Operand) (t u : TypeId)
    (ho : o.op = .call { callee := .builtin .append, args := #[sl, x], argTypes := #[t, u] })
    (base : Nat) (e : TypeId) (i : TypeInfo) (ht : P.underlying t = some (.slice e)) (hu : P.underlying u = some .string) (hi : P.info? e = some i) (hz : i.zero = some (.int .u8 0))
    (hsize : i.size = 1) (hby : i.bytes = 1)
    (v : Value) (n : Nat) (xs : List Value) (hs : a.eval sl = v) (hown : w.ownsRow base e 1 v n xs) (s : ByteArray) (hx : a.eval x = .string s)
    (h63 : n + s.size ≤ maxLen) (hbytes : n + s.size ≤ 140737488355328) (hbase : base ≤ w.heap.size)
    (h : ∀ v' w', w'.ownsRow base e 1 v' (n + s.size) (xs ++ Lib.strCells s) → w.grownBy w' v.ownBlock → K (a.put o.dst v') w') :
    if Region.wanted o (yielded ops a.tmps) = true then Oper.wp P o a w K Q else E := by
  have hw : Region.wanted o (yielded ops a.tmps) = true := by simp [Region.wanted, hgd]
  rw [if_pos hw]
  obtain ⟨v', w', hr, h2, h3, h4⟩ := Lib.run_append_own_string (P := P) w base t u o.type e i ht hu hi hz hsize hby v n xs hown s h63 hbytes hbase
  unfold Oper.wp execOp
  simp only [ho, resolve, invoke, builtin, Sem.run_bind, Sem.run_pure, Result.andThen_ok, List.map_toArray, List.map_cons, List.map_nil, hs, hx, hr]
  exact h v' w' h2 h3
theorem own_draw {B : Nat} {w wr wx w1 : World} {v v' : Value} {n : Nat} {L : List UInt8} {s : ByteArray} (hB : B ≤ wr.heap.size) (hnx : Below B w wr) (e1 : wx.os = wr.os) (e2 : wx.tape = wr.tape) (e3 : wx.output = wr.output) (e4 : wx.heap = wr.heap)
    (hown' : w1.ownsRow B 5 1 v' (n + s.size) (vs L ++ Lib.strCells s)) (hown : wr.ownsRow B 5 1 v n (vs L)) (hgrow : wx.grownBy w1 v.ownBlock) :
    w1.ownsRow B 5 1 v' (n + s.size) (vs (L ++ s.data.toList)) ∧ Below B w w1 := by
  have hx : Below B w wx := ⟨e1.trans hnx.os, e2.trans hnx.tape, e3.trans hnx.output, by rw [e4]; exact hnx.size, fun k hk => by rw [e4]; exact hnx.block k hk⟩
  refine ⟨by rw [← vs_str]; exact hown', hx.grown hgrow (by rw [e4]; exact hB) fun j hj => ?_⟩
  exact (hown.lt j hj).1
set_option maxHeartbeats 1000000 in
theorem rturn_any (s : ByteArray) (hs : s.size ≤ 200000) : CallIs 40 #[.string s] (.string (turned s)) := by
  intro w
  obtain ⟨i0, hi, hz0, hz1, hz2⟩ := info_parts info_u8
  have HS := starts_any s hs
  have hr := hide (rc_size s)
  have hlt := hide (tk_len s (rc s 0))
  have hwr : Hid (wrap64 ((rc s 0 : Int) - 1) = (rc s 0 : Int) - 1) := hide (IntWalk.wrap64_in _ ⟨by have := hr.out; omega, by have := hr.out; omega⟩)
  have hwr' := hwr.out
  have hone : (rc s 0 : Int) + 1 - 2 = (rc s 0 : Int) - 1 := by clear hwr'; omega
  go_enter Tryd.func40, Tryd.ntmps40
  go_wp2_with fail
  refine (HS.out _).mono ?_
  rintro e w1 ⟨g, c, rfl, hg, hc, hP, hb⟩
  replace hP := hide hP
  have hb' := hide hb
  go_wp2_with fail
  clear hwr' hone
  go_loopw [4, 5] (fun v iv wr => ∃ (k : Nat) (B : List UInt8), k ≤ rc s 0 ∧ iv = .int .i64 ((k : Int) - 1) ∧ Hid (B ++ tk s k = tk s (rc s 0)) ∧ Hid (wr.ownsRow w1.heap.size 5 1 v B.length (vs B)) ∧ Hid (Below w1.heap.size w1 wr)) (fun _ iv _ => (intOf iv + 1).toNat)
  case atStart => exact ⟨rc s 0, [], Nat.le_refl _, by rw [hwr.out], hide rfl, hide (World.ownsRow_nil _ _ _ _), hide (Below.refl _ _)⟩
  case round =>
    obtain ⟨k, B, hk, rfl, hS, hown, hB⟩ := hrel
    have hwz := hB.out.size
    have hrs := hr.out
    have hBl : B.length ≤ 200000 := by
      have := congrArg List.length hS.out
      rw [List.length_append, hlt.out, tk_len] at this
      have := sk_le s (rc s 0) 0 (Nat.zero_le _)
      omega
    cases k with
    | zero =>
      have hcv := conv_own hown.out
      have hres : Hid (turned s = ⟨B.toArray⟩) := by
        have := hS.out
        rw [show tk s 0 = [] from rfl, List.append_nil] at this
        rw [this]; exact hide rfl
      rw [← hres.out] at hcv
      have b1 : ¬ ((0 : Nat) : Int) - 1 ≥ 0 := by omega
      clear hrs
      go_wp2_with fail
      go_ret
      exact ⟨rfl, next hb'.out hB.out⟩
    | succ m =>
      rw [show ((m + 1 : Nat) : Int) - 1 = (m : Int) by omega]
      have c1 := hP.out.keep hB.out m (by omega)
      have c2 := hP.out.keep hB.out (m + 1) (by omega)
      have hT : Hid (tk s (m + 1) = (s.extract (sk s m 0) (sk s (m + 1) 0)).data.toList ++ tk s m) := hide (by rw [pc_ext]; rfl)
      have hl1 := sk_mono s (show m ≤ m + 1 by omega) 0
      have hl2 := sk_le s (m + 1) 0 (Nat.zero_le _)
      have hxz : (s.extract (sk s m 0) (sk s (m + 1) 0)).size ≤ 200000 := by rw [ByteArray.size_extract]; omega
      have hS2 : Hid ((B ++ (s.extract (sk s m 0) (sk s (m + 1) 0)).data.toList) ++ tk s m = tk s (rc s 0)) := by rw [List.append_assoc, ← hT.out]; exact hS
      have hlen : Hid ((B ++ (s.extract (sk s m 0) (sk s (m + 1) 0)).data.toList).length = B.length + (s.extract (sk s m 0) (sk s (m + 1) 0)).size) := hide (by rw [List.length_append, ← Lib.size_eq])
      generalize sk s m 0 = x0 at *
      generalize sk s (m + 1) 0 = x1 at *
      obtain ⟨m1, hm1⟩ : ∃ m1, m1 = m + 1 := ⟨_, rfl⟩
      rw [← hm1] at c2
      have b1 : (m : Int) ≥ 0 := by omega
      have b2 : (m : Int) < (rc s 0 : Int) + 1 := by omega
      have b3 : (m1 : Int) < (rc s 0 : Int) + 1 := by omega
      have wi : Hid (IntKind.i64.wrap ((m : Int) + 1) = (m1 : Int)) := hide (by rw [wrap_small _ (by omega) (by omega)]; omega)
      have wm : Hid (wrap64 ((m : Int) - 1) = (m : Int) - 1) := hide (IntWalk.wrap64_in _ ⟨by omega, by omega⟩)
      have hown0 := hown.out
      have hmk : m ≤ rc s 0 := by omega
      replace hm1 := hide hm1
      replace hrs := hide hrs
      replace hk := hide hk
      go_wp2_with fail
      have wi := wi.out
      go_region_law (refine step_append_str rfl (.tmp 15) (.tmp 26) 47 9 rfl w1.heap.size 5 i0 Tryd.underlying47 Tryd.underlying9 hi hz0 hz1 hz2 _ _ _ rfl hown0 (s.extract x0 x1) (by simp [Act.eval, Act.put]) (by unfold maxLen; omega) (by omega) hwz ?_; intro v' w2 hown' hgrow)
      all_goals (
        have R := hide (own_draw (wx := wr.drew) hwz hB.out rfl rfl rfl rfl hown' hown0 hgrow)
        clear hown' hgrow hown0
        go_wp2
        go_roundw
        case rel => exact ⟨m, _, hmk, by rw [wm.out], hS2, hide (by rw [hlen.out]; exact R.out.1), hide R.out.2⟩
        case measure => (rw [wm.out]; simp only [intOf]; clear wi; omega))
end Go.Proofs.YtllbgjeibcaajaaDoor
