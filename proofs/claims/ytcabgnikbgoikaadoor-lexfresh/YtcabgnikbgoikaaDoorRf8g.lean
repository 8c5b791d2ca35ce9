/- The document's own Cut answers the words of a text, for every text. Proved of the Go text. -/
import Derived.Test.YtcabgnikbgoikaaDoorRf8h
import Derived.Test.YtcabgnikbgoikaaDoorCut8
namespace Go.Proofs.YtcabgnikbgoikaaDoor
open Go.RowKit Go.Sort
set_option linter.unusedVariables false

section
variable {w : World} {ops : Array Oper} {rest : List Oper} {o : Oper} {a : Act} {Q : Exit → Act → World → Prop} {B X : Nat} {v : Value} {l : List Wd} {y : Wd}
theorem wpList_appW (hg : o.guard = none) (s x : Operand) (hop : o.op = Op.call { callee := Callee.builtin Builtin.append, args := #[s, x], argTypes := #[26, 26] })
    (hs : a.eval s = v) (hx : a.eval x = .slice (some ⟨X, 0, none⟩) 1 1) (hown : RowW w B v l) (hc : w.cell? ⟨X, 0, none⟩ = some (.int .i64 y.kind) ∧ w.cell? ⟨X, 1, none⟩ = some (.string (ba y.text)) ∧ w.cell? ⟨X, 2, none⟩ = some (.int .i64 y.at')) (hl : l.length < 1000000) (hB : B ≤ w.heap.size)
    (hK : ∀ v' w', RowW w' B v' (l ++ [y]) → w.grownBy w' v.ownBlock → wpList Tryd.prog ops Q rest (a.put o.dst v') w') : wpList Tryd.prog ops Q (o :: rest) a w := by
  obtain ⟨i0, hi, hz0, hz1, hz2⟩ := info_parts info_word
  have ha : ∀ j, (⟨X, 0, none⟩ : Addr).add j = ⟨X, j, none⟩ := fun j => by unfold Addr.add; split <;> simp_all
  refine wpList_append_own _ hg s x 26 hop B 32 i0 (.agg #[.int .i64 0, .string no, .int .i64 0]) 3 32 Tryd.underlying26 hi hz0 hz1 hz2 rfl (by decide) v _ _ hs hown ⟨X, 0, none⟩ 1 1 [.int .i64 y.kind, .string (ba y.text), .int .i64 y.at'] hx rfl (fun j u hj => by
      rw [ha]
      match j, hj with
      | 0, hj => simp at hj; subst hj; exact hc.1
      | 1, hj => simp at hj; subst hj; exact hc.2.1
      | 2, hj => simp at hj; subst hj; exact hc.2.2) (fun u hu => by simp at hu; rcases hu with rfl | rfl | rfl <;> rfl) (by unfold maxLen; omega) (by omega) hB ?_
  intro v' w' h1 h2 _
  exact hK v' w' (by unfold RowW; rw [flatW_append, List.length_append]; exact h1) h2
end
theorem tok_bad {R : List UInt8 → Bool} {l : List UInt8} {e : Nat} (h : tok R l = .bad e) : e = 12 ∨ e = 21 := by
  unfold tok runTok numTok namTok txtTok spTok at h
  repeat' split at h
  all_goals cases h
  all_goals simp
set_option maxHeartbeats 8000000 in
theorem rcut8 (s : ByteArray) (w : World) (hmax : s.size ≤ maxLen) : Calls Tryd.prog 5 #[.string s] w fun e w' => CutP w w' (cutR s) e := by
  have hs' : s.size ≤ 9223372036854775807 := hmax
  by_cases hs : s.size ≤ 65535
  · have HR : Hid (cutR s = cutA refL s.data.toList 0 []) := hide (if_neg (by omega))
    generalize cutR s = fin at *
    have hL := hide (Lib.size_eq s)
    go_enter Tryd.func5, Tryd.ntmps5
    go_wp2_with fail
    go_loopw [5, 6] (fun v a wr => ∃ (i : Nat) (acc : List Wd), i ≤ s.size ∧ acc.length ≤ i ∧ a = .int .i64 i ∧ Hid (cutA refL (s.data.toList.drop i) i acc = fin) ∧ Hid (RowW wr w.heap.size v acc) ∧ Hid (Below w.heap.size w wr)) (fun _ a _ => s.size - (intOf a).toNat)
    case atStart => exact ⟨0, [], Nat.zero_le _, Nat.le_refl _, rfl, hide HR.out.symm, hide (RowW.nil _ _), hide (Below.refl _ _)⟩
    case round =>
      obtain ⟨i, acc, hi, hal, rfl, hC, hrow, hB⟩ := hrel
      obtain ⟨av, cv, rfl⟩ := row_slice hrow.out
      by_cases hlt : i < s.size
      · have hii : (i : Int) < s.size := by omega
        have HBl := rblank8 s i hs hlt
        have HO := rone8 s i hs hlt
        have hbl := bl_len (s.data.toList.drop i)
        rw [List.length_drop, ← hL.out] at hbl
        by_cases h0 : 0 < bl (s.data.toList.drop i)
        · have hC2 : Hid (cutA refL (s.data.toList.drop (i + bl (s.data.toList.drop i))) (i + bl (s.data.toList.drop i)) acc = fin) := hide (by rw [← hC.out, cut_blank refL h0, List.drop_drop])
          generalize bl (s.data.toList.drop i) = n at *
          have hn : (0 : Int) < n := by omega
          have hin : (i : Int) + n ≤ 9223372036854775807 := by omega
          clear HO
          go_wp2_with fail
          refine (HBl.out _).mono ?_
          rintro e1 w2 ⟨rfl, hb2⟩
          have hrow2 := hide (row_keep hrow.out hb2)
          have hB2 := hide (next hB.out hb2)
          go_wp2_with fail
          go_roundw
          case rel => exact ⟨i + n, acc, by omega, by omega, by go_num, hC2, hrow2, hB2⟩
          case measure => simp [intOf]; omega
        · have hb0 : bl (s.data.toList.drop i) = 0 := by omega
          rw [hb0] at HBl
          have hcn : s.data.toList.drop i ≠ [] := by rw [drop_cons s i hlt]; simp
          cases hT : tok refL (s.data.toList.drop i) with
          | bad e =>
            have hfin : Hid (fin = .bad i e) := hide (by rw [← hC.out]; exact cut_bad refL hcn hb0 hT _ _)
            have he := tok_bad hT
            have he1 : ((e : Int) != 0) = true := by rw [bne_iff_ne]; omega
            rw [hT] at HO
            simp only [gotOf] at HO
            clear hT hcn hb0 h0 hbl he
            go_wp2_with fail
            refine (HBl.out _).mono ?_
            rintro e1 w2 ⟨rfl, hb2⟩
            have hB2 := hide (next hB.out hb2)
            go_wp2_with fail
            refine (HO.out _).mono ?_
            rintro e1 w3 ⟨rfl, hb3⟩
            have hB3 := hide (step (next hB2.out hb3) (gotO 0 no 0 0 e))
            have c4 := (Blk.new w3 (cells5 0 no 0 0 e) 37).cells5'.2.2.2.2
            have q4 := cell_regrown c4
            go_wp2_with fail
            go_quiet (fail)
            go_wp2_with fail
            go_returns
            rw [hfin.out]
            exact ⟨below_dn hB3.out _, rfl⟩
          | ok k t n =>
            have htn := tok_len hT
            rw [List.length_drop, ← hL.out] at htn
            have hC2 : Hid (cutA refL (s.data.toList.drop (i + n)) (i + n) (acc ++ [⟨k, t, i⟩]) = fin) := hide (by rw [← hC.out, cut_word refL hb0 hT, List.drop_drop])
            rw [hT] at HO
            simp only [gotOf] at HO
            clear hT hcn hb0 h0 hbl
            go_wp2_with fail
            refine (HBl.out _).mono ?_
            rintro e1 w2 ⟨rfl, hb2⟩
            have hrow2 := hide (row_keep hrow.out hb2)
            have hB2 := hide (next hB.out hb2)
            clear hb2
            go_wp2_with fail
            refine (HO.out _).mono ?_
            rintro e1 w3 ⟨rfl, hb3⟩
            have hrow3 := hide (row_keep (row_keep (row_keep hrow2.out hb3) (step (Below.refl _ _) (gotO k (ba t) i ((i : Int) + n) 0))) (step (Below.refl _ _) (wdO k (ba t) i)))
            have hB3 := hide (step (step (next hB2.out hb3) (gotO k (ba t) i ((i : Int) + n) 0)) (wdO k (ba t) i))
            have hg3 := hide ((Blk.new w3 (cells5 k (ba t) i ((i : Int) + n) 0) 37).alloc (wdO k (ba t) i))
            have cn := (Blk.new (w3.alloc (gotO k (ba t) i ((i : Int) + n) 0)) #[.int .i64 k, .string (ba t), .int .i64 i] 32).cells3
            simp only [World.size_alloc] at cn
            have hz3 := hide hB3.out.size
            replace hal := hide hal
            clear hb3
            go_wp2_with (at_builtin; refine wpList_appW (y := ⟨k, t, i⟩) rfl _ _ rfl rfl rfl hrow3.out cn (by have := hal.out; omega) hz3.out ?_)
            intro v5 w5 hrow5 hg5
            have hg5' := hg3.out.kept hg5 (fun e => row_ne hrow3.out hg3.out (by decide) e.symm)
            have c3 := hg5'.cells5'.2.2.2.1
            have hB5 := hide (hB3.out.grown hg5 hB3.out.size (fun j e => (hrow3.out.lt j e).1))
            replace hrow5 := hide hrow5
            clear hg5 hg5' cn
            go_wp2_with fail
            go_roundw
            case rel => exact ⟨i + n, acc ++ [⟨k, t, i⟩], by omega, by have := hal.out; simp; omega, by go_num, hC2, hrow5, hB5⟩
            case measure => simp [intOf]; omega
      · obtain rfl : i = s.size := by omega
        have hii : ¬ (s.size : Int) < s.size := by omega
        have hfin : Hid (fin = .ok acc) := hide (by rw [← hC.out, drop_nil s s.size (Nat.le_refl _)]; rfl)
        go_wp2_with fail
        go_returns
        rw [hfin.out]
        exact ⟨hB.out, _, rfl, hrow.out⟩
  · have HR : Hid (cutR s = .bad 0 2) := hide (if_pos (by omega))
    have hd : (65535 : Int) < s.size := by omega
    go_enter Tryd.func5, Tryd.ntmps5
    go_wp2_with fail
    go_returns
    rw [HR.out]
    exact ⟨Below.refl _ _, rfl⟩
end Go.Proofs.YtcabgnikbgoikaaDoor
