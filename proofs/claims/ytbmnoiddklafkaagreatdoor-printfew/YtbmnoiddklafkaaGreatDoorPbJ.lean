/- nested: how many brackets stand within one another in a text. Proved of the Go text. tree.Same: what it answers of every two trees. PrintBack: the law's walk, for every tree: what is written is read back as the tree, it is short, and its brackets are few levels deep. -/
import Derived.Test.YtbmnoiddklafkaaGreatDoorGnJ
import Derived.Test.YtbmnoiddklafkaaGreatDoorCtJ
import Derived.Test.YtbmnoiddklafkaaGreatDoorSmJ
import Derived.Test.YtbmnoiddklafkaaGreatDoorFoJ
import Derived.Test.YtbmnoiddklafkaaGreatDoorFrJ
import Derived.Test.YtbmnoiddklafkaaGreatDoorFlJ
namespace Go.Proofs.YtbmnoiddklafkaaGreatDoor.T9
open Go.RowKit Go.Sort
set_option linter.unusedVariables false

theorem nsL_step (s : ByteArray) (k : Nat) (h : k < s.size) : nsL (0, 0, false) (s.data.toList.take (k + 1)) = nsB (nsL (0, 0, false) (s.data.toList.take k)) s[k] := by
  rw [take_snoc s k h, nsL_app]; rfl
theorem byt_eq (c d : UInt8) : ((c.toNat : Int) == (d.toNat : Int)) = decide (c = d) := by
  by_cases h : c = d
  · subst h; simp
  · rw [decide_eq_false h, beq_eq_false_iff_ne]
    intro e
    exact h (UInt8.toNat_inj.1 (by omega))
theorem byt_yes {c : UInt8} {n : Int} (d : UInt8) (hd : (d.toNat : Int) = n) (h : c = d) : ((c.toNat : Int) == n) = true := by rw [← hd, byt_eq, decide_eq_true h]
theorem byt_no {c : UInt8} {n : Int} (d : UInt8) (hd : (d.toNat : Int) = n) (h : ¬ c = d) : ((c.toNat : Int) == n) = false := by rw [← hd, byt_eq, decide_eq_false h]
set_option maxHeartbeats 4000000 in
set_option maxRecDepth 100000 in
theorem nested_any (s : ByteArray) (hs : s.size ≤ 100000) (w : World) : Calls Tryz.prog 25 #[.string s] w fun e w' => e = .returned (.int .i64 (nsL (0, 0, false) s.data.toList).2.1) ∧ Below w.heap.size w w' := by
  have hsz := hide (Lib.size_eq s)
  go_enter Tryz.func25, Tryz.ntmps25
  go_wp2_with fail
  go_loopw [3, 4, 5, 6] (fun n m t i wr => ∃ (k : Nat) (x y : Int) (b : Bool), k ≤ s.size ∧ n = .int .i64 x ∧ m = .int .i64 y ∧ t = .bool b ∧ i = .int .i64 k ∧ Hid (nsL (0, 0, false) (s.data.toList.take k) = (x, y, b)) ∧ (-(k : Int) ≤ x ∧ x ≤ k) ∧ Hid (Below w.heap.size w wr)) (fun _ _ _ i _ => s.size - (intOf i).toNat)
  case atStart => exact ⟨0, 0, 0, false, Nat.zero_le _, rfl, rfl, rfl, rfl, hide rfl, by omega, hide (Below.refl _ _)⟩
  case round =>
    obtain ⟨k, x, y, b, hk, rfl, rfl, rfl, rfl, hN, hx, hB⟩ := hrel
    by_cases hlt : k < s.size
    · have hki : (k : Int) < s.size := by omega
      have st := nsL_step s k hlt
      rw [hN.out] at st
      have w1 : wrap64 ((k : Int) + 1) = ((k + 1 : Nat) : Int) := by rw [IntWalk.wrap64_in _ ⟨by omega, by omega⟩]; omega
      have w2 : wrap64 (x + 1) = x + 1 := IntWalk.wrap64_in _ ⟨by omega, by omega⟩
      have w3 : wrap64 (x - 1) = x - 1 := IntWalk.wrap64_in _ ⟨by omega, by omega⟩
      by_cases h34 : s[k] = 34
      · have t1 := byt_yes (n := 34) 34 rfl h34
        rw [show nsB (x, y, b) s[k] = (x, y, !b) by unfold nsB; rw [if_pos h34]] at st
        replace st := hide st
        clear h34
        go_wp2_with fail
        go_roundw
        case rel => exact ⟨k + 1, x, y, !b, by omega, rfl, rfl, rfl, by go_num, st, by omega, hB⟩
        case measure =>
          show s.size - Int.toNat ((k : Int) + 1) < s.size - Int.toNat (k : Int)
          omega
      · have t1 := byt_no (n := 34) 34 rfl h34
        cases b
        · by_cases h40 : s[k] = 40
          · have t2 := byt_yes (n := 40) 40 rfl h40
            rw [show nsB (x, y, false) s[k] = (x + 1, max y (x + 1), false) by unfold nsB; rw [if_neg h34, if_neg (by simp), if_pos h40]] at st
            replace st := hide st
            clear h34 h40
            go_wp2_with fail
            go_roundw
            case rel => exact ⟨k + 1, x + 1, max y (x + 1), false, by omega, rfl, rfl, rfl, by go_num, st, by omega, hB⟩
            case measure =>
              show s.size - Int.toNat ((k : Int) + 1) < s.size - Int.toNat (k : Int)
              omega
          · have t2 := byt_no (n := 40) 40 rfl h40
            by_cases h41 : s[k] = 41
            · have t3 := byt_yes (n := 41) 41 rfl h41
              rw [show nsB (x, y, false) s[k] = (x - 1, y, false) by unfold nsB; rw [if_neg h34, if_neg (by simp), if_neg h40, if_pos h41]] at st
              replace st := hide st
              clear h34 h40 h41
              go_wp2_with fail
              go_roundw
              case rel => exact ⟨k + 1, x - 1, y, false, by omega, rfl, rfl, rfl, by go_num, st, by omega, hB⟩
              case measure =>
                show s.size - Int.toNat ((k : Int) + 1) < s.size - Int.toNat (k : Int)
                omega
            · have t3 := byt_no (n := 41) 41 rfl h41
              rw [show nsB (x, y, false) s[k] = (x, y, false) by unfold nsB; rw [if_neg h34, if_neg (by simp), if_neg h40, if_neg h41]] at st
              replace st := hide st
              clear h34 h40 h41
              go_wp2_with fail
              go_roundw
              case rel => exact ⟨k + 1, x, y, false, by omega, rfl, rfl, rfl, by go_num, st, by omega, hB⟩
              case measure =>
                show s.size - Int.toNat ((k : Int) + 1) < s.size - Int.toNat (k : Int)
                omega
        · rw [show nsB (x, y, true) s[k] = (x, y, true) by unfold nsB; rw [if_neg h34, if_pos rfl]] at st
          replace st := hide st
          clear h34
          go_wp2_with fail
          go_roundw
          case rel => exact ⟨k + 1, x, y, true, by omega, rfl, rfl, rfl, by go_num, st, by omega, hB⟩
          case measure =>
            show s.size - Int.toNat ((k : Int) + 1) < s.size - Int.toNat (k : Int)
            omega
    · obtain rfl : k = s.size := by omega
      have hki : ¬ ((s.size : Nat) : Int) < s.size := by omega
      have hT : Hid ((nsL (0, 0, false) s.data.toList).2.1 = y) := hide (by
        have h9 := hN.out
        rw [hsz.out, List.take_length] at h9
        rw [h9])
      go_wp2_with fail
      go_ret
      exact ⟨by rw [hT.out]; rfl, hB.out⟩
end Go.Proofs.YtbmnoiddklafkaaGreatDoor.T9
namespace Go.Proofs.YtbmnoiddklafkaaGreatDoor.T9
open Go.RowKit Go.Sort
set_option linter.unusedVariables false

set_option maxHeartbeats 1000000 in
set_option maxRecDepth 100000 in
theorem same_any (t u : Ex) (v1 v2 : Value) (w : World) (t1 : Tree w v1 t) (t2 : Tree w v2 u) :
    Calls Tryz.prog 24 #[v1, v2] w fun e w' => e = .returned (.bool (fitB t && fitB u && sameE t u)) ∧ Below w.heap.size w w' := by
  obtain ⟨n1, ks⟩ := t
  obtain ⟨n2, ls⟩ := u
  obtain ⟨a1, len1, cap1, rfl, _, _, _, _⟩ := t1.un
  obtain ⟨a2, len2, cap2, rfl, _, _, _, _⟩ := t2.un
  have bel : Below w.heap.size w ((w.alloc (exO n1 (.slice a1 len1 cap1))).alloc (exO n2 (.slice a2 len2 cap2))) := step (step (Below.refl _ w) _) _
  have L1 := hide ((Blk.new w (exC n1 (.slice a1 len1 cap1)) 30).alloc (exO n2 (.slice a2 len2 cap2)))
  have L2 := hide (Blk.new1 w (exO n1 (.slice a1 len1 cap1)) (exC n2 (.slice a2 len2 cap2)) 30)
  have G1 := hide (great_any (.mk n1 ks) (exV n1 (.slice a1 len1 cap1)) _ (t1.step bel))
  have G2 := hide (fun w h => great_any (.mk n2 ls) (exV n2 (.slice a2 len2 cap2)) w h)
  have HI := hide (fun B w => isSame_any B (.mk n1 ks) (.mk n2 ls) (exV n1 (.slice a1 len1 cap1)) (exV n2 (.slice a2 len2 cap2)) w)
  replace t1 := hide t1
  replace t2 := hide t2
  replace bel := hide bel
  cases q1 : fitB (.mk n1 ks)
  · rw [q1] at G1
    go_enter Tryz.func24, Tryz.ntmps24
    go_wp2_with (first
      | (refine wpList_load_blk rfl 30 _ rfl _ rfl _ L1.out _ Tryz.underlying30 rfl (exC_info _ _) ?_)
      | (go_at_call 30; refine G1.out.mono ?_; rintro e w1 ⟨rfl, hb1⟩; replace hb1 := hide (next bel.out hb1)))
    go_ret
    exact ⟨rfl, hb1.out⟩
  · rw [q1] at G1
    cases q2 : fitB (.mk n2 ls)
    · rw [q2] at G2
      go_enter Tryz.func24, Tryz.ntmps24
      go_wp2_with (first
        | (refine wpList_load_blk rfl 30 _ rfl _ rfl _ L1.out _ Tryz.underlying30 rfl (exC_info _ _) ?_)
        | (refine wpList_load_blk_g rfl 30 _ rfl _ rfl _ M2.out _ Tryz.underlying30 rfl (exC_info _ _) ?_)
        | (go_at_call 30; refine G1.out.mono ?_; rintro e w1 ⟨rfl, hb1⟩; have M1 := hide (L1.out.keep hb1); have M2 := hide (L2.out.keep hb1); replace hb1 := hide (next bel.out hb1); replace G1 := trivial)
        | (go_at_call 30; refine (G2.out w1 (t2.out.step hb1.out)).mono ?_; rintro e w2 ⟨rfl, hb2⟩; have O1 := hide (M1.out.keep hb2); have O2 := hide (M2.out.keep hb2); replace hb2 := hide (next hb1.out hb2)))
      go_ret
      exact ⟨rfl, hb2.out⟩
    · rw [q2] at G2
      go_enter Tryz.func24, Tryz.ntmps24
      go_wp2_with (first
        | (refine wpList_load_blk rfl 30 _ rfl _ rfl _ R1.out _ Tryz.underlying30 rfl (exC_info _ _) ?_)
        | (refine wpList_load_blk rfl 30 _ rfl _ rfl _ R2.out _ Tryz.underlying30 rfl (exC_info _ _) ?_)
        | (refine wpList_load_blk rfl 30 _ rfl _ rfl _ L1.out _ Tryz.underlying30 rfl (exC_info _ _) ?_)
        | (refine wpList_load_blk_g rfl 30 _ rfl _ rfl _ M2.out _ Tryz.underlying30 rfl (exC_info _ _) ?_)
        | (go_at_call 30; refine G1.out.mono ?_; rintro e w1 ⟨rfl, hb1⟩; have M1 := hide (L1.out.keep hb1); have M2 := hide (L2.out.keep hb1); replace hb1 := hide (next bel.out hb1); replace G1 := trivial)
        | (go_at_call 30; refine (G2.out w1 (t2.out.step hb1.out)).mono ?_; rintro e w2 ⟨rfl, hb2⟩; have O1 := hide (M1.out.keep hb2); have O2 := hide (M2.out.keep hb2); replace hb2 := hide (next hb1.out hb2); have R1 := hide (O1.out.alloc (.cells #[isV w2.heap.size] 36)); have R2 := hide (O2.out.alloc (.cells #[isV w2.heap.size] 36)))
        | (go_at_call 47; refine (HI.out _ _ (t1.out.step (step hb2.out _)) (t2.out.step (step hb2.out _)) (Blk.new _ _ _)).mono ?_; rintro e w3 ⟨rfl, hb3⟩; replace hb3 := hide (next (step hb2.out _) hb3)))
      go_ret
      exact ⟨rfl, hb3.out⟩
end Go.Proofs.YtbmnoiddklafkaaGreatDoor.T9
namespace Go.Proofs.YtbmnoiddklafkaaGreatDoor
open T9
open Go.RowKit Go.Sort
set_option linter.unusedVariables false

namespace T9
theorem forV_ok {t : Ex} (h : mayR t = 0) : forV t = .tuple #[.string (ba (61 :: txE t)), .int .i64 0] := by unfold forV; rw [if_pos h]
theorem forV_no {t : Ex} (h : ¬ mayR t = 0) : forV t = .tuple #[.string no, .int .i64 (mayR t)] := by unfold forV; rw [if_neg h]
set_option maxHeartbeats 4000000 in
set_option maxRecDepth 100000 in
theorem printBack_walk (t : Ex) (v : Value) (w : World) (hl : Lay11 w) (h8 : Lay8 w) (ht : Tree w v t) (hN : NumE t) : Calls Tryz.prog 7 #[v] w fun e w' => e = .returned (.bool true) ∧ Below w.heap.size w w' := by
  have HB := hide (fun w' (hb : Below w.heap.size w w') => begun11 w' (hl.keep hb))
  have H1 := hide (fun w' (hb : Below w.heap.size w w') => may_any t v w' (ht.step hb))
  have HF := hide (fun w' (hb : Below w.heap.size w w') => formula_any t v w' (ht.step hb) (hl.keep hb) hN)
  have HT := hide (fun w' (hb : Below w.heap.size w w') => ht.step hb)
  by_cases h1 : mayR t = 0
  · rw [forV_ok h1] at HF
    rw [h1] at H1
    have hsz : (ba (61 :: txE t)).size ≤ 65536 := by
      have := txE_short h1 hN
      rw [ba_size, List.length_cons]
      omega
    have HP := hide (fun w' (hb : Below w.heap.size w w') => parse_any (ba (61 :: txE t)) (Nat.le_trans hsz (by decide)) w' (h8.keep hb))
    rw [par_back h1 hN] at HP
    obtain ⟨mm, hn1, hn2⟩ := nest_back h1
    have HN := hide (fun w' => nested_any (ba (61 :: txE t)) (by omega) w')
    rw [ba_list, hn1] at HN
    have HS := hide (fun v2 w' (hb : Below w.heap.size w w') (ht2 : Tree w' v2 t) => same_any t t v v2 w' (ht.step hb) ht2)
    rw [show (fitB t && fitB t && sameE t t) = true by rw [(may_all h1).1, same_self]; rfl] at HS
    generalize ba (61 :: txE t) = S at *
    have hsz2 : (S.size : Int) ≤ 65536 := by omega
    replace hsz := hide hsz
    clear hn1 h1 hl h8
    obtain ⟨nd, ks⟩ := t
    obtain ⟨a, len, cap, rfl, _, _, _, _⟩ := ht.un
    have P0 := hide (Blk.new w (exC nd (.slice a len cap)) 30)
    have B0 := hide (step (Below.refl w.heap.size w) (exO nd (.slice a len cap)))
    clear ht hN HT
    go_enter Tryz.func7, Tryz.ntmps7
    go_wp2_with (first
      | (refine wpList_load_blk rfl 30 _ rfl _ rfl _ (by with_reducible exact U4.out) _ Tryz.underlying30 rfl (exC_info _ _) ?_)
      | (refine wpList_load_blk_g rfl 30 _ rfl _ rfl _ (by with_reducible exact U4.out) _ Tryz.underlying30 rfl (exC_info _ _) ?_)
      | (refine wpList_load_blk rfl 30 _ rfl _ rfl _ (by with_reducible exact P4.out) _ Tryz.underlying30 rfl (exC_info _ _) ?_)
      | (refine wpList_load_blk_g rfl 30 _ rfl _ rfl _ (by with_reducible exact P4.out) _ Tryz.underlying30 rfl (exC_info _ _) ?_)
      | (refine wpList_load_blk rfl 30 _ rfl _ rfl _ (by with_reducible exact P2.out) _ Tryz.underlying30 rfl (exC_info _ _) ?_)
      | (refine wpList_load_blk rfl 30 _ rfl _ rfl _ (by with_reducible exact P1.out) _ Tryz.underlying30 rfl (exC_info _ _) ?_)
      | (have hq := B5; go_at_call 25; refine (HN.out _).mono ?_; rintro e w6 ⟨rfl, hb⟩; clear hq; have B6 := hide (next B5.out hb); clear hb)
      | (have hq := B4; go_at_call 24; refine (HS.out _ _ B4.out T4.out).mono ?_; rintro e w5 ⟨rfl, hb⟩; clear hq; have B5 := hide (next B4.out hb); clear hb)
      | (have hq := B3; go_at_call 11; refine (HP.out _ B3.out).mono ?_; rintro e w4 h4; obtain ⟨a2, len2, cap2, bs2, rfl, hN2, hb, hsm⟩ : ∃ (a2 : Option Addr) (len2 cap2 : Nat) (bs2 : List Nat), e = .returned (.tuple #[exV nd (.slice a2 len2 cap2), .int .i64 0, .int .i64 0]) ∧ New w3 w4 (exV nd (.slice a2 len2 cap2)) (.mk nd ks) bs2 ∧ Below w3.heap.size w3 w4 ∧ SmE (.mk nd ks) := h4; clear hq; have hsn := run_putnew w4 nd a2 len2 cap2; have B4 := hide (step (next B3.out hb) (exO nd (.slice a2 len2 cap2))); have P4 := hide ((P3.out.keep hb).alloc (exO nd (.slice a2 len2 cap2))); have U4 := hide (Blk.new w4 (exC nd (.slice a2 len2 cap2)) 30); have T4 := hide ((show Tree w4 (exV nd (.slice a2 len2 cap2)) (.mk nd ks) from hN2.ow.in' _ (fun k hk => (hN2.at' k hk).2) hsm).step (step (Below.refl _ w4) (exO nd (.slice a2 len2 cap2)))); clear hb hN2 hsm)
      | (have hq := B2; go_at_call 12; refine (H1.out _ B2.out).mono ?_; rintro e w3 ⟨rfl, hb⟩; clear hq; have B3 := hide (next B2.out hb); have P3 := hide (P2.out.keep hb); clear hb)
      | (have hq := B1; go_at_call 23; refine (HF.out _ B1.out).mono ?_; rintro e w2 ⟨rfl, hb⟩; clear hq; have B2 := hide (next B1.out hb); have P2 := hide (P1.out.keep hb); clear hb)
      | (have hq := B0; go_at_call 22; refine (HB.out _ B0.out).mono ?_; rintro e w1 ⟨rfl, hb⟩; clear hq; have B1 := hide (next B0.out hb); have P1 := hide (P0.out.keep hb); clear hb))
    go_ret
    exact ⟨rfl, B6.out⟩
  · have m1 : (mayR t == 0) = false := by simpa using h1
    have m2 : (mayR t != 0) = true := by simpa using h1
    rw [forV_no h1] at HF
    obtain ⟨nd, ks⟩ := t
    obtain ⟨a, len, cap, rfl, _, _, _, _⟩ := ht.un
    generalize mayR (.mk nd ks) = M at *
    have P0 := hide (Blk.new w (exC nd (.slice a len cap)) 30)
    have B0 := hide (step (Below.refl w.heap.size w) (exO nd (.slice a len cap)))
    clear ht hN HT hl h8
    go_enter Tryz.func7, Tryz.ntmps7
    go_wp2_with (first
      | (refine wpList_load_blk rfl 30 _ rfl _ rfl _ (by with_reducible exact P3.out) _ Tryz.underlying30 rfl (exC_info _ _) ?_)
      | (refine wpList_load_blk_g rfl 30 _ rfl _ rfl _ (by with_reducible exact P3.out) _ Tryz.underlying30 rfl (exC_info _ _) ?_)
      | (refine wpList_load_blk rfl 30 _ rfl _ rfl _ (by with_reducible exact P2.out) _ Tryz.underlying30 rfl (exC_info _ _) ?_)
      | (refine wpList_load_blk rfl 30 _ rfl _ rfl _ (by with_reducible exact P1.out) _ Tryz.underlying30 rfl (exC_info _ _) ?_)
      | (have hq := B3; go_at_call 12; refine (H1.out _ B3.out).mono ?_; rintro e w4 ⟨rfl, hb⟩; clear hq; have B4 := hide (next B3.out hb); clear hb)
      | (have hq := B2; go_at_call 12; refine (H1.out _ B2.out).mono ?_; rintro e w3 ⟨rfl, hb⟩; clear hq; have B3 := hide (next B2.out hb); have P3 := hide (P2.out.keep hb); clear hb)
      | (have hq := B1; go_at_call 23; refine (HF.out _ B1.out).mono ?_; rintro e w2 ⟨rfl, hb⟩; clear hq; have B2 := hide (next B1.out hb); have P2 := hide (P1.out.keep hb); clear hb)
      | (have hq := B0; go_at_call 22; refine (HB.out _ B0.out).mono ?_; rintro e w1 ⟨rfl, hb⟩; clear hq; have B1 := hide (next B0.out hb); have P1 := hide (P0.out.keep hb); clear hb))
    go_ret
    exact ⟨by simp, B4.out⟩
end T9
end Go.Proofs.YtbmnoiddklafkaaGreatDoor
