/- GridFull: 65,536 places may have something, one more may not: the walk of the law. Proved of the Go text. -/
import Derived.Test.YtmfkeobjbcinpaaBegun7
import Derived.Test.YtmfkeobjbcinpaaRg7U
import Derived.Test.YtmfkeobjbcinpaaFull7
namespace Go.Proofs.Ytmfkeobjbcinpaa
open Go.RowKit Go.Shelf Go.Sort Go.Maps
set_option linter.unusedVariables false
attribute [local go_sem] Oper.semAt_some

set_option maxHeartbeats 4000000 in
set_option maxRecDepth 100000 in
theorem gridFull_walk (w : World) : Calls Try.prog 6 #[] w fun e w' => e = .returned (.bool true) ∧ Below w.heap.size w w' := by
  have HP := hide place_any
  refine (callsIn_wide (n := 12)).1 (callsIn_of_wp_marks Try.func6 rfl trivial (wpIn_wide.2 ?_) rfl)
  simp only [Try.ntmps6, List.size_toArray, List.length_nil, Nat.reduceSub, Array.replicate_succ, Array.replicate_zero, List.push_toArray, List.append_toArray, List.nil_append, List.cons_append]
  try simp only [List.append]
  go_wp2_with fail
  refine (begun_any _).mono ?_
  rintro e w1 ⟨rfl, hb1⟩
  have Bw := hide hb1
  clear hb1
  go_wp2_with fail
  refine (tnewU _).mono ?_
  rintro e w2 ⟨Bt, b, rfl, hBt, hb, T, hb2⟩
  have zb : w.heap.size ≤ b := Nat.le_trans Bw.out.size hb
  have zt : w.heap.size ≤ Bt := Nat.le_trans Bw.out.size hBt
  replace Bw := hide (next Bw.out hb2)
  replace T := hide T
  clear hb2 hBt hb
  go_wp2_with fail
  go_loopw [2] (fun i wr => ∃ k : Nat, k ≤ 65536 ∧ i = .int .i64 k ∧ Hid (TabU wr Bt b (FL k)) ∧ Hid (Below w.heap.size w wr)) (fun i _ => 65536 - (intOf i).toNat)
  case atStart => exact ⟨0, by omega, rfl, T, Bw⟩
  case round =>
    clear T Bw
    obtain ⟨k, hk, rfl, T, Bw⟩ := hrel
    by_cases hlk : k < 65536
    · have hki : (k : Int) < 65536 := by omega
      obtain ⟨fe, fl⟩ := FL_set k hlk
      go_wp2_with fail
      refine (HP.out _ _ _).mono ?_
      rintro e w3 ⟨rfl, hb3⟩
      have HS := hide (tsetU (r := (k : Int) % 1000) (c := (k : Int) / 1000) (T.out.keep hb3) ((k : Int) % 256))
      rw [show setE (FL k) ((k : Int) % 1000, (k : Int) / 1000) = 0 from fe, show setL (FL k) ((k : Int) % 1000, (k : Int) / 1000) ((k : Int) % 256) = FL (k + 1) from fl] at HS
      have B3 := hide (next Bw.out hb3)
      clear fe fl hb3 T
      go_wp2_with fail
      refine HS.out.mono ?_
      rintro e w4 ⟨rfl, T4, hg4⟩
      have B4 := hide (B3.out.grown hg4 B3.out.size (fun k e => by cases e; omega))
      replace T4 := hide T4
      clear hg4 HS B3
      go_wp2_with fail
      go_roundw
      case rel => exact ⟨k + 1, hlk, by go_num, T4, B4⟩
      case measure => simp [intOf]; omega
    · have hki : ¬ (k : Int) < 65536 := by omega
      obtain rfl : k = 65536 := by omega
      have T' : Hid (TabU wr Bt b F1) := T
      clear T
      have T := T'
      clear T'
      go_wp2_with fail
      refine (HP.out 60000 9 _).mono ?_
      rintro e w3p ⟨rfl, hbw3p⟩
      replace T := hide (T.out.keep hbw3p)
      replace Bw := hide (next Bw.out hbw3p)
      clear hbw3p
      have HS := hide (tsetU (r := 60000) (c := 9) T.out 1)
      rw [F1_e6, F1_l6] at HS
      go_wp2_with fail
      refine HS.out.mono ?_
      rintro e w3 ⟨rfl, Tw3, hgw3⟩
      clear T
      have T := hide Tw3
      replace Bw := hide (Bw.out.grown hgw3 Bw.out.size (fun k e => by cases e; omega))
      clear Tw3 hgw3
      clear HS
      go_wp2_with fail
      refine (HP.out 5 5 _).mono ?_
      rintro e w4p ⟨rfl, hbw4p⟩
      replace T := hide (T.out.keep hbw4p)
      replace Bw := hide (next Bw.out hbw4p)
      clear hbw4p
      have HS := hide (tsetU (r := 5) (c := 5) T.out 77)
      rw [F1_e5, F1_l5] at HS
      go_wp2_with fail
      refine HS.out.mono ?_
      rintro e w4 ⟨rfl, Tw4, hgw4⟩
      clear T
      have T := hide Tw4
      replace Bw := hide (Bw.out.grown hgw4 Bw.out.size (fun k e => by cases e; omega))
      clear Tw4 hgw4
      clear HS
      have HL := hide (tlenU T.out)
      rw [F2_len] at HL
      go_wp2_with fail
      refine HL.out.mono ?_
      rintro e w' ⟨rfl, rfl⟩
      clear HL
      go_wp2_with fail
      refine (HP.out (-1) 0 _).mono ?_
      rintro e w5p ⟨rfl, hbw5p⟩
      replace T := hide (T.out.keep hbw5p)
      replace Bw := hide (next Bw.out hbw5p)
      clear hbw5p
      have HS := hide (tsetU (r := (-1)) (c := 0) T.out 1)
      rw [F2_e1, F2_l1] at HS
      go_wp2_with fail
      refine HS.out.mono ?_
      rintro e w5 ⟨rfl, Tw5, hgw5⟩
      clear T
      have T := hide Tw5
      replace Bw := hide (Bw.out.grown hgw5 Bw.out.size (fun k e => by cases e; omega))
      clear Tw5 hgw5
      clear HS
      go_wp2_with fail
      refine (HP.out 5 5 _).mono ?_
      rintro e w6p ⟨rfl, hbw6p⟩
      replace T := hide (T.out.keep hbw6p)
      replace Bw := hide (next Bw.out hbw6p)
      clear hbw6p
      have HG := hide (tgetU (r := 5) (c := 5) T.out (by unfold wfI; omega) (by unfold wfI; omega))
      rw [F2_g, F2_5] at HG
      go_wp2_with fail
      refine HG.out.mono ?_
      rintro e w6 ⟨rfl, hbw6⟩
      replace T := hide (T.out.keep hbw6)
      replace Bw := hide (next Bw.out hbw6)
      clear hbw6
      clear HG
      go_wp2_with fail
      refine (HP.out 60000 9 _).mono ?_
      rintro e w7p ⟨rfl, hbw7p⟩
      replace T := hide (T.out.keep hbw7p)
      replace Bw := hide (next Bw.out hbw7p)
      clear hbw7p
      have HG := hide (tgetU (r := 60000) (c := 9) T.out (by unfold wfI; omega) (by unfold wfI; omega))
      rw [F2_6] at HG
      go_wp2_with fail
      refine HG.out.mono ?_
      rintro e w7 ⟨rfl, hbw7⟩
      replace T := hide (T.out.keep hbw7)
      replace Bw := hide (next Bw.out hbw7)
      clear hbw7
      clear HG
      go_wp2_with fail
      refine (HP.out 0 0 _).mono ?_
      rintro e w8p ⟨rfl, hbw8p⟩
      replace T := hide (T.out.keep hbw8p)
      replace Bw := hide (next Bw.out hbw8p)
      clear hbw8p
      have HD := hide (tdropU (r := 0) (c := 0) T.out (by unfold wfI; omega) (by unfold wfI; omega))
      rw [F2_0, show delT F2 (0, 0) = F3 from rfl] at HD
      go_wp2_with fail
      refine HD.out.mono ?_
      rintro e w8 ⟨rfl, Tw8, hgw8⟩
      clear T
      have T := hide Tw8
      replace Bw := hide (Bw.out.grown hgw8 Bw.out.size (fun k e => by cases e; omega))
      clear Tw8 hgw8
      clear HD
      have N := hide (Blk.new w8 #[.int .i64 0] 3)
      have HA := hide (allU_any (T.out.alloc (.cells #[.int .i64 0] 3)) (by rw [F3_len]; decide))
      obtain ⟨hl1, hl2⟩ := T.out.lt
      have zw := Bw.out.size
      replace T := hide (T.out.alloc (.cells #[.int .i64 0] 3))
      replace Bw := hide (step Bw.out (.cells #[.int .i64 0] 3))
      go_wp2_with fail
      refine HA.out.mono ?_
      rintro e w9 ⟨v1, bs1, rfl, I1, hb9, n1⟩
      replace I1 := hide I1
      replace n1 := hide n1
      replace N := hide (N.out.keep hb9)
      replace T := hide (T.out.keep hb9)
      replace Bw := hide (next Bw.out hb9)
      clear hb9
      clear HA
      obtain ⟨lb1, rfl⟩ := itU_func I1.out
      have G1 := hide (itU_at 11 (by decide) (by rw [F3_len]; decide) I1.out)
      simp only [World.size_alloc] at n1
      have nS1 : Hid (∀ k ∈ bs1, some k ≠ some w8.heap.size) := hide (fun k hk e => by have := n1.out k hk; cases e; omega)
      have zs := N.out.lt
      go_wp2_with fail
      refine rangeUN (n := 12) (by decide) G1.out (Below.refl _ _) I1.out.1 rfl
        (fun pre W => w9.grownBy W (some w8.heap.size) ∧ Blk W w8.heap.size #[.int .i64 pre.length] 3) (fun c pre W => False)
        (OwnFrom.and (ownFrom_grown w9 _) (Own.from (Blk.own _ _ _) _)) (fun c => ownFrom_pure _ _) ⟨grown_refl _ _, N.out⟩ ?assign ?body ?done ?stop
      case assign =>
        intro lo x W K hK
        gi_wp2
        exact hK
      case stop =>
        rintro D c k W hD hk h hK
        exact h.elim
      case body =>
        rintro lo pre x W hlo hr ⟨hg, bk⟩ hlt
        rw [F3_len] at hlt
        have hl := hide (show (pre ++ [x]).length = pre.length + 1 by simp)
        generalize pre.length = m at bk hlt hl
        have ck := bk.c1
        have fk := bk.fr 0
        replace hg := hide hg
        replace bk := hide bk
        have wm : (m : Int) + 1 ≤ 65536 := by omega
        clear hr
        gi_wp2
        refine ⟨(KeepsOthers.setCell _ _ _).from _, KS.of_grown (grownBy_setCell' W _ _) nS1.out, ⟨grown_set hg.out _, ?_⟩⟩
        rw [hl.out]
        exact bk.out.set _
      case done =>
        rintro D W hD ⟨hg, bk⟩ hK
        rw [List.length_attach, F3_len] at bk
        have T1 := hide (T.out.kept hg (by simp; omega) (by simp; omega))
        have B1 := hide (grown_is_below Bw.out hg (by omega))
        have K1 := hide hK
        have cN := bk.c1
        have zD := hide (show b < D ∧ w.heap.size ≤ D by omega)
        clear T Bw N I1 G1 bk hg hK
        have T := T1
        have Bw := B1
        clear T1 B1
        go_wp2_with fail
        refine (HP.out 60000 9 _).mono ?_
        rintro e w10p ⟨rfl, hbw10p⟩
        replace T := hide (T.out.keep hbw10p)
        replace Bw := hide (next Bw.out hbw10p)
        replace K1 := hide (obj_keep K1.out hbw10p)
        clear hbw10p
        have HS := hide (tsetU (r := 60000) (c := 9) T.out 1)
        rw [F3_e6, F3_l6] at HS
        go_wp2_with fail
        refine HS.out.mono ?_
        rintro e w10 ⟨rfl, Tw10, hgw10⟩
        clear T
        have T := hide Tw10
        replace Bw := hide (Bw.out.grown hgw10 Bw.out.size (fun k e => by cases e; omega))
        replace K1 := hide (obj_kept K1.out hgw10 (by have := zD.out; simp; omega))
        clear Tw10 hgw10
        clear HS
        go_wp2_with fail
        refine (HP.out 0 0 _).mono ?_
        rintro e w11p ⟨rfl, hbw11p⟩
        replace T := hide (T.out.keep hbw11p)
        replace Bw := hide (next Bw.out hbw11p)
        replace K1 := hide (obj_keep K1.out hbw11p)
        clear hbw11p
        have HS := hide (tsetU (r := 0) (c := 0) T.out 1)
        rw [F4_e0, F4_l0] at HS
        go_wp2_with fail
        refine HS.out.mono ?_
        rintro e w11 ⟨rfl, Tw11, hgw11⟩
        clear T
        have T := hide Tw11
        replace Bw := hide (Bw.out.grown hgw11 Bw.out.size (fun k e => by cases e; omega))
        replace K1 := hide (obj_kept K1.out hgw11 (by have := zD.out; simp; omega))
        clear Tw11 hgw11
        clear HS
        go_wp2_with fail
        refine ⟨by simp, .inl ⟨_, _, rfl, run_takeDeferred K1.out, ?_⟩⟩
        have zz := zD.out
        exact ⟨_, results_tmp rfl _ _ _, rfl, Bw.out.grown (grownBy_putObj' _ _ _) Bw.out.size (fun k e => by cases e; omega)⟩
end Go.Proofs.Ytmfkeobjbcinpaa
