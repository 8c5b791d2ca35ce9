/- HashFresh: what the law answers, for every list of values: true. Proved of the Go text. -/
import Derived.Test.YtdbdonpcdoeeiaaKit6c
import Derived.BigRegion
import Derived.RegionTactic
namespace Go.Proofs.Ytdbdonpcdoeeiaa
open Go.RowKit Go.Sort
set_option linter.unusedVariables false

set_option maxRecDepth 100000 in
set_option maxHeartbeats 16000000 in
theorem hashFresh_walk {W : World} (a : Option Addr) (len cap : Nat) (hV : ValsIn W a len) :
    Calls Try.prog 6 #[.slice a len cap] W fun e w' => e = .returned (.bool true) ∧ Below W.heap.size W w' := by
  obtain ⟨i0, hi0, hz00, hz01, hz02⟩ := info_parts info_u8
  obtain ⟨i1, hi1, hz10, hz11, hz12⟩ := info_parts info_sl
  obtain ⟨i2, hi2, hz20, hz21, hz22⟩ := info_parts info_st
  have H1 := begun_is
  replace hV := hide hV
  go_enter Try.func6, Try.ntmps6
  go_wp2_with fail
  refine (H1.out _).mono ?_
  rintro e w0 ⟨rfl, hb0⟩
  replace hb0 := hide hb0
  go_wp2_with fail
  go_loopw [3, 4, 5, 6, 7] (fun s3 s4 s5 sz i wr => ∃ (N z : Nat) (gl cl gq cq : Nat → Nat) (L : Nat → List UInt8), N ≤ len ∧ N ≤ 300 ∧ z ≤ N * 32768 ∧ sz = .int .i64 z ∧ i = .int .i64 N ∧ Hid (St W wr N s3 s4 s5 gl cl (lens L) gq cq L)) (fun _ _ _ _ i _ => len - (intOf i).toNat)
  case atStart => exact ⟨0, 0, id, id, id, id, fun _ => [], Nat.zero_le _, Nat.zero_le _, Nat.zero_le _, rfl, rfl, hide (St.start hb0.out)⟩
  case round =>
    obtain ⟨N, z, gl, cl, gq, cq, L, hN, h300, hz, rfl, rfl, S⟩ := hrel
    by_cases hx : N < len ∧ N < 300 ∧ z < 4194304
    · obtain ⟨hlt, h3, h4⟩ := hx
      have p1 : (N : Int) < (len : Int) := by omega
      have p2 : (N : Int) < 300 := by omega
      have p3 : (z : Int) < 4194304 := by omega
      obtain ⟨b, off, rfl, _, ho⟩ : ∃ b off, a = some ⟨b, off, none⟩ ∧ len ≤ maxLen ∧ ∀ i, i < len → AnyAt W b off i := by rcases hV.out with h | h; omega; exact h
      obtain ⟨k, i, t, hA0, _⟩ := ho N hlt
      replace hA0 := hide hA0
      clear ho
      have HR := rbytes_any k i t
      have HH := bytes_any k i t
      obtain ⟨l1, l2⟩ := bsOf_len k i t
      generalize bsOf k i t = M at *
      replace l1 := hide l1
      have l2' : (M.length : Int) ≤ 32768 := by omega
      replace l2 := hide l2
      replace hN := hide hN
      replace hz := hide hz
      have A0 := (hA0.out.keep (St.bel S.out)).c0
      have A1 := (hA0.out.keep (St.bel S.out)).c1
      have A2 := (hA0.out.keep (St.bel S.out)).c2
      go_wp2_with fail
      refine (HR.out _).mono ?_
      rintro e w1 ⟨v0, rfl, hO0, hb1⟩
      have cv0 := hO0.conv
      replace S := hide (S.out.below hb1)
      clear hO0 hb1 A0 A1 A2
      have A0 := (hA0.out.keep (St.bel S.out)).c0
      have A1 := (hA0.out.keep (St.bel S.out)).c1
      have A2 := (hA0.out.keep (St.bel S.out)).c2
      go_wp2_with fail
      refine (HH.out _).mono ?_
      rintro e w2 ⟨va, rfl, hOa, hb2⟩
      have fr : Hid (∀ j, j < N → gq j < w1.heap.size) := hide fun j hj => (S.out.2.2.2.1 j hj).2.2.lt
      have W1 : Hid (W.heap.size ≤ w1.heap.size) := hide S.out.bel.size
      obtain ⟨ga, ca, rfl, hBa, ra, _, _⟩ := own_row hOa l1.out
      replace hBa := hide hBa
      replace ra := hide ra
      replace S := hide (S.out.below hb2)
      clear hOa hb2 A0 A1 A2 cv0
      have A0 := (hA0.out.keep (St.bel S.out)).c0
      have A1 := (hA0.out.keep (St.bel S.out)).c1
      have A2 := (hA0.out.keep (St.bel S.out)).c2
      go_wp2_with fail
      refine (HH.out _).mono ?_
      rintro e w3 ⟨vb, rfl, hOb, hb3⟩
      have hga : Hid (ga < w2.heap.size) := hide ra.out.lt
      obtain ⟨gb, cb, rfl, hBb, rb, _, _⟩ := own_row hOb l1.out
      have hab : Hid (ga < gb) := hide (Nat.lt_of_lt_of_le hga.out hBb)
      replace rb := hide rb
      replace ra := hide (ra.out.keep hb3)
      replace S := hide (S.out.below hb3)
      have hWa : Hid (W.heap.size ≤ ga) := hide (Nat.le_trans W1.out hBa.out)
      have hfa : Hid (∀ j, j < N → gq j < ga) := hide fun j hj => Nat.lt_of_lt_of_le (fr.out j hj) hBa.out
      clear hOb hb3 A0 A1 A2 hBb fr W1 hBa hga
      have cva := (row_own ra.out).conv
      have cvb := (row_own rb.out).conv
      go_wp2_with fail
      clear cva cvb
      go_loopw [11] (fun kk wr => ∃ q : Nat, q ≤ M.length ∧ kk = .int .i64 q ∧ Hid (RB wr 5 ga ca (over N q (vs M))) ∧ Hid (RB wr 5 gb cb (vs M)) ∧ Hid (St W wr N u3 u4 u5 gl cl (lens L) gq cq L)) (fun kk _ => M.length - (intOf kk).toNat)
      case atStart => exact ⟨0, Nat.zero_le _, rfl, by rw [over_0]; exact ra, rb, S⟩
      case round =>
        clear ra rb S
        obtain ⟨q, hq, rfl, ra, rb, S⟩ := hrel
        by_cases hqm : q < M.length
        · have p4 : (q : Int) < (M.length : Int) := by omega
          have hol : Hid (q < (over N q (vs M)).length) := hide (by rw [over_len _ _ _ (by rw [vs_len]; omega), vs_len]; exact hqm)
          obtain ⟨u, hu⟩ : ∃ u, wr.cell? ⟨ga, q, none⟩ = some u := ⟨_, ra.out.cell (List.getElem?_eq_getElem hol.out)⟩
          have fz := ra.out.frozen q
          have ra' : Hid (RB (wr.setCell ⟨ga, q, none⟩ (.int .u8 ((N : Int) % 256))) 5 ga ca (over N (q + 1) (vs M))) := hide (by
            rw [← over_step N q (vs M) (by rw [vs_len]; exact hqm)]
            exact ra.out.set q _ hol.out)
          have rb' := hide (rb.out.kept (grown_set wr ga q (.int .u8 ((N : Int) % 256))) (fun e => by have := hab.out; cases e; omega))
          have S' := hide (S.out.other ra.out hWa.out hfa.out (grown_set wr ga q (.int .u8 ((N : Int) % 256))))
          have hcl : (M.length : Int) ≤ (ca : Int) := by have := ra.out.le.1; rw [over_len _ _ _ (by rw [vs_len]; omega), vs_len] at this; omega
          clear ra rb S
          go_wp2_with fail
          go_roundw
          case rel => exact ⟨q + 1, by omega, by go_num, ra', rb', S'⟩
          case measure => simp [intOf]; omega
        · obtain rfl : q = M.length := by omega
          have e : over N M.length (vs M) = fil N M.length := by have := over_all N (vs M); rw [vs_len] at this; exact this
          rw [e] at ra
          clear e
          have hwz := S.out.bel.size
          have k3 := S.out.1
          go_wp2_with (at_builtin; refine wpList_append_own _ rfl _ _ 38 rfl W.heap.size 28 i1 (.slice none 0 0) 1 24 Try.underlying38 hi1 hz10 hz11 hz12 rfl (by decide) _ _ _ rfl (World.ownsRow.alloc k3 _) ⟨wr.heap.size, 0, none⟩ 1 1 [sl ga M.length ca] rfl rfl (fun j u hj => by match j, hj with | 0, hj => simp at hj; subst hj; simp [Addr.add]) (fun u hu => by simp at hu; subst hu; rfl) (by unfold maxLen; omega) (by omega) (by simp; omega) ?_)
          intro v3 w4 hown' hgrow _
          replace S := hide (S.out.grow3 ra.out rb.out hown' hgrow)
          clear hown' hgrow k3 hwz
          have hwz := S.out.2.2.2.2.1.size
          have k4 := S.out.2.1
          go_wp2_with (at_builtin; refine wpList_append_own _ rfl _ _ 38 rfl W.heap.size 28 i1 (.slice none 0 0) 1 24 Try.underlying38 hi1 hz10 hz11 hz12 rfl (by decide) _ _ _ rfl (World.ownsRow.alloc k4 _) ⟨w4.heap.size, 0, none⟩ 1 1 [sl gb M.length cb] rfl rfl (fun j u hj => by match j, hj with | 0, hj => simp at hj; subst hj; simp [Addr.add]) (fun u hu => by simp at hu; subst hu; rfl) (by unfold maxLen; omega) (by omega) (by simp; omega) ?_)
          intro v4 w5 hown' hgrow _
          replace S := hide (S.out.grow4 hown' hgrow)
          clear hown' hgrow k4 hwz
          have hwz := S.out.2.2.2.2.1.size
          have k5 := S.out.2.2.1
          go_wp2_with (at_builtin; refine wpList_append_own _ rfl _ _ 39 rfl W.heap.size 9 i2 (.string no) 1 16 Try.underlying39 hi2 hz20 hz21 hz22 rfl (by decide) _ _ _ rfl (World.ownsRow.alloc k5 _) ⟨w5.heap.size, 0, none⟩ 1 1 [.string ⟨M.toArray⟩] rfl rfl (fun j u hj => by match j, hj with | 0, hj => simp at hj; subst hj; simp [Addr.add]) (fun u hu => by simp at hu; subst hu; rfl) (by unfold maxLen; omega) (by omega) (by simp; omega) ?_)
          intro v5 w6 hown' hgrow _
          replace S := hide (S.out.grow5 hown' hgrow hWa.out hab.out hfa.out l1.out l2.out)
          rw [lens_upd] at S
          clear hown' hgrow k5 hwz
          have A0 := (hA0.out.keep (St.bel S.out)).c0
          have A1 := (hA0.out.keep (St.bel S.out)).c1
          have A2 := (hA0.out.keep (St.bel S.out)).c2
          go_wp2_with fail
          refine (HH.out _).mono ?_
          rintro e w7 ⟨vc, rfl, hOc, hb7⟩
          replace S := hide (S.out.below hb7)
          obtain ⟨vd, w8, cvd, hb8, cve⟩ := text_bytes w7 M
          replace S := hide (S.out.below hb8)
          have HE := hide (eq_conv (hOc.keep hb8).conv cve)
          clear hOc hb7 hb8 cve A0 A1 A2
          go_wp2_with fail
          refine HE.out.mono ?_
          rintro e w9 ⟨rfl, rfl⟩
          clear cvd
          have hEq : (M == M) = true := beq_self_eq_true _
          rw [hEq]
          go_wp2_with fail
          go_roundw
          case rel => exact ⟨N + 1, z + M.length, _, _, _, _, _, by have := hN.out; omega, by omega, by have := hz.out; have := l2.out; omega, by first | rfl | go_num, by go_num, S⟩
          case measure => simp [intOf]; omega
    · by_cases h1 : N < len
      · by_cases h2 : N < 300
        · have p1 : (N : Int) < (len : Int) := by omega
          have p2 : (N : Int) < 300 := by omega
          have p3 : ¬ (z : Int) < 4194304 := by omega
          clear hx h1 h2
          obtain ⟨a3, c3, rfl⟩ := own_slice S.out.1
          obtain ⟨a4, c4, rfl⟩ := own_slice S.out.2.1
          obtain ⟨a5, c5, rfl⟩ := own_slice S.out.2.2.1
          replace hN := hide hN
          replace hz := hide hz
          go_wp2_with fail
          go_loopw [12] (fun i wr => ∃ (m : Nat) (nl : Nat → Nat), m ≤ N ∧ i = .int .i64 m ∧ Hid (∀ j, m ≤ j → nl j = (L j).length) ∧ Hid (St W wr N (.slice a3 N c3) (.slice a4 N c4) (.slice a5 N c5) gl cl nl gq cq L)) (fun i _ => N - (intOf i).toNat)
          case atStart => exact ⟨0, _, Nat.zero_le _, rfl, hide fun _ _ => rfl, S⟩
          case round =>
            clear S
            obtain ⟨m, nl, hm, rfl, hnl, S⟩ := hrel
            by_cases hmt : m < N
            · have p1 : (m : Int) < (N : Int) := by omega
              obtain ⟨G3, hG3⟩ : ∃ G, a3 = some ⟨G, 0, none⟩ := by obtain ⟨G, c, e, _⟩ := S.out.blk3 (by omega); injection e with e1; exact ⟨G, e1⟩
              subst hG3
              have C3 := S.out.cell3 hmt
              have hc3 : Hid (N ≤ c3) := hide (by obtain ⟨G, c, e, h⟩ := S.out.blk3 (by omega); injection e with _ _ e3; omega)
              obtain ⟨⟨_, _, _, b1, b2, b3, b4⟩, rr, _⟩ := S.out.2.2.2.1 m hmt
              have hle := rr.le
              rw [fil_len] at hle
              have hnm : nl m = (L m).length := hnl.out m (Nat.le_refl _)
              obtain ⟨r, HR, r1, r2, r3⟩ := room_any (nl m) (cl m) (by omega) hle.1
              replace r1 := hide r1
              replace r2 := hide r2
              replace r3 := hide r3
              clear b1 b2 b3 b4 rr hle hnm
              have q0 := cell_regrown C3
              have kk := fun d' os => Calls.regrown_of (HR.out (grow (redrawn wr d') os))
              go_wp2_with fail
              refine wp_region_quiet_below (by kernel_rfl) (by kernel_rfl) ?_
              repeat (go_big_quiet_step (first | (with_reducible exact kk _ _)))
              refine wpQuiet_nil ?_
              intro w1 hw1
              have hb1 : Below wr.heap.size wr w1 := by obtain ⟨⟨dq, osq⟩, hq⟩ := hw1; rw [hq]; exact below_regrown _ dq osq
              clear hw1 q0 kk C3
              replace S := hide (S.out.below hb1)
              clear hb1
              go_wp2_with fail
              go_loopw [] (fun wr => ∃ nl : Nat → Nat, Hid (nl m ≤ r) ∧ Hid (∀ j, m + 1 ≤ j → nl j = (L j).length) ∧ Hid (St W wr N (sl G3 N c3) (.slice a4 N c4) (.slice a5 N c5) gl cl nl gq cq L)) (fun wr => r - lenAt wr G3 m)
              case atStart => exact ⟨nl, r1, hide fun j hj => hnl.out j (by omega), S⟩
              case round =>
                clear S hnl r1
                obtain ⟨nm, hr, hnl, S⟩ := hrel
                have C3 := S.out.cell3 hmt
                have F3 := S.out.froz3 m
                by_cases hlt : nm m < r
                · have p2 : (nm m : Int) < (r : Int) := by omega
                  obtain ⟨_, rr, _⟩ := S.out.2.2.2.1 m hmt
                  have own : wr.ownsRow (gl m) 5 1 (sl (gl m) (nm m) (cl m)) (nm m) (fil m (nm m)) := by have h : wr.ownsRow (gl m) 5 1 (sl (gl m) (fil m (nm m)).length (cl m)) (fil m (nm m)).length (fil m (nm m)) := rr; rw [fil_len] at h; exact h
                  have hlA : Hid (lenAt wr G3 m = nm m) := hide (lenAt_of C3)
                  have hmx : nm m + 1 ≤ cl m := by have := r2.out; omega
                  have C3a := fun o => (S.out.below ((Below.refl wr.heap.size wr).alloc (Nat.le_refl _) o)).cell3 hmt
                  clear rr
                  go_wp2_with (at_builtin; refine wpList_append_fits _ rfl _ _ 28 rfl (gl m) 5 i0 1 Try.underlying28 hi0 hz01 (gl m) (nm m) (cl m) (fil m (nm m)) rfl (World.ownsRow.alloc own _) ⟨wr.heap.size, 0, none⟩ 1 1 [.int .u8 ((m : Int) % 256)] rfl rfl (fun j u hj => by match j, hj with | 0, hj => simp at hj; subst hj; simp [Addr.add]) (fun u hu => by simp at hu; subst hu; rfl) hmx ?_)
                  intro w2 hown' hgrow
                  rw [fil_snoc] at hown'
                  have hr2 : RB w2 5 (gl m) (cl m) (fil m (nm m + 1)) := by have h : w2.ownsRow (gl m) 5 1 (sl (gl m) (nm m + 1) (cl m)) (nm m + 1) (fil m (nm m + 1)) := hown'; unfold RB; rw [fil_len]; exact h
                  have S2 := hide (S.out.more hmt (by have := r3.out; omega) hr2 hgrow)
                  have S1 := S.out.1.kept (grown_after hgrow) (.inr (type_ne (S.out.2.2.2.1 m hmt).2.1 S.out.1 (by decide)))
                  have D3 := (row_of S1).2.2.cell (lvs_get _ _ _ N m hmt)
                  have E3 := (row_of S1).2.2.frozen m
                  clear hown' hgrow hr2 own C3 F3 C3a S1 S
                  have C4 := hide (S2.out.cell3 hmt)
                  rw [upd_at] at C4
                  go_wp2_with fail
                  go_roundw
                  case rel => exact ⟨_, hide (by rw [upd_at]; omega), hide fun j hj => by rw [upd_ne _ _ _ (by omega)]; exact hnl.out j hj, S2⟩
                  case measure => rw [hlA.out, lenAt_of C4.out]; omega
                · have p2 : ¬ (nm m : Int) < (r : Int) := by omega
                  go_wp2_with fail
                  go_roundw
                  case rel => exact ⟨m + 1, _, by omega, by go_num, hnl, S⟩
                  case measure => simp [intOf]; omega
            · obtain rfl : m = N := by omega
              go_wp2_with fail
              go_loopw [14] (fun i wr => ∃ m' : Nat, m' ≤ m ∧ i = .int .i64 m' ∧ Hid (St W wr m (.slice a3 m c3) (.slice a4 m c4) (.slice a5 m c5) gl cl nl gq cq L)) (fun i _ => m - (intOf i).toNat)
              case atStart => exact ⟨0, Nat.zero_le _, rfl, S⟩
              case round =>
                clear S
                obtain ⟨p, hp, rfl, S⟩ := hrel
                by_cases hpt : p < m
                · have p1 : (p : Int) < (m : Int) := by omega
                  obtain ⟨G3, hG3⟩ : ∃ G, a3 = some ⟨G, 0, none⟩ := by obtain ⟨G, c, e, _⟩ := S.out.blk3 (by omega); injection e with e1; exact ⟨G, e1⟩
                  obtain ⟨G4, hG4⟩ : ∃ G, a4 = some ⟨G, 0, none⟩ := by obtain ⟨G, c, e, _⟩ := S.out.blk4 (by omega); injection e with e1; exact ⟨G, e1⟩
                  obtain ⟨G5, hG5⟩ : ∃ G, a5 = some ⟨G, 0, none⟩ := by obtain ⟨G, c, e, _⟩ := S.out.blk5 (by omega); injection e with e1; exact ⟨G, e1⟩
                  subst hG3 hG4 hG5
                  have C4 := S.out.cell4 hpt
                  have C5 := S.out.cell5 hpt
                  have C3 := S.out.cell3 hpt
                  have rl := hide (S.out.2.2.2.1 p hpt).2.1
                  obtain ⟨⟨_, _, _, _, _, _, b4⟩, _⟩ := S.out.2.2.2.1 p hpt
                  have b4' : (nl p : Int) ≤ 102768 := by omega
                  have hlc : (nl p : Int) ≤ (cl p : Int) := by have := rl.out.le.1; rw [fil_len] at this; omega
                  clear b4
                  replace S := hide (S.out.below ((Below.refl wr.heap.size wr).drew))
                  have rq := hide (S.out.2.2.2.1 p hpt).2.2
                  have cvq := (row_own rq.out).conv
                  go_wp2_with fail
                  go_region
                  go_wp2_with fail
                  clear C4 C5 cvq
                  go_loop [15] (fun k => ∃ q : Nat, q ≤ nl p ∧ k = .int .i64 q) (fun k => nl p - (intOf k).toNat)
                  case atStart => exact ⟨0, Nat.zero_le _, rfl⟩
                  case round =>
                    obtain ⟨q, hq, rfl⟩ := hrel
                    by_cases hqt : q < nl p
                    · have p2 : (q : Int) < (nl p : Int) := by omega
                      have Cq := rl.out.cell (fil_get p (nl p) q hqt)
                      go_wp2_with fail
                      go_round
                      case rel => exact ⟨q + 1, by omega, by go_num⟩
                      case measure => simp [intOf]; omega
                    · obtain rfl : q = nl p := by omega
                      go_wp2_with fail
                      go_roundw
                      case rel => exact ⟨p + 1, by omega, by go_num, S⟩
                      case measure => simp [intOf]; omega
                · obtain rfl : p = m := by omega
                  go_wp2_with fail
                  go_ret
                  exact ⟨rfl, S.out.bel⟩
        · have p1 : (N : Int) < (len : Int) := by omega
          have p2 : ¬ (N : Int) < 300 := by omega
          clear hx h1 h2
          obtain ⟨a3, c3, rfl⟩ := own_slice S.out.1
          obtain ⟨a4, c4, rfl⟩ := own_slice S.out.2.1
          obtain ⟨a5, c5, rfl⟩ := own_slice S.out.2.2.1
          replace hN := hide hN
          replace hz := hide hz
          go_wp2_with fail
          go_loopw [12] (fun i wr => ∃ (m : Nat) (nl : Nat → Nat), m ≤ N ∧ i = .int .i64 m ∧ Hid (∀ j, m ≤ j → nl j = (L j).length) ∧ Hid (St W wr N (.slice a3 N c3) (.slice a4 N c4) (.slice a5 N c5) gl cl nl gq cq L)) (fun i _ => N - (intOf i).toNat)
          case atStart => exact ⟨0, _, Nat.zero_le _, rfl, hide fun _ _ => rfl, S⟩
          case round =>
            clear S
            obtain ⟨m, nl, hm, rfl, hnl, S⟩ := hrel
            by_cases hmt : m < N
            · have p1 : (m : Int) < (N : Int) := by omega
              obtain ⟨G3, hG3⟩ : ∃ G, a3 = some ⟨G, 0, none⟩ := by obtain ⟨G, c, e, _⟩ := S.out.blk3 (by omega); injection e with e1; exact ⟨G, e1⟩
              subst hG3
              have C3 := S.out.cell3 hmt
              have hc3 : Hid (N ≤ c3) := hide (by obtain ⟨G, c, e, h⟩ := S.out.blk3 (by omega); injection e with _ _ e3; omega)
              obtain ⟨⟨_, _, _, b1, b2, b3, b4⟩, rr, _⟩ := S.out.2.2.2.1 m hmt
              have hle := rr.le
              rw [fil_len] at hle
              have hnm : nl m = (L m).length := hnl.out m (Nat.le_refl _)
              obtain ⟨r, HR, r1, r2, r3⟩ := room_any (nl m) (cl m) (by omega) hle.1
              replace r1 := hide r1
              replace r2 := hide r2
              replace r3 := hide r3
              clear b1 b2 b3 b4 rr hle hnm
              have q0 := cell_regrown C3
              have kk := fun d' os => Calls.regrown_of (HR.out (grow (redrawn wr d') os))
              go_wp2_with fail
              refine wp_region_quiet_below (by kernel_rfl) (by kernel_rfl) ?_
              repeat (go_big_quiet_step (first | (with_reducible exact kk _ _)))
              refine wpQuiet_nil ?_
              intro w1 hw1
              have hb1 : Below wr.heap.size wr w1 := by obtain ⟨⟨dq, osq⟩, hq⟩ := hw1; rw [hq]; exact below_regrown _ dq osq
              clear hw1 q0 kk C3
              replace S := hide (S.out.below hb1)
              clear hb1
              go_wp2_with fail
              go_loopw [] (fun wr => ∃ nl : Nat → Nat, Hid (nl m ≤ r) ∧ Hid (∀ j, m + 1 ≤ j → nl j = (L j).length) ∧ Hid (St W wr N (sl G3 N c3) (.slice a4 N c4) (.slice a5 N c5) gl cl nl gq cq L)) (fun wr => r - lenAt wr G3 m)
              case atStart => exact ⟨nl, r1, hide fun j hj => hnl.out j (by omega), S⟩
              case round =>
                clear S hnl r1
                obtain ⟨nm, hr, hnl, S⟩ := hrel
                have C3 := S.out.cell3 hmt
                have F3 := S.out.froz3 m
                by_cases hlt : nm m < r
                · have p2 : (nm m : Int) < (r : Int) := by omega
                  obtain ⟨_, rr, _⟩ := S.out.2.2.2.1 m hmt
                  have own : wr.ownsRow (gl m) 5 1 (sl (gl m) (nm m) (cl m)) (nm m) (fil m (nm m)) := by have h : wr.ownsRow (gl m) 5 1 (sl (gl m) (fil m (nm m)).length (cl m)) (fil m (nm m)).length (fil m (nm m)) := rr; rw [fil_len] at h; exact h
                  have hlA : Hid (lenAt wr G3 m = nm m) := hide (lenAt_of C3)
                  have hmx : nm m + 1 ≤ cl m := by have := r2.out; omega
                  have C3a := fun o => (S.out.below ((Below.refl wr.heap.size wr).alloc (Nat.le_refl _) o)).cell3 hmt
                  clear rr
                  go_wp2_with (at_builtin; refine wpList_append_fits _ rfl _ _ 28 rfl (gl m) 5 i0 1 Try.underlying28 hi0 hz01 (gl m) (nm m) (cl m) (fil m (nm m)) rfl (World.ownsRow.alloc own _) ⟨wr.heap.size, 0, none⟩ 1 1 [.int .u8 ((m : Int) % 256)] rfl rfl (fun j u hj => by match j, hj with | 0, hj => simp at hj; subst hj; simp [Addr.add]) (fun u hu => by simp at hu; subst hu; rfl) hmx ?_)
                  intro w2 hown' hgrow
                  rw [fil_snoc] at hown'
                  have hr2 : RB w2 5 (gl m) (cl m) (fil m (nm m + 1)) := by have h : w2.ownsRow (gl m) 5 1 (sl (gl m) (nm m + 1) (cl m)) (nm m + 1) (fil m (nm m + 1)) := hown'; unfold RB; rw [fil_len]; exact h
                  have S2 := hide (S.out.more hmt (by have := r3.out; omega) hr2 hgrow)
                  have S1 := S.out.1.kept (grown_after hgrow) (.inr (type_ne (S.out.2.2.2.1 m hmt).2.1 S.out.1 (by decide)))
                  have D3 := (row_of S1).2.2.cell (lvs_get _ _ _ N m hmt)
                  have E3 := (row_of S1).2.2.frozen m
                  clear hown' hgrow hr2 own C3 F3 C3a S1 S
                  have C4 := hide (S2.out.cell3 hmt)
                  rw [upd_at] at C4
                  go_wp2_with fail
                  go_roundw
                  case rel => exact ⟨_, hide (by rw [upd_at]; omega), hide fun j hj => by rw [upd_ne _ _ _ (by omega)]; exact hnl.out j hj, S2⟩
                  case measure => rw [hlA.out, lenAt_of C4.out]; omega
                · have p2 : ¬ (nm m : Int) < (r : Int) := by omega
                  go_wp2_with fail
                  go_roundw
                  case rel => exact ⟨m + 1, _, by omega, by go_num, hnl, S⟩
                  case measure => simp [intOf]; omega
            · obtain rfl : m = N := by omega
              go_wp2_with fail
              go_loopw [14] (fun i wr => ∃ m' : Nat, m' ≤ m ∧ i = .int .i64 m' ∧ Hid (St W wr m (.slice a3 m c3) (.slice a4 m c4) (.slice a5 m c5) gl cl nl gq cq L)) (fun i _ => m - (intOf i).toNat)
              case atStart => exact ⟨0, Nat.zero_le _, rfl, S⟩
              case round =>
                clear S
                obtain ⟨p, hp, rfl, S⟩ := hrel
                by_cases hpt : p < m
                · have p1 : (p : Int) < (m : Int) := by omega
                  obtain ⟨G3, hG3⟩ : ∃ G, a3 = some ⟨G, 0, none⟩ := by obtain ⟨G, c, e, _⟩ := S.out.blk3 (by omega); injection e with e1; exact ⟨G, e1⟩
                  obtain ⟨G4, hG4⟩ : ∃ G, a4 = some ⟨G, 0, none⟩ := by obtain ⟨G, c, e, _⟩ := S.out.blk4 (by omega); injection e with e1; exact ⟨G, e1⟩
                  obtain ⟨G5, hG5⟩ : ∃ G, a5 = some ⟨G, 0, none⟩ := by obtain ⟨G, c, e, _⟩ := S.out.blk5 (by omega); injection e with e1; exact ⟨G, e1⟩
                  subst hG3 hG4 hG5
                  have C4 := S.out.cell4 hpt
                  have C5 := S.out.cell5 hpt
                  have C3 := S.out.cell3 hpt
                  have rl := hide (S.out.2.2.2.1 p hpt).2.1
                  obtain ⟨⟨_, _, _, _, _, _, b4⟩, _⟩ := S.out.2.2.2.1 p hpt
                  have b4' : (nl p : Int) ≤ 102768 := by omega
                  have hlc : (nl p : Int) ≤ (cl p : Int) := by have := rl.out.le.1; rw [fil_len] at this; omega
                  clear b4
                  replace S := hide (S.out.below ((Below.refl wr.heap.size wr).drew))
                  have rq := hide (S.out.2.2.2.1 p hpt).2.2
                  have cvq := (row_own rq.out).conv
                  go_wp2_with fail
                  go_region
                  go_wp2_with fail
                  clear C4 C5 cvq
                  go_loop [15] (fun k => ∃ q : Nat, q ≤ nl p ∧ k = .int .i64 q) (fun k => nl p - (intOf k).toNat)
                  case atStart => exact ⟨0, Nat.zero_le _, rfl⟩
                  case round =>
                    obtain ⟨q, hq, rfl⟩ := hrel
                    by_cases hqt : q < nl p
                    · have p2 : (q : Int) < (nl p : Int) := by omega
                      have Cq := rl.out.cell (fil_get p (nl p) q hqt)
                      go_wp2_with fail
                      go_round
                      case rel => exact ⟨q + 1, by omega, by go_num⟩
                      case measure => simp [intOf]; omega
                    · obtain rfl : q = nl p := by omega
                      go_wp2_with fail
                      go_roundw
                      case rel => exact ⟨p + 1, by omega, by go_num, S⟩
                      case measure => simp [intOf]; omega
                · obtain rfl : p = m := by omega
                  go_wp2_with fail
                  go_ret
                  exact ⟨rfl, S.out.bel⟩
      · have p1 : ¬ (N : Int) < (len : Int) := by omega
        clear hx h1
        obtain ⟨a3, c3, rfl⟩ := own_slice S.out.1
        obtain ⟨a4, c4, rfl⟩ := own_slice S.out.2.1
        obtain ⟨a5, c5, rfl⟩ := own_slice S.out.2.2.1
        replace hN := hide hN
        replace hz := hide hz
        go_wp2_with fail
        go_loopw [12] (fun i wr => ∃ (m : Nat) (nl : Nat → Nat), m ≤ N ∧ i = .int .i64 m ∧ Hid (∀ j, m ≤ j → nl j = (L j).length) ∧ Hid (St W wr N (.slice a3 N c3) (.slice a4 N c4) (.slice a5 N c5) gl cl nl gq cq L)) (fun i _ => N - (intOf i).toNat)
        case atStart => exact ⟨0, _, Nat.zero_le _, rfl, hide fun _ _ => rfl, S⟩
        case round =>
          clear S
          obtain ⟨m, nl, hm, rfl, hnl, S⟩ := hrel
          by_cases hmt : m < N
          · have p1 : (m : Int) < (N : Int) := by omega
            obtain ⟨G3, hG3⟩ : ∃ G, a3 = some ⟨G, 0, none⟩ := by obtain ⟨G, c, e, _⟩ := S.out.blk3 (by omega); injection e with e1; exact ⟨G, e1⟩
            subst hG3
            have C3 := S.out.cell3 hmt
            have hc3 : Hid (N ≤ c3) := hide (by obtain ⟨G, c, e, h⟩ := S.out.blk3 (by omega); injection e with _ _ e3; omega)
            obtain ⟨⟨_, _, _, b1, b2, b3, b4⟩, rr, _⟩ := S.out.2.2.2.1 m hmt
            have hle := rr.le
            rw [fil_len] at hle
            have hnm : nl m = (L m).length := hnl.out m (Nat.le_refl _)
            obtain ⟨r, HR, r1, r2, r3⟩ := room_any (nl m) (cl m) (by omega) hle.1
            replace r1 := hide r1
            replace r2 := hide r2
            replace r3 := hide r3
            clear b1 b2 b3 b4 rr hle hnm
            have q0 := cell_regrown C3
            have kk := fun d' os => Calls.regrown_of (HR.out (grow (redrawn wr d') os))
            go_wp2_with fail
            refine wp_region_quiet_below (by kernel_rfl) (by kernel_rfl) ?_
            repeat (go_big_quiet_step (first | (with_reducible exact kk _ _)))
            refine wpQuiet_nil ?_
            intro w1 hw1
            have hb1 : Below wr.heap.size wr w1 := by obtain ⟨⟨dq, osq⟩, hq⟩ := hw1; rw [hq]; exact below_regrown _ dq osq
            clear hw1 q0 kk C3
            replace S := hide (S.out.below hb1)
            clear hb1
            go_wp2_with fail
            go_loopw [] (fun wr => ∃ nl : Nat → Nat, Hid (nl m ≤ r) ∧ Hid (∀ j, m + 1 ≤ j → nl j = (L j).length) ∧ Hid (St W wr N (sl G3 N c3) (.slice a4 N c4) (.slice a5 N c5) gl cl nl gq cq L)) (fun wr => r - lenAt wr G3 m)
            case atStart => exact ⟨nl, r1, hide fun j hj => hnl.out j (by omega), S⟩
            case round =>
              clear S hnl r1
              obtain ⟨nm, hr, hnl, S⟩ := hrel
              have C3 := S.out.cell3 hmt
              have F3 := S.out.froz3 m
              by_cases hlt : nm m < r
              · have p2 : (nm m : Int) < (r : Int) := by omega
                obtain ⟨_, rr, _⟩ := S.out.2.2.2.1 m hmt
                have own : wr.ownsRow (gl m) 5 1 (sl (gl m) (nm m) (cl m)) (nm m) (fil m (nm m)) := by have h : wr.ownsRow (gl m) 5 1 (sl (gl m) (fil m (nm m)).length (cl m)) (fil m (nm m)).length (fil m (nm m)) := rr; rw [fil_len] at h; exact h
                have hlA : Hid (lenAt wr G3 m = nm m) := hide (lenAt_of C3)
                have hmx : nm m + 1 ≤ cl m := by have := r2.out; omega
                have C3a := fun o => (S.out.below ((Below.refl wr.heap.size wr).alloc (Nat.le_refl _) o)).cell3 hmt
                clear rr
                go_wp2_with (at_builtin; refine wpList_append_fits _ rfl _ _ 28 rfl (gl m) 5 i0 1 Try.underlying28 hi0 hz01 (gl m) (nm m) (cl m) (fil m (nm m)) rfl (World.ownsRow.alloc own _) ⟨wr.heap.size, 0, none⟩ 1 1 [.int .u8 ((m : Int) % 256)] rfl rfl (fun j u hj => by match j, hj with | 0, hj => simp at hj; subst hj; simp [Addr.add]) (fun u hu => by simp at hu; subst hu; rfl) hmx ?_)
                intro w2 hown' hgrow
                rw [fil_snoc] at hown'
                have hr2 : RB w2 5 (gl m) (cl m) (fil m (nm m + 1)) := by have h : w2.ownsRow (gl m) 5 1 (sl (gl m) (nm m + 1) (cl m)) (nm m + 1) (fil m (nm m + 1)) := hown'; unfold RB; rw [fil_len]; exact h
                have S2 := hide (S.out.more hmt (by have := r3.out; omega) hr2 hgrow)
                have S1 := S.out.1.kept (grown_after hgrow) (.inr (type_ne (S.out.2.2.2.1 m hmt).2.1 S.out.1 (by decide)))
                have D3 := (row_of S1).2.2.cell (lvs_get _ _ _ N m hmt)
                have E3 := (row_of S1).2.2.frozen m
                clear hown' hgrow hr2 own C3 F3 C3a S1 S
                have C4 := hide (S2.out.cell3 hmt)
                rw [upd_at] at C4
                go_wp2_with fail
                go_roundw
                case rel => exact ⟨_, hide (by rw [upd_at]; omega), hide fun j hj => by rw [upd_ne _ _ _ (by omega)]; exact hnl.out j hj, S2⟩
                case measure => rw [hlA.out, lenAt_of C4.out]; omega
              · have p2 : ¬ (nm m : Int) < (r : Int) := by omega
                go_wp2_with fail
                go_roundw
                case rel => exact ⟨m + 1, _, by omega, by go_num, hnl, S⟩
                case measure => simp [intOf]; omega
          · obtain rfl : m = N := by omega
            go_wp2_with fail
            go_loopw [14] (fun i wr => ∃ m' : Nat, m' ≤ m ∧ i = .int .i64 m' ∧ Hid (St W wr m (.slice a3 m c3) (.slice a4 m c4) (.slice a5 m c5) gl cl nl gq cq L)) (fun i _ => m - (intOf i).toNat)
            case atStart => exact ⟨0, Nat.zero_le _, rfl, S⟩
            case round =>
              clear S
              obtain ⟨p, hp, rfl, S⟩ := hrel
              by_cases hpt : p < m
              · have p1 : (p : Int) < (m : Int) := by omega
                obtain ⟨G3, hG3⟩ : ∃ G, a3 = some ⟨G, 0, none⟩ := by obtain ⟨G, c, e, _⟩ := S.out.blk3 (by omega); injection e with e1; exact ⟨G, e1⟩
                obtain ⟨G4, hG4⟩ : ∃ G, a4 = some ⟨G, 0, none⟩ := by obtain ⟨G, c, e, _⟩ := S.out.blk4 (by omega); injection e with e1; exact ⟨G, e1⟩
                obtain ⟨G5, hG5⟩ : ∃ G, a5 = some ⟨G, 0, none⟩ := by obtain ⟨G, c, e, _⟩ := S.out.blk5 (by omega); injection e with e1; exact ⟨G, e1⟩
                subst hG3 hG4 hG5
                have C4 := S.out.cell4 hpt
                have C5 := S.out.cell5 hpt
                have C3 := S.out.cell3 hpt
                have rl := hide (S.out.2.2.2.1 p hpt).2.1
                obtain ⟨⟨_, _, _, _, _, _, b4⟩, _⟩ := S.out.2.2.2.1 p hpt
                have b4' : (nl p : Int) ≤ 102768 := by omega
                have hlc : (nl p : Int) ≤ (cl p : Int) := by have := rl.out.le.1; rw [fil_len] at this; omega
                clear b4
                replace S := hide (S.out.below ((Below.refl wr.heap.size wr).drew))
                have rq := hide (S.out.2.2.2.1 p hpt).2.2
                have cvq := (row_own rq.out).conv
                go_wp2_with fail
                go_region
                go_wp2_with fail
                clear C4 C5 cvq
                go_loop [15] (fun k => ∃ q : Nat, q ≤ nl p ∧ k = .int .i64 q) (fun k => nl p - (intOf k).toNat)
                case atStart => exact ⟨0, Nat.zero_le _, rfl⟩
                case round =>
                  obtain ⟨q, hq, rfl⟩ := hrel
                  by_cases hqt : q < nl p
                  · have p2 : (q : Int) < (nl p : Int) := by omega
                    have Cq := rl.out.cell (fil_get p (nl p) q hqt)
                    go_wp2_with fail
                    go_round
                    case rel => exact ⟨q + 1, by omega, by go_num⟩
                    case measure => simp [intOf]; omega
                  · obtain rfl : q = nl p := by omega
                    go_wp2_with fail
                    go_roundw
                    case rel => exact ⟨p + 1, by omega, by go_num, S⟩
                    case measure => simp [intOf]; omega
              · obtain rfl : p = m := by omega
                go_wp2_with fail
                go_ret
                exact ⟨rfl, S.out.bel⟩
end Go.Proofs.Ytdbdonpcdoeeiaa
