/- ParseWords, where the text can be cut: what the law answers: true. Proved of the Go text. ParseWords: what the law answers, for every text and every choice of blanks and letters: true. Proved of the Go text. -/
import Derived.Test.YtdlomdbmmhjppaaGreatDoorPwJ
import Derived.Test.YtdlomdbmmhjppaaGreatDoorSpJ
namespace Go.Proofs.YtdlomdbmmhjppaaGreatDoor.T9
open Go.RowKit Go.Sort
set_option linter.unusedVariables false

abbrev by1 : Obj := .cells #[.int .u8 32] 5
abbrev by2 : Obj := .cells #[.int .u8 10, .int .u8 9] 5
theorem by2_at (w : World) (j : Nat) (h : j < ([10, 9] : List UInt8).length) : (w.alloc by2).cell? ⟨w.heap.size, j, none⟩ = some (.int .u8 ((([10, 9] : List UInt8)[j]).toNat : Int)) := by
  have := (Blk.new w #[.int .u8 10, .int .u8 9] 5).at' j
  rw [this]
  have : j = 0 ∨ j = 1 := by simp at h; omega
  rcases this with rfl | rfl <;> rfl
theorem own_lit1 (w : World) (c : UInt8) (B : Nat) (hB : B ≤ w.heap.size) : _root_.Go.Proofs.YtdlomdbmmhjppaaGreatDoor.Own (w.alloc (.cells #[.int .u8 (c.toNat : Int)] 5)) B (.slice (some ⟨w.heap.size, 0, none⟩) 1 1) [c] :=
  World.ownsRow_lit (base := B) (e := 5) (size := 1) w #[.int .u8 (c.toNat : Int)] 1 hB (by decide) rfl
set_option maxRecDepth 100000 in
set_option maxHeartbeats 16000000 in
theorem pw_ok (r : List UInt8) (ws : List Wd) (hc : cutR (ba r) = .ok ws) (hs : (ba (61 :: r)).size ≤ maxLen) (a1 : Option Addr) (len1 cap1 : Nat) (w : World) (hY : BytesIn w a1 len1) (h8 : Lay8 w) : Calls Tryz.prog 5 #[.string (ba (61 :: r)), .slice a1 len1 cap1] w fun e w' => e = .returned (.bool true) ∧ Below w.heap.size w w' := by
  have HB := hide (begun10 w h8)
  have HC := hide (fun w' (hb : Below w.heap.size w w') => cut8 (ba r) w' (h8.keep hb) (by rw [ba_size] at hs ⊢; rw [List.length_cons] at hs; omega))
  rw [hc] at HC
  have hlen : ws.length ≤ 65535 := cutR_len hc
  have hshort := hide (cutR_short hc)
  obtain ⟨F, hF⟩ := bytes_fun9 hY
  obtain ⟨z, hzf⟩ : ∃ z : Nat → Bool, Hid (∀ i, z i = decide (F (i % len1) % 3 = 0)) := ⟨_, hide fun _ => rfl⟩
  obtain ⟨sm, hsf⟩ : ∃ sm : Nat → Bool, Hid (∀ i, sm i = decide (F (i % len1) % 2 = 0)) := ⟨_, hide fun _ => rfl⟩
  have HE := hide (fun (M : List UInt8) (A : List Nat) (p : Nat) (h : PSt z sm ws ws.length M A p) (hM : M.length ≤ 60000) => (show Ends ws A (r.length + 1) M.length (parR (ba (61 :: r))) (parR (ba M)) from by
    obtain ⟨rfl, rfl⟩ := h.done
    exact both_ends hc z sm hM))
  have hats := hide (fun j (hj : j < ws.length) => (show ws[j].at' + 1 ≤ 9223372036854775806 from by have := (cut_at hc j hj).1; rw [ba_size, List.length_cons] at hs; unfold maxLen at hs; omega))
  have hst0 := hide (PSt.start z sm ws)
  have HP := hide (fun w' (hb : Below w.heap.size w w') => parse_tr hs rfl w' (h8.keep hb))
  have HP2 := hide (fun (M : List UInt8) (hM : M.length ≤ 60000) w' (hb : Below w.heap.size w w') => parse_tr (s := ba M) (by rw [ba_size]; exact Nat.le_trans hM (by decide)) rfl w' (h8.keep hb))
  have hz : 0 < (ba (61 :: r)).size := by rw [ba_size, List.length_cons]; omega
  have hz2 : (0 : Int) < (ba (61 :: r)).size := by omega
  have hsz : Hid ((ba (61 :: r)).size = r.length + 1) := hide (by rw [ba_size, List.length_cons])
  have eg := ba_get 61 r hz
  have ef := isEmpty_ne _ hz
  have e61 : (((61 : UInt8).toNat : Int) != 61) = false := rfl
  have sl : ∀ w, (Instr.slice 9 (.string (ba (61 :: r))) (some (.int .i64 1)) none none).run Tryz.prog w = .ok (.string (ba r)) w := fun w => cut_from (61 :: r) 1 (by simp) w
  rw [← eg] at e61
  generalize parR (ba (61 :: r)) = P at *
  generalize ba (61 :: r) = s at *
  generalize ba r = rr at *
  replace hF := hide hF
  clear h8 eg hY hc
  go_enter Tryz.func5, Tryz.ntmps5
  go_wp2_with fail
  refine HB.out.mono ?_
  rintro e w1 ⟨rfl, hb1⟩
  have HC1 := hide (HC.out w1 hb1)
  replace hb1 := hide hb1
  go_wp2_with fail
  refine HC1.out.mono ?_
  rintro e w2 ⟨hb2, v, rfl, hrow⟩
  obtain ⟨av, cv, rfl⟩ := row_slice hrow
  have B2 := hide (step (next hb1.out hb2) (.cells #[.int .u8 61] 5))
  have R2 : Hid (RowW (w2.alloc (.cells #[.int .u8 61] 5)) w1.heap.size (.slice av ws.length cv) ws) := hide (row_keep hrow (step (Below.refl _ _) _))
  have h1W : Hid (w.heap.size ≤ w1.heap.size) := hide hb1.out.size
  have O2 := hide (own_lit1 w2 61 w.heap.size (next hb1.out hb2).size)
  clear hb1 hb2 hrow HB HC HC1
  go_wp2_with fail
  go_loopw [14, 15, 16] (fun v vA a wr => ∃ (i : Nat) (M : List UInt8) (A : List Nat) (p : Nat), i ≤ ws.length ∧ a = .int .i64 i ∧ M.length ≤ 60000 ∧ Hid (A.length = i) ∧ Hid (PSt z sm ws i M A p) ∧ Hid (_root_.Go.Proofs.YtdlomdbmmhjppaaGreatDoor.Own wr w.heap.size v M) ∧ Hid (RowAt wr w.heap.size vA A) ∧ Hid (RowW wr w1.heap.size (.slice av ws.length cv) ws) ∧ Hid (Below w.heap.size w wr)) (fun _ _ a _ => ws.length - (intOf a).toNat)
  case atStart => exact ⟨0, _, _, _, Nat.zero_le _, rfl, by decide, hide rfl, hst0, O2, hide (RowAt.nil _ _), R2, B2⟩
  case round =>
    obtain ⟨i, M, A, p, hi, rfl, hMl, hAl, hS, hO, hN, hrow, hB⟩ := hrel
    obtain ⟨ab, cb, rfl⟩ := hO.out.slice
    obtain ⟨aa, ca, rfl⟩ := hN.out.slice
    by_cases hlt : i < ws.length
    · have hii : (i : Int) < ws.length := by omega
      have hS2' := hS.out.step hlt
      obtain ⟨hp0', hpk'⟩ := hS.out.prev hi
      have hp0 := hide hp0'
      have hpk := hide hpk'
      have hxs := hide (hshort.out ws[i] (List.getElem_mem hlt))
      obtain ⟨g, rfl, hgB'⟩ := row_some9 (n := ws.length) rfl hrow.out (by omega)
      have hgB := hide hgB'
      obtain ⟨d0, d1, d2⟩ := rowW_cells rfl hrow.out i hlt
      have hzi := hzf.out i
      have hsi := hsf.out i
      obtain ⟨x, hx⟩ : ∃ x, ws[i] = x := ⟨_, rfl⟩
      rw [hx] at hS2' hxs d0 d1 d2
      replace hx := hide hx
      have hS2 := hide hS2'
      obtain ⟨zi, hzi2⟩ : ∃ zi, z i = zi := ⟨_, rfl⟩
      obtain ⟨si, hsi2⟩ : ∃ si, sm i = si := ⟨_, rfl⟩
      rw [hzi2] at hzi hS2
      rw [hsi2] at hsi hS2
      have HS := hide (fun w' => spS_call si x hxs.out (x.at' : Int) w')
      have hspl := hide (spS_short (b := si) hxs.out)
      clear hS2' hp0' hpk' hgB' hzi2 hsi2 hS
      obtain ⟨sx, hsx⟩ : ∃ sx, spS si x = sx := ⟨_, rfl⟩
      rw [hsx] at hS2 hspl HS
      clear hsx
      rcases hF.out with ⟨hl0, hF0⟩ | ⟨hl0, hlm, b, off, rfl, hFj⟩
      · have hl0' : ¬ (0 : Int) < len1 := by omega
        rw [hF0] at hzi hsi
        obtain rfl : si = true := by rw [hsi]; rfl
        clear hF0 hl0 hsi
        by_cases hi0 : i = 0
        · have hi0' : ¬ (0 : Int) < i := by omega
          have h4 : p = 4 := hp0.out hi0
          clear hi0 hpk hp0 hzi
          have hS3 : Hid (PSt z sm ws (i + 1) (M ++ sx) (A ++ [M.length]) x.kind) := hide (by have := hS2.out; rw [show gapS zi p = [] from by unfold gapS; rw [if_pos h4], List.append_nil] at this; exact this)
          clear hS2
          have hM1l : M.length ≤ 60004 := by omega
          generalize M = M1 at *
          generalize wr = W1 at *
          have O1 := hO; clear hO
          have N1 := hN; clear hN
          have R1 := hrow; clear hrow
          have B1 := hB; clear hB
          have q7 := hide (N1.out.keep (step (Below.refl _ _) (.cells #[.int .i64 (M1.length : Int)] 3)))
          have q8 := hide (O1.out.keep (step (Below.refl _ _) (.cells #[.int .i64 (M1.length : Int)] 3)))
          have q9 : Hid (RowW (W1.alloc (.cells #[.int .i64 (M1.length : Int)] 3)) w1.heap.size (.slice (some ⟨g, 0, none⟩) ws.length cv) ws) := hide (row_keep R1.out (step (Below.refl _ _) _))
          have q10 := hide (step B1.out (.cells #[.int .i64 (M1.length : Int)] 3))
          have q11 : (W1.alloc (.cells #[.int .i64 (M1.length : Int)] 3)).cell? ⟨W1.heap.size, 0, none⟩ = some (.int .i64 (M1.length : Int)) := (Blk.new W1 _ _).at' 0
          have q12 := hide q10.out.size
          clear O1 N1 R1 B1
          go_wp2_with (at_builtin; refine wpList_appAt rfl _ _ rfl rfl rfl q7.out q11 (by have := hAl.out; omega) q12.out ?_)
          intro vA2 w5 N5 hg5
          have O5 : Hid (_root_.Go.Proofs.YtdlomdbmmhjppaaGreatDoor.Own w5 w.heap.size _ M1) := hide (World.ownsRow.kept q8.out hg5 (own_apart q8.out q7.out (by decide)))
          have R5 : Hid (RowW w5 w1.heap.size (.slice (some ⟨g, 0, none⟩) ws.length cv) ws) := hide (World.ownsRow.kept q9.out hg5 (own_apart q9.out q7.out (by decide)))
          have B5 := hide (q10.out.grown hg5 q10.out.size (fun j e => (ownsRow_lt q7.out j e).1))
          replace N5 := hide N5
          obtain ⟨A2, hA2⟩ : ∃ A2, A ++ [M1.length] = A2 := ⟨_, rfl⟩
          have hA2l : Hid (A2.length = i + 1) := hide (by rw [← hA2, List.length_append, List.length_singleton, hAl.out])
          rw [hA2] at N5 hS3
          obtain ⟨aa2, ca2, rfl⟩ := N5.out.slice
          clear q7 q8 q9 q10 q11 q12 hg5 hA2
          obtain ⟨f0, f1, f2⟩ : WdAt w5 g i x := by have := rowW_cells rfl R5.out i hlt; rw [hx.out] at this; exact this
          have HS5 := hide (HS.out w5)
          go_wp2_with fail
          refine HS5.out.mono ?_
          rintro e w6 ⟨hb6, g6, c6, rfl, hg6, hce6'⟩
          have O6 := hide (O5.out.keep hb6)
          have N6 := hide (N5.out.keep hb6)
          have R6 : Hid (RowW w6 w1.heap.size (.slice (some ⟨g, 0, none⟩) ws.length cv) ws) := hide (row_keep R5.out hb6)
          have B6 := hide (next B5.out hb6)
          have q6 := hide B6.out.size
          have hce6 := hide hce6'
          clear hb6 hg6 hce6' HS5 O5 N5 R5 B5 f0 f1 f2
          go_wp2_with (at_builtin; refine wpList_appL rfl _ _ rfl rfl rfl O6.out hce6.out (by have := hspl.out; omega) q6.out ?_)
          intro v7 w7 O7 hg7
          have N7 : Hid (RowAt w7 w.heap.size _ A2) := hide (World.ownsRow.kept N6.out hg7 (own_apart N6.out O6.out (by decide)))
          have R7 : Hid (RowW w7 w1.heap.size (.slice (some ⟨g, 0, none⟩) ws.length cv) ws) := hide (World.ownsRow.kept R6.out hg7 (own_apart R6.out O6.out (by decide)))
          have B7 := hide (B6.out.grown hg7 B6.out.size (fun j e => (ownsRow_lt O6.out j e).1))
          replace O7 := hide O7
          obtain ⟨M7, hM7⟩ : ∃ M7, M1 ++ sx = M7 := ⟨_, rfl⟩
          rw [hM7] at O7 hS3
          obtain ⟨ab7, cb7, rfl⟩ := O7.out.slice
          clear hg7 O6 N6 R6 B6 q6 hce6 hM7
          by_cases hz7 : M7.length ≤ 60000
          · have hzi7 : ¬ (60000 : Int) < M7.length := by omega
            have hi1 : (i : Int) + 1 ≤ 9223372036854775807 := by omega
            go_wp2_with fail
            go_roundw
            case rel => exact ⟨i + 1, M7, A2, x.kind, by omega, by go_num, hz7, hA2l, hS3, O7, N7, R7, B7⟩
            case measure => simp [intOf]; omega
          · have hzi7 : (60000 : Int) < M7.length := by omega
            go_wp2_with fail
            go_ret
            exact ⟨rfl, B7.out⟩
        · have hi0' : (0 : Int) < i := by omega
          obtain ⟨j, hj⟩ : ∃ j, i = j + 1 := ⟨i - 1, by omega⟩
          have ji : (j : Int) < ws.length := by omega
          have jn : (i : Int) - 1 = j := by omega
          have jm : -9223372036854775808 ≤ (i : Int) - 1 := by omega
          have cj : wr.cell? ⟨g, j * 3, none⟩ = some (.int .i64 p) := by have := (rowW_cells rfl hrow.out j (by omega)).1; rw [hpk.out j (by omega) hj] at this; exact this
          replace hj := hide hj
          clear hi0 hpk hp0
          by_cases h4 : p = 4
          · have cj4 : wr.cell? ⟨g, j * 3, none⟩ = some (.int .i64 4) := by rw [h4] at cj; exact cj
            clear cj hzi
            have hS3 : Hid (PSt z sm ws (i + 1) (M ++ sx) (A ++ [M.length]) x.kind) := hide (by have := hS2.out; rw [show gapS zi p = [] from by unfold gapS; rw [if_pos h4], List.append_nil] at this; exact this)
            clear hS2
            have hM1l : M.length ≤ 60004 := by omega
            generalize M = M1 at *
            generalize wr = W1 at *
            have O1 := hO; clear hO
            have N1 := hN; clear hN
            have R1 := hrow; clear hrow
            have B1 := hB; clear hB
            have q7 := hide (N1.out.keep (step (Below.refl _ _) (.cells #[.int .i64 (M1.length : Int)] 3)))
            have q8 := hide (O1.out.keep (step (Below.refl _ _) (.cells #[.int .i64 (M1.length : Int)] 3)))
            have q9 : Hid (RowW (W1.alloc (.cells #[.int .i64 (M1.length : Int)] 3)) w1.heap.size (.slice (some ⟨g, 0, none⟩) ws.length cv) ws) := hide (row_keep R1.out (step (Below.refl _ _) _))
            have q10 := hide (step B1.out (.cells #[.int .i64 (M1.length : Int)] 3))
            have q11 : (W1.alloc (.cells #[.int .i64 (M1.length : Int)] 3)).cell? ⟨W1.heap.size, 0, none⟩ = some (.int .i64 (M1.length : Int)) := (Blk.new W1 _ _).at' 0
            have q12 := hide q10.out.size
            clear O1 N1 R1 B1
            go_wp2_with (at_builtin; refine wpList_appAt rfl _ _ rfl rfl rfl q7.out q11 (by have := hAl.out; omega) q12.out ?_)
            intro vA2 w5 N5 hg5
            have O5 : Hid (_root_.Go.Proofs.YtdlomdbmmhjppaaGreatDoor.Own w5 w.heap.size _ M1) := hide (World.ownsRow.kept q8.out hg5 (own_apart q8.out q7.out (by decide)))
            have R5 : Hid (RowW w5 w1.heap.size (.slice (some ⟨g, 0, none⟩) ws.length cv) ws) := hide (World.ownsRow.kept q9.out hg5 (own_apart q9.out q7.out (by decide)))
            have B5 := hide (q10.out.grown hg5 q10.out.size (fun j e => (ownsRow_lt q7.out j e).1))
            replace N5 := hide N5
            obtain ⟨A2, hA2⟩ : ∃ A2, A ++ [M1.length] = A2 := ⟨_, rfl⟩
            have hA2l : Hid (A2.length = i + 1) := hide (by rw [← hA2, List.length_append, List.length_singleton, hAl.out])
            rw [hA2] at N5 hS3
            obtain ⟨aa2, ca2, rfl⟩ := N5.out.slice
            clear q7 q8 q9 q10 q11 q12 hg5 hA2
            obtain ⟨f0, f1, f2⟩ : WdAt w5 g i x := by have := rowW_cells rfl R5.out i hlt; rw [hx.out] at this; exact this
            have HS5 := hide (HS.out w5)
            go_wp2_with fail
            refine HS5.out.mono ?_
            rintro e w6 ⟨hb6, g6, c6, rfl, hg6, hce6'⟩
            have O6 := hide (O5.out.keep hb6)
            have N6 := hide (N5.out.keep hb6)
            have R6 : Hid (RowW w6 w1.heap.size (.slice (some ⟨g, 0, none⟩) ws.length cv) ws) := hide (row_keep R5.out hb6)
            have B6 := hide (next B5.out hb6)
            have q6 := hide B6.out.size
            have hce6 := hide hce6'
            clear hb6 hg6 hce6' HS5 O5 N5 R5 B5 f0 f1 f2
            go_wp2_with (at_builtin; refine wpList_appL rfl _ _ rfl rfl rfl O6.out hce6.out (by have := hspl.out; omega) q6.out ?_)
            intro v7 w7 O7 hg7
            have N7 : Hid (RowAt w7 w.heap.size _ A2) := hide (World.ownsRow.kept N6.out hg7 (own_apart N6.out O6.out (by decide)))
            have R7 : Hid (RowW w7 w1.heap.size (.slice (some ⟨g, 0, none⟩) ws.length cv) ws) := hide (World.ownsRow.kept R6.out hg7 (own_apart R6.out O6.out (by decide)))
            have B7 := hide (B6.out.grown hg7 B6.out.size (fun j e => (ownsRow_lt O6.out j e).1))
            replace O7 := hide O7
            obtain ⟨M7, hM7⟩ : ∃ M7, M1 ++ sx = M7 := ⟨_, rfl⟩
            rw [hM7] at O7 hS3
            obtain ⟨ab7, cb7, rfl⟩ := O7.out.slice
            clear hg7 O6 N6 R6 B6 q6 hce6 hM7
            by_cases hz7 : M7.length ≤ 60000
            · have hzi7 : ¬ (60000 : Int) < M7.length := by omega
              have hi1 : (i : Int) + 1 ≤ 9223372036854775807 := by omega
              go_wp2_with fail
              go_roundw
              case rel => exact ⟨i + 1, M7, A2, x.kind, by omega, by go_num, hz7, hA2l, hS3, O7, N7, R7, B7⟩
              case measure => simp [intOf]; omega
            · have hzi7 : (60000 : Int) < M7.length := by omega
              go_wp2_with fail
              go_ret
              exact ⟨rfl, B7.out⟩
          · have hpn : ((p : Int) != 4) = true := by rw [bne_iff_ne]; omega
            cases zi
            · exact absurd hzi (by decide)
            · clear hzi
              have hS3 : Hid (PSt z sm ws (i + 1) (M ++ [32] ++ [10, 9] ++ sx) (A ++ [(M ++ [32] ++ [10, 9]).length]) x.kind) := hide (by have := hS2.out; rw [show gapS true p = [32] ++ [10, 9] from by unfold gapS; rw [if_neg h4]; rfl] at this; simp only [List.append_assoc] at this ⊢; exact this)
              clear hS2
              have q1 := hide (hO.out.keep (step (Below.refl _ _) by1))
              have q2 := hide (hN.out.keep (step (Below.refl _ _) by1))
              have q3 : Hid (RowW (wr.alloc by1) w1.heap.size (.slice (some ⟨g, 0, none⟩) ws.length cv) ws) := hide (row_keep hrow.out (step (Below.refl _ _) by1))
              have q4 := hide (step hB.out by1)
              have q5 : (wr.alloc by1).cell? ⟨wr.heap.size, 0, none⟩ = some (.int .u8 ((32 : UInt8).toNat : Int)) := (Blk.new wr _ _).at' 0
              have q6 := hide q4.out.size
              go_wp2_with (at_builtin; refine wpList_appB rfl _ _ rfl rfl rfl q1.out q5 (by omega) q6.out ?_)
              intro v3 W3 O3 hg3
              have N3 : Hid (RowAt W3 w.heap.size _ A) := hide (World.ownsRow.kept q2.out hg3 (own_apart q2.out q1.out (by decide)))
              have R3 : Hid (RowW W3 w1.heap.size (.slice (some ⟨g, 0, none⟩) ws.length cv) ws) := hide (World.ownsRow.kept q3.out hg3 (own_apart q3.out q1.out (by decide)))
              have B3 := hide (q4.out.grown hg3 q4.out.size (fun j e => (ownsRow_lt q1.out j e).1))
              replace O3 := hide O3
              obtain ⟨M3, hM3⟩ : ∃ M3, M ++ [32] = M3 := ⟨_, rfl⟩
              have hM3l : M3.length ≤ 60002 := by rw [← hM3, List.length_append, List.length_singleton]; omega
              rw [hM3] at O3 hS3
              obtain ⟨ab3, cb3, rfl⟩ := O3.out.slice
              clear q1 q2 q3 q4 q5 q6 hg3 hM3 hO hN hrow hB
              have q1 := hide (O3.out.keep (step (Below.refl _ _) by2))
              have q2 := hide (N3.out.keep (step (Below.refl _ _) by2))
              have q3 : Hid (RowW (W3.alloc by2) w1.heap.size (.slice (some ⟨g, 0, none⟩) ws.length cv) ws) := hide (row_keep R3.out (step (Below.refl _ _) by2))
              have q4 := hide (step B3.out by2)
              have q5 := hide (by2_at W3)
              have q6 := hide q4.out.size
              go_wp2_with (at_builtin; refine wpList_appL (N := [10, 9]) rfl _ _ rfl rfl rfl q1.out q5.out (by simp; omega) q6.out ?_)
              intro v4 W4 O4 hg4
              have N4 : Hid (RowAt W4 w.heap.size _ A) := hide (World.ownsRow.kept q2.out hg4 (own_apart q2.out q1.out (by decide)))
              have R4 : Hid (RowW W4 w1.heap.size (.slice (some ⟨g, 0, none⟩) ws.length cv) ws) := hide (World.ownsRow.kept q3.out hg4 (own_apart q3.out q1.out (by decide)))
              have B4 := hide (q4.out.grown hg4 q4.out.size (fun j e => (ownsRow_lt q1.out j e).1))
              replace O4 := hide O4
              obtain ⟨M1, hM1⟩ : ∃ M1, M3 ++ [10, 9] = M1 := ⟨_, rfl⟩
              have hM1l : M1.length ≤ 60004 := by rw [← hM1, List.length_append]; simp; omega
              rw [hM1] at O4 hS3
              obtain ⟨ab4, cb4, rfl⟩ := O4.out.slice
              clear q1 q2 q3 q4 q5 q6 hg4 hM1 O3 N3 R3 B3
              have q7 := hide (N4.out.keep (step (Below.refl _ _) (.cells #[.int .i64 (M1.length : Int)] 3)))
              have q8 := hide (O4.out.keep (step (Below.refl _ _) (.cells #[.int .i64 (M1.length : Int)] 3)))
              have q9 : Hid (RowW (W4.alloc (.cells #[.int .i64 (M1.length : Int)] 3)) w1.heap.size (.slice (some ⟨g, 0, none⟩) ws.length cv) ws) := hide (row_keep R4.out (step (Below.refl _ _) _))
              have q10 := hide (step B4.out (.cells #[.int .i64 (M1.length : Int)] 3))
              have q11 : (W4.alloc (.cells #[.int .i64 (M1.length : Int)] 3)).cell? ⟨W4.heap.size, 0, none⟩ = some (.int .i64 (M1.length : Int)) := (Blk.new W4 _ _).at' 0
              have q12 := hide q10.out.size
              clear O4 N4 R4 B4
              go_wp2_with (at_builtin; refine wpList_appAt rfl _ _ rfl rfl rfl q7.out q11 (by have := hAl.out; omega) q12.out ?_)
              intro vA2 w5 N5 hg5
              have O5 : Hid (_root_.Go.Proofs.YtdlomdbmmhjppaaGreatDoor.Own w5 w.heap.size _ M1) := hide (World.ownsRow.kept q8.out hg5 (own_apart q8.out q7.out (by decide)))
              have R5 : Hid (RowW w5 w1.heap.size (.slice (some ⟨g, 0, none⟩) ws.length cv) ws) := hide (World.ownsRow.kept q9.out hg5 (own_apart q9.out q7.out (by decide)))
              have B5 := hide (q10.out.grown hg5 q10.out.size (fun j e => (ownsRow_lt q7.out j e).1))
              replace N5 := hide N5
              obtain ⟨A2, hA2⟩ : ∃ A2, A ++ [M1.length] = A2 := ⟨_, rfl⟩
              have hA2l : Hid (A2.length = i + 1) := hide (by rw [← hA2, List.length_append, List.length_singleton, hAl.out])
              rw [hA2] at N5 hS3
              obtain ⟨aa2, ca2, rfl⟩ := N5.out.slice
              clear q7 q8 q9 q10 q11 q12 hg5 hA2
              obtain ⟨f0, f1, f2⟩ : WdAt w5 g i x := by have := rowW_cells rfl R5.out i hlt; rw [hx.out] at this; exact this
              have HS5 := hide (HS.out w5)
              go_wp2_with fail
              refine HS5.out.mono ?_
              rintro e w6 ⟨hb6, g6, c6, rfl, hg6, hce6'⟩
              have O6 := hide (O5.out.keep hb6)
              have N6 := hide (N5.out.keep hb6)
              have R6 : Hid (RowW w6 w1.heap.size (.slice (some ⟨g, 0, none⟩) ws.length cv) ws) := hide (row_keep R5.out hb6)
              have B6 := hide (next B5.out hb6)
              have q6 := hide B6.out.size
              have hce6 := hide hce6'
              clear hb6 hg6 hce6' HS5 O5 N5 R5 B5 f0 f1 f2
              go_wp2_with (at_builtin; refine wpList_appL rfl _ _ rfl rfl rfl O6.out hce6.out (by have := hspl.out; omega) q6.out ?_)
              intro v7 w7 O7 hg7
              have N7 : Hid (RowAt w7 w.heap.size _ A2) := hide (World.ownsRow.kept N6.out hg7 (own_apart N6.out O6.out (by decide)))
              have R7 : Hid (RowW w7 w1.heap.size (.slice (some ⟨g, 0, none⟩) ws.length cv) ws) := hide (World.ownsRow.kept R6.out hg7 (own_apart R6.out O6.out (by decide)))
              have B7 := hide (B6.out.grown hg7 B6.out.size (fun j e => (ownsRow_lt O6.out j e).1))
              replace O7 := hide O7
              obtain ⟨M7, hM7⟩ : ∃ M7, M1 ++ sx = M7 := ⟨_, rfl⟩
              rw [hM7] at O7 hS3
              obtain ⟨ab7, cb7, rfl⟩ := O7.out.slice
              clear hg7 O6 N6 R6 B6 q6 hce6 hM7
              by_cases hz7 : M7.length ≤ 60000
              · have hzi7 : ¬ (60000 : Int) < M7.length := by omega
                have hi1 : (i : Int) + 1 ≤ 9223372036854775807 := by omega
                go_wp2_with fail
                go_roundw
                case rel => exact ⟨i + 1, M7, A2, x.kind, by omega, by go_num, hz7, hA2l, hS3, O7, N7, R7, B7⟩
                case measure => simp [intOf]; omega
              · have hzi7 : (60000 : Int) < M7.length := by omega
                go_wp2_with fail
                go_ret
                exact ⟨rfl, B7.out⟩
      · have hl0' : (0 : Int) < len1 := by omega
        have hlm' : len1 ≤ 9223372036854775807 := hlm
        have hml : i % len1 < len1 := Nat.mod_lt _ hl0
        obtain ⟨hF1, hF2⟩ := hFj (i % len1) hml
        have hF3 := keep1 hB.out hF2
        generalize F (i % len1) = kk at *
        have hr1 : Int.tmod (i : Int) (len1 : Int) = ((i % len1 : Nat) : Int) := (Int.ofNat_tmod i len1).symm
        have hr2 : Int.tmod (kk : Int) 3 = ((kk % 3 : Nat) : Int) := (Int.ofNat_tmod kk 3).symm
        have hr3 : ((i % len1 : Nat) : Int) < len1 := by omega
        have hr5 : ((len1 : Int) == 0) = false := by rw [beq_eq_false_iff_ne]; omega
        have hr6 : Int.tmod (kk : Int) 2 = ((kk % 2 : Nat) : Int) := (Int.ofNat_tmod kk 2).symm
        have e2 : (((kk % 2 : Nat) : Int) == 0) = si := by
          cases si
          · rw [beq_eq_false_iff_ne]; have := of_decide_eq_false hsi.symm; omega
          · rw [beq_iff_eq]; have := of_decide_eq_true hsi.symm; omega
        clear hsi
        generalize kk % 2 = k2 at *
        generalize i % len1 = im at *
        clear hFj hF2
        by_cases hi0 : i = 0
        · have hi0' : ¬ (0 : Int) < i := by omega
          have h4 : p = 4 := hp0.out hi0
          clear hi0 hpk hp0 hzi
          have hS3 : Hid (PSt z sm ws (i + 1) (M ++ sx) (A ++ [M.length]) x.kind) := hide (by have := hS2.out; rw [show gapS zi p = [] from by unfold gapS; rw [if_pos h4], List.append_nil] at this; exact this)
          clear hS2
          have hM1l : M.length ≤ 60004 := by omega
          generalize M = M1 at *
          generalize wr = W1 at *
          have O1 := hO; clear hO
          have N1 := hN; clear hN
          have R1 := hrow; clear hrow
          have B1 := hB; clear hB
          have q7 := hide (N1.out.keep (step (Below.refl _ _) (.cells #[.int .i64 (M1.length : Int)] 3)))
          have q8 := hide (O1.out.keep (step (Below.refl _ _) (.cells #[.int .i64 (M1.length : Int)] 3)))
          have q9 : Hid (RowW (W1.alloc (.cells #[.int .i64 (M1.length : Int)] 3)) w1.heap.size (.slice (some ⟨g, 0, none⟩) ws.length cv) ws) := hide (row_keep R1.out (step (Below.refl _ _) _))
          have q10 := hide (step B1.out (.cells #[.int .i64 (M1.length : Int)] 3))
          have q11 : (W1.alloc (.cells #[.int .i64 (M1.length : Int)] 3)).cell? ⟨W1.heap.size, 0, none⟩ = some (.int .i64 (M1.length : Int)) := (Blk.new W1 _ _).at' 0
          have q12 := hide q10.out.size
          clear O1 N1 R1 B1
          go_wp2_with (at_builtin; refine wpList_appAt rfl _ _ rfl rfl rfl q7.out q11 (by have := hAl.out; omega) q12.out ?_)
          intro vA2 w5 N5 hg5
          have O5 : Hid (_root_.Go.Proofs.YtdlomdbmmhjppaaGreatDoor.Own w5 w.heap.size _ M1) := hide (World.ownsRow.kept q8.out hg5 (own_apart q8.out q7.out (by decide)))
          have R5 : Hid (RowW w5 w1.heap.size (.slice (some ⟨g, 0, none⟩) ws.length cv) ws) := hide (World.ownsRow.kept q9.out hg5 (own_apart q9.out q7.out (by decide)))
          have B5 := hide (q10.out.grown hg5 q10.out.size (fun j e => (ownsRow_lt q7.out j e).1))
          replace N5 := hide N5
          obtain ⟨A2, hA2⟩ : ∃ A2, A ++ [M1.length] = A2 := ⟨_, rfl⟩
          have hA2l : Hid (A2.length = i + 1) := hide (by rw [← hA2, List.length_append, List.length_singleton, hAl.out])
          rw [hA2] at N5 hS3
          obtain ⟨aa2, ca2, rfl⟩ := N5.out.slice
          clear q7 q8 q9 q10 q11 q12 hg5 hA2
          obtain ⟨f0, f1, f2⟩ : WdAt w5 g i x := by have := rowW_cells rfl R5.out i hlt; rw [hx.out] at this; exact this
          have HS5 := hide (HS.out w5)
          go_wp2_with fail
          refine HS5.out.mono ?_
          rintro e w6 ⟨hb6, g6, c6, rfl, hg6, hce6'⟩
          have O6 := hide (O5.out.keep hb6)
          have N6 := hide (N5.out.keep hb6)
          have R6 : Hid (RowW w6 w1.heap.size (.slice (some ⟨g, 0, none⟩) ws.length cv) ws) := hide (row_keep R5.out hb6)
          have B6 := hide (next B5.out hb6)
          have q6 := hide B6.out.size
          have hce6 := hide hce6'
          clear hb6 hg6 hce6' HS5 O5 N5 R5 B5 f0 f1 f2
          go_wp2_with (at_builtin; refine wpList_appL rfl _ _ rfl rfl rfl O6.out hce6.out (by have := hspl.out; omega) q6.out ?_)
          intro v7 w7 O7 hg7
          have N7 : Hid (RowAt w7 w.heap.size _ A2) := hide (World.ownsRow.kept N6.out hg7 (own_apart N6.out O6.out (by decide)))
          have R7 : Hid (RowW w7 w1.heap.size (.slice (some ⟨g, 0, none⟩) ws.length cv) ws) := hide (World.ownsRow.kept R6.out hg7 (own_apart R6.out O6.out (by decide)))
          have B7 := hide (B6.out.grown hg7 B6.out.size (fun j e => (ownsRow_lt O6.out j e).1))
          replace O7 := hide O7
          obtain ⟨M7, hM7⟩ : ∃ M7, M1 ++ sx = M7 := ⟨_, rfl⟩
          rw [hM7] at O7 hS3
          obtain ⟨ab7, cb7, rfl⟩ := O7.out.slice
          clear hg7 O6 N6 R6 B6 q6 hce6 hM7
          by_cases hz7 : M7.length ≤ 60000
          · have hzi7 : ¬ (60000 : Int) < M7.length := by omega
            have hi1 : (i : Int) + 1 ≤ 9223372036854775807 := by omega
            go_wp2_with fail
            go_roundw
            case rel => exact ⟨i + 1, M7, A2, x.kind, by omega, by go_num, hz7, hA2l, hS3, O7, N7, R7, B7⟩
            case measure => simp [intOf]; omega
          · have hzi7 : (60000 : Int) < M7.length := by omega
            go_wp2_with fail
            go_ret
            exact ⟨rfl, B7.out⟩
        · have hi0' : (0 : Int) < i := by omega
          obtain ⟨j, hj⟩ : ∃ j, i = j + 1 := ⟨i - 1, by omega⟩
          have ji : (j : Int) < ws.length := by omega
          have jn : (i : Int) - 1 = j := by omega
          have jm : -9223372036854775808 ≤ (i : Int) - 1 := by omega
          have cj : wr.cell? ⟨g, j * 3, none⟩ = some (.int .i64 p) := by have := (rowW_cells rfl hrow.out j (by omega)).1; rw [hpk.out j (by omega) hj] at this; exact this
          replace hj := hide hj
          clear hi0 hpk hp0
          by_cases h4 : p = 4
          · have cj4 : wr.cell? ⟨g, j * 3, none⟩ = some (.int .i64 4) := by rw [h4] at cj; exact cj
            clear cj hzi
            have hS3 : Hid (PSt z sm ws (i + 1) (M ++ sx) (A ++ [M.length]) x.kind) := hide (by have := hS2.out; rw [show gapS zi p = [] from by unfold gapS; rw [if_pos h4], List.append_nil] at this; exact this)
            clear hS2
            have hM1l : M.length ≤ 60004 := by omega
            generalize M = M1 at *
            generalize wr = W1 at *
            have O1 := hO; clear hO
            have N1 := hN; clear hN
            have R1 := hrow; clear hrow
            have B1 := hB; clear hB
            have q7 := hide (N1.out.keep (step (Below.refl _ _) (.cells #[.int .i64 (M1.length : Int)] 3)))
            have q8 := hide (O1.out.keep (step (Below.refl _ _) (.cells #[.int .i64 (M1.length : Int)] 3)))
            have q9 : Hid (RowW (W1.alloc (.cells #[.int .i64 (M1.length : Int)] 3)) w1.heap.size (.slice (some ⟨g, 0, none⟩) ws.length cv) ws) := hide (row_keep R1.out (step (Below.refl _ _) _))
            have q10 := hide (step B1.out (.cells #[.int .i64 (M1.length : Int)] 3))
            have q11 : (W1.alloc (.cells #[.int .i64 (M1.length : Int)] 3)).cell? ⟨W1.heap.size, 0, none⟩ = some (.int .i64 (M1.length : Int)) := (Blk.new W1 _ _).at' 0
            have q12 := hide q10.out.size
            clear O1 N1 R1 B1
            go_wp2_with (at_builtin; refine wpList_appAt rfl _ _ rfl rfl rfl q7.out q11 (by have := hAl.out; omega) q12.out ?_)
            intro vA2 w5 N5 hg5
            have O5 : Hid (_root_.Go.Proofs.YtdlomdbmmhjppaaGreatDoor.Own w5 w.heap.size _ M1) := hide (World.ownsRow.kept q8.out hg5 (own_apart q8.out q7.out (by decide)))
            have R5 : Hid (RowW w5 w1.heap.size (.slice (some ⟨g, 0, none⟩) ws.length cv) ws) := hide (World.ownsRow.kept q9.out hg5 (own_apart q9.out q7.out (by decide)))
            have B5 := hide (q10.out.grown hg5 q10.out.size (fun j e => (ownsRow_lt q7.out j e).1))
            replace N5 := hide N5
            obtain ⟨A2, hA2⟩ : ∃ A2, A ++ [M1.length] = A2 := ⟨_, rfl⟩
            have hA2l : Hid (A2.length = i + 1) := hide (by rw [← hA2, List.length_append, List.length_singleton, hAl.out])
            rw [hA2] at N5 hS3
            obtain ⟨aa2, ca2, rfl⟩ := N5.out.slice
            clear q7 q8 q9 q10 q11 q12 hg5 hA2
            obtain ⟨f0, f1, f2⟩ : WdAt w5 g i x := by have := rowW_cells rfl R5.out i hlt; rw [hx.out] at this; exact this
            have HS5 := hide (HS.out w5)
            go_wp2_with fail
            refine HS5.out.mono ?_
            rintro e w6 ⟨hb6, g6, c6, rfl, hg6, hce6'⟩
            have O6 := hide (O5.out.keep hb6)
            have N6 := hide (N5.out.keep hb6)
            have R6 : Hid (RowW w6 w1.heap.size (.slice (some ⟨g, 0, none⟩) ws.length cv) ws) := hide (row_keep R5.out hb6)
            have B6 := hide (next B5.out hb6)
            have q6 := hide B6.out.size
            have hce6 := hide hce6'
            clear hb6 hg6 hce6' HS5 O5 N5 R5 B5 f0 f1 f2
            go_wp2_with (at_builtin; refine wpList_appL rfl _ _ rfl rfl rfl O6.out hce6.out (by have := hspl.out; omega) q6.out ?_)
            intro v7 w7 O7 hg7
            have N7 : Hid (RowAt w7 w.heap.size _ A2) := hide (World.ownsRow.kept N6.out hg7 (own_apart N6.out O6.out (by decide)))
            have R7 : Hid (RowW w7 w1.heap.size (.slice (some ⟨g, 0, none⟩) ws.length cv) ws) := hide (World.ownsRow.kept R6.out hg7 (own_apart R6.out O6.out (by decide)))
            have B7 := hide (B6.out.grown hg7 B6.out.size (fun j e => (ownsRow_lt O6.out j e).1))
            replace O7 := hide O7
            obtain ⟨M7, hM7⟩ : ∃ M7, M1 ++ sx = M7 := ⟨_, rfl⟩
            rw [hM7] at O7 hS3
            obtain ⟨ab7, cb7, rfl⟩ := O7.out.slice
            clear hg7 O6 N6 R6 B6 q6 hce6 hM7
            by_cases hz7 : M7.length ≤ 60000
            · have hzi7 : ¬ (60000 : Int) < M7.length := by omega
              have hi1 : (i : Int) + 1 ≤ 9223372036854775807 := by omega
              go_wp2_with fail
              go_roundw
              case rel => exact ⟨i + 1, M7, A2, x.kind, by omega, by go_num, hz7, hA2l, hS3, O7, N7, R7, B7⟩
              case measure => simp [intOf]; omega
            · have hzi7 : (60000 : Int) < M7.length := by omega
              go_wp2_with fail
              go_ret
              exact ⟨rfl, B7.out⟩
          · have hpn : ((p : Int) != 4) = true := by rw [bne_iff_ne]; omega
            cases zi
            · have e3 : (((kk % 3 : Nat) : Int) == 0) = false := by rw [beq_eq_false_iff_ne]; have := of_decide_eq_false hzi.symm; omega
              generalize kk % 3 = k3 at *
              clear hzi
              have hS3 : Hid (PSt z sm ws (i + 1) (M ++ [32] ++ sx) (A ++ [(M ++ [32]).length]) x.kind) := hide (by have := hS2.out; rw [show gapS false p = [32] from by unfold gapS; rw [if_neg h4]; rfl] at this; exact this)
              clear hS2
              have q1 := hide (hO.out.keep (step (Below.refl _ _) by1))
              have q2 := hide (hN.out.keep (step (Below.refl _ _) by1))
              have q3 : Hid (RowW (wr.alloc by1) w1.heap.size (.slice (some ⟨g, 0, none⟩) ws.length cv) ws) := hide (row_keep hrow.out (step (Below.refl _ _) by1))
              have q4 := hide (step hB.out by1)
              have q5 : (wr.alloc by1).cell? ⟨wr.heap.size, 0, none⟩ = some (.int .u8 ((32 : UInt8).toNat : Int)) := (Blk.new wr _ _).at' 0
              have q6 := hide q4.out.size
              go_wp2_with (at_builtin; refine wpList_appB rfl _ _ rfl rfl rfl q1.out q5 (by omega) q6.out ?_)
              intro v3 W3 O3 hg3
              have N3 : Hid (RowAt W3 w.heap.size _ A) := hide (World.ownsRow.kept q2.out hg3 (own_apart q2.out q1.out (by decide)))
              have R3 : Hid (RowW W3 w1.heap.size (.slice (some ⟨g, 0, none⟩) ws.length cv) ws) := hide (World.ownsRow.kept q3.out hg3 (own_apart q3.out q1.out (by decide)))
              have B3 := hide (q4.out.grown hg3 q4.out.size (fun j e => (ownsRow_lt q1.out j e).1))
              replace O3 := hide O3
              obtain ⟨M3, hM3⟩ : ∃ M3, M ++ [32] = M3 := ⟨_, rfl⟩
              have hM3l : M3.length ≤ 60002 := by rw [← hM3, List.length_append, List.length_singleton]; omega
              rw [hM3] at O3 hS3
              obtain ⟨ab3, cb3, rfl⟩ := O3.out.slice
              clear q1 q2 q3 q4 q5 q6 hg3 hM3 hO hN hrow hB
              have hM1l : M3.length ≤ 60004 := by omega
              generalize M3 = M1 at *
              have q7 := hide (N3.out.keep (step (Below.refl _ _) (.cells #[.int .i64 (M1.length : Int)] 3)))
              have q8 := hide (O3.out.keep (step (Below.refl _ _) (.cells #[.int .i64 (M1.length : Int)] 3)))
              have q9 : Hid (RowW (W3.alloc (.cells #[.int .i64 (M1.length : Int)] 3)) w1.heap.size (.slice (some ⟨g, 0, none⟩) ws.length cv) ws) := hide (row_keep R3.out (step (Below.refl _ _) _))
              have q10 := hide (step B3.out (.cells #[.int .i64 (M1.length : Int)] 3))
              have q11 : (W3.alloc (.cells #[.int .i64 (M1.length : Int)] 3)).cell? ⟨W3.heap.size, 0, none⟩ = some (.int .i64 (M1.length : Int)) := (Blk.new W3 _ _).at' 0
              have q12 := hide q10.out.size
              clear O3 N3 R3 B3
              go_wp2_with (at_builtin; refine wpList_appAt rfl _ _ rfl rfl rfl q7.out q11 (by have := hAl.out; omega) q12.out ?_)
              intro vA2 w5 N5 hg5
              have O5 : Hid (_root_.Go.Proofs.YtdlomdbmmhjppaaGreatDoor.Own w5 w.heap.size _ M1) := hide (World.ownsRow.kept q8.out hg5 (own_apart q8.out q7.out (by decide)))
              have R5 : Hid (RowW w5 w1.heap.size (.slice (some ⟨g, 0, none⟩) ws.length cv) ws) := hide (World.ownsRow.kept q9.out hg5 (own_apart q9.out q7.out (by decide)))
              have B5 := hide (q10.out.grown hg5 q10.out.size (fun j e => (ownsRow_lt q7.out j e).1))
              replace N5 := hide N5
              obtain ⟨A2, hA2⟩ : ∃ A2, A ++ [M1.length] = A2 := ⟨_, rfl⟩
              have hA2l : Hid (A2.length = i + 1) := hide (by rw [← hA2, List.length_append, List.length_singleton, hAl.out])
              rw [hA2] at N5 hS3
              obtain ⟨aa2, ca2, rfl⟩ := N5.out.slice
              clear q7 q8 q9 q10 q11 q12 hg5 hA2
              obtain ⟨f0, f1, f2⟩ : WdAt w5 g i x := by have := rowW_cells rfl R5.out i hlt; rw [hx.out] at this; exact this
              have HS5 := hide (HS.out w5)
              go_wp2_with fail
              refine HS5.out.mono ?_
              rintro e w6 ⟨hb6, g6, c6, rfl, hg6, hce6'⟩
              have O6 := hide (O5.out.keep hb6)
              have N6 := hide (N5.out.keep hb6)
              have R6 : Hid (RowW w6 w1.heap.size (.slice (some ⟨g, 0, none⟩) ws.length cv) ws) := hide (row_keep R5.out hb6)
              have B6 := hide (next B5.out hb6)
              have q6 := hide B6.out.size
              have hce6 := hide hce6'
              clear hb6 hg6 hce6' HS5 O5 N5 R5 B5 f0 f1 f2
              go_wp2_with (at_builtin; refine wpList_appL rfl _ _ rfl rfl rfl O6.out hce6.out (by have := hspl.out; omega) q6.out ?_)
              intro v7 w7 O7 hg7
              have N7 : Hid (RowAt w7 w.heap.size _ A2) := hide (World.ownsRow.kept N6.out hg7 (own_apart N6.out O6.out (by decide)))
              have R7 : Hid (RowW w7 w1.heap.size (.slice (some ⟨g, 0, none⟩) ws.length cv) ws) := hide (World.ownsRow.kept R6.out hg7 (own_apart R6.out O6.out (by decide)))
              have B7 := hide (B6.out.grown hg7 B6.out.size (fun j e => (ownsRow_lt O6.out j e).1))
              replace O7 := hide O7
              obtain ⟨M7, hM7⟩ : ∃ M7, M1 ++ sx = M7 := ⟨_, rfl⟩
              rw [hM7] at O7 hS3
              obtain ⟨ab7, cb7, rfl⟩ := O7.out.slice
              clear hg7 O6 N6 R6 B6 q6 hce6 hM7
              by_cases hz7 : M7.length ≤ 60000
              · have hzi7 : ¬ (60000 : Int) < M7.length := by omega
                have hi1 : (i : Int) + 1 ≤ 9223372036854775807 := by omega
                go_wp2_with fail
                go_roundw
                case rel => exact ⟨i + 1, M7, A2, x.kind, by omega, by go_num, hz7, hA2l, hS3, O7, N7, R7, B7⟩
                case measure => simp [intOf]; omega
              · have hzi7 : (60000 : Int) < M7.length := by omega
                go_wp2_with fail
                go_ret
                exact ⟨rfl, B7.out⟩
            · have e3 : (((kk % 3 : Nat) : Int) == 0) = true := by rw [beq_iff_eq]; have := of_decide_eq_true hzi.symm; omega
              generalize kk % 3 = k3 at *
              clear hzi
              have hS3 : Hid (PSt z sm ws (i + 1) (M ++ [32] ++ [10, 9] ++ sx) (A ++ [(M ++ [32] ++ [10, 9]).length]) x.kind) := hide (by have := hS2.out; rw [show gapS true p = [32] ++ [10, 9] from by unfold gapS; rw [if_neg h4]; rfl] at this; simp only [List.append_assoc] at this ⊢; exact this)
              clear hS2
              have q1 := hide (hO.out.keep (step (Below.refl _ _) by1))
              have q2 := hide (hN.out.keep (step (Below.refl _ _) by1))
              have q3 : Hid (RowW (wr.alloc by1) w1.heap.size (.slice (some ⟨g, 0, none⟩) ws.length cv) ws) := hide (row_keep hrow.out (step (Below.refl _ _) by1))
              have q4 := hide (step hB.out by1)
              have q5 : (wr.alloc by1).cell? ⟨wr.heap.size, 0, none⟩ = some (.int .u8 ((32 : UInt8).toNat : Int)) := (Blk.new wr _ _).at' 0
              have q6 := hide q4.out.size
              go_wp2_with (at_builtin; refine wpList_appB rfl _ _ rfl rfl rfl q1.out q5 (by omega) q6.out ?_)
              intro v3 W3 O3 hg3
              have N3 : Hid (RowAt W3 w.heap.size _ A) := hide (World.ownsRow.kept q2.out hg3 (own_apart q2.out q1.out (by decide)))
              have R3 : Hid (RowW W3 w1.heap.size (.slice (some ⟨g, 0, none⟩) ws.length cv) ws) := hide (World.ownsRow.kept q3.out hg3 (own_apart q3.out q1.out (by decide)))
              have B3 := hide (q4.out.grown hg3 q4.out.size (fun j e => (ownsRow_lt q1.out j e).1))
              replace O3 := hide O3
              obtain ⟨M3, hM3⟩ : ∃ M3, M ++ [32] = M3 := ⟨_, rfl⟩
              have hM3l : M3.length ≤ 60002 := by rw [← hM3, List.length_append, List.length_singleton]; omega
              rw [hM3] at O3 hS3
              obtain ⟨ab3, cb3, rfl⟩ := O3.out.slice
              clear q1 q2 q3 q4 q5 q6 hg3 hM3 hO hN hrow hB
              have q1 := hide (O3.out.keep (step (Below.refl _ _) by2))
              have q2 := hide (N3.out.keep (step (Below.refl _ _) by2))
              have q3 : Hid (RowW (W3.alloc by2) w1.heap.size (.slice (some ⟨g, 0, none⟩) ws.length cv) ws) := hide (row_keep R3.out (step (Below.refl _ _) by2))
              have q4 := hide (step B3.out by2)
              have q5 := hide (by2_at W3)
              have q6 := hide q4.out.size
              go_wp2_with (at_builtin; refine wpList_appL (N := [10, 9]) rfl _ _ rfl rfl rfl q1.out q5.out (by simp; omega) q6.out ?_)
              intro v4 W4 O4 hg4
              have N4 : Hid (RowAt W4 w.heap.size _ A) := hide (World.ownsRow.kept q2.out hg4 (own_apart q2.out q1.out (by decide)))
              have R4 : Hid (RowW W4 w1.heap.size (.slice (some ⟨g, 0, none⟩) ws.length cv) ws) := hide (World.ownsRow.kept q3.out hg4 (own_apart q3.out q1.out (by decide)))
              have B4 := hide (q4.out.grown hg4 q4.out.size (fun j e => (ownsRow_lt q1.out j e).1))
              replace O4 := hide O4
              obtain ⟨M1, hM1⟩ : ∃ M1, M3 ++ [10, 9] = M1 := ⟨_, rfl⟩
              have hM1l : M1.length ≤ 60004 := by rw [← hM1, List.length_append]; simp; omega
              rw [hM1] at O4 hS3
              obtain ⟨ab4, cb4, rfl⟩ := O4.out.slice
              clear q1 q2 q3 q4 q5 q6 hg4 hM1 O3 N3 R3 B3
              have q7 := hide (N4.out.keep (step (Below.refl _ _) (.cells #[.int .i64 (M1.length : Int)] 3)))
              have q8 := hide (O4.out.keep (step (Below.refl _ _) (.cells #[.int .i64 (M1.length : Int)] 3)))
              have q9 : Hid (RowW (W4.alloc (.cells #[.int .i64 (M1.length : Int)] 3)) w1.heap.size (.slice (some ⟨g, 0, none⟩) ws.length cv) ws) := hide (row_keep R4.out (step (Below.refl _ _) _))
              have q10 := hide (step B4.out (.cells #[.int .i64 (M1.length : Int)] 3))
              have q11 : (W4.alloc (.cells #[.int .i64 (M1.length : Int)] 3)).cell? ⟨W4.heap.size, 0, none⟩ = some (.int .i64 (M1.length : Int)) := (Blk.new W4 _ _).at' 0
              have q12 := hide q10.out.size
              clear O4 N4 R4 B4
              go_wp2_with (at_builtin; refine wpList_appAt rfl _ _ rfl rfl rfl q7.out q11 (by have := hAl.out; omega) q12.out ?_)
              intro vA2 w5 N5 hg5
              have O5 : Hid (_root_.Go.Proofs.YtdlomdbmmhjppaaGreatDoor.Own w5 w.heap.size _ M1) := hide (World.ownsRow.kept q8.out hg5 (own_apart q8.out q7.out (by decide)))
              have R5 : Hid (RowW w5 w1.heap.size (.slice (some ⟨g, 0, none⟩) ws.length cv) ws) := hide (World.ownsRow.kept q9.out hg5 (own_apart q9.out q7.out (by decide)))
              have B5 := hide (q10.out.grown hg5 q10.out.size (fun j e => (ownsRow_lt q7.out j e).1))
              replace N5 := hide N5
              obtain ⟨A2, hA2⟩ : ∃ A2, A ++ [M1.length] = A2 := ⟨_, rfl⟩
              have hA2l : Hid (A2.length = i + 1) := hide (by rw [← hA2, List.length_append, List.length_singleton, hAl.out])
              rw [hA2] at N5 hS3
              obtain ⟨aa2, ca2, rfl⟩ := N5.out.slice
              clear q7 q8 q9 q10 q11 q12 hg5 hA2
              obtain ⟨f0, f1, f2⟩ : WdAt w5 g i x := by have := rowW_cells rfl R5.out i hlt; rw [hx.out] at this; exact this
              have HS5 := hide (HS.out w5)
              go_wp2_with fail
              refine HS5.out.mono ?_
              rintro e w6 ⟨hb6, g6, c6, rfl, hg6, hce6'⟩
              have O6 := hide (O5.out.keep hb6)
              have N6 := hide (N5.out.keep hb6)
              have R6 : Hid (RowW w6 w1.heap.size (.slice (some ⟨g, 0, none⟩) ws.length cv) ws) := hide (row_keep R5.out hb6)
              have B6 := hide (next B5.out hb6)
              have q6 := hide B6.out.size
              have hce6 := hide hce6'
              clear hb6 hg6 hce6' HS5 O5 N5 R5 B5 f0 f1 f2
              go_wp2_with (at_builtin; refine wpList_appL rfl _ _ rfl rfl rfl O6.out hce6.out (by have := hspl.out; omega) q6.out ?_)
              intro v7 w7 O7 hg7
              have N7 : Hid (RowAt w7 w.heap.size _ A2) := hide (World.ownsRow.kept N6.out hg7 (own_apart N6.out O6.out (by decide)))
              have R7 : Hid (RowW w7 w1.heap.size (.slice (some ⟨g, 0, none⟩) ws.length cv) ws) := hide (World.ownsRow.kept R6.out hg7 (own_apart R6.out O6.out (by decide)))
              have B7 := hide (B6.out.grown hg7 B6.out.size (fun j e => (ownsRow_lt O6.out j e).1))
              replace O7 := hide O7
              obtain ⟨M7, hM7⟩ : ∃ M7, M1 ++ sx = M7 := ⟨_, rfl⟩
              rw [hM7] at O7 hS3
              obtain ⟨ab7, cb7, rfl⟩ := O7.out.slice
              clear hg7 O6 N6 R6 B6 q6 hce6 hM7
              by_cases hz7 : M7.length ≤ 60000
              · have hzi7 : ¬ (60000 : Int) < M7.length := by omega
                have hi1 : (i : Int) + 1 ≤ 9223372036854775807 := by omega
                go_wp2_with fail
                go_roundw
                case rel => exact ⟨i + 1, M7, A2, x.kind, by omega, by go_num, hz7, hA2l, hS3, O7, N7, R7, B7⟩
                case measure => simp [intOf]; omega
              · have hzi7 : (60000 : Int) < M7.length := by omega
                go_wp2_with fail
                go_ret
                exact ⟨rfl, B7.out⟩
    · have hii : ¬ (i : Int) < ws.length := by omega
      obtain rfl : i = ws.length := by omega
      obtain ⟨he1, ht1, hpl1⟩ := HE.out M A p hS.out hMl
      have HQ1 := hide (HP.out wr hB.out)
      have HQ2 := hide (HP2.out M hMl)
      rw [he1, ht1] at HQ2
      have hMs : Hid ((ba M).size = M.length) := hide (ba_size M)
      obtain ⟨sb, hsb⟩ : ∃ sb, ba M = sb := ⟨_, rfl⟩
      rw [hsb] at HQ2 hMs hpl1 he1 ht1
      have hsbM : Hid ((⟨M.toArray⟩ : ByteArray) = sb) := hide hsb
      clear hsb he1 ht1
      generalize plP (parR sb) = pl2 at *
      generalize erP P = er at *
      generalize plP P = pl at *
      generalize trP P = tt at *
      have C0 := hide (Below.refl wr.heap.size wr)
      by_cases her : er = 0
      · subst her
        go_wp2_with (first
          | (refine wpList_load_blk_g rfl 30 _ rfl _ rfl _ (by with_reducible exact X4.out) _ Tryz.underlying30 rfl (exC_info _ _) ?_)
          | (refine wpList_load_blk_g rfl 30 _ rfl _ rfl _ (by with_reducible exact Y4.out) _ Tryz.underlying30 rfl (exC_info _ _) ?_)
          | (refine wpList_load_blk_g rfl 30 _ rfl _ rfl _ (by with_reducible exact X5.out) _ Tryz.underlying30 rfl (exC_info _ _) ?_)
          | (refine wpList_load_blk_g rfl 30 _ rfl _ rfl _ (by with_reducible exact Y5.out) _ Tryz.underlying30 rfl (exC_info _ _) ?_)
          | (have hq := C4; go_at_call 14; (refine E4.out.mono ?_; rintro e w5 ⟨rfl, hb⟩; clear hq; have C5 := hide (next C4.out hb); have X5 := hide (X4.out.keep hb); have Y5 := hide (Y4.out.keep hb); clear hb C4 E4 X4 Y4))
          | (have hq := C3; go_at_call 11; refine (HQ2.out _ (next hB.out C3.out)).mono ?_; rintro e w4 ⟨n4, a4, l4, c4, rfl, hb, hT⟩; clear hq; have hs4 := run_putnew w4 n4 a4 l4 c4; have C4 := hide (step (next C3.out hb) (exO n4 (.slice a4 l4 c4))); have X4 := hide ((X3.out.keep hb).alloc (exO n4 (.slice a4 l4 c4))); have Y4 := hide (Blk.new w4 (exC n4 (.slice a4 l4 c4)) 30); have E4 := hide (leq_any _ _ _ _ _ ((T3.out.step hb).step (step (Below.refl _ _) (exO n4 (.slice a4 l4 c4)))) (Tree.step hT (step (Below.refl _ _) (exO n4 (.slice a4 l4 c4))))); rw [same_self] at E4; clear hb hT C3 X3 T3)
          | (have hq := C0; go_at_call 11; refine HQ1.out.mono ?_; rintro e w3 ⟨n3, a3, l3, c3, rfl, hb, hT⟩; clear hq; have hs3 := run_putnew w3 n3 a3 l3 c3; have C3 := hide (step (next C0.out hb) (exO n3 (.slice a3 l3 c3))); have X3 := hide (Blk.new w3 (exC n3 (.slice a3 l3 c3)) 30); have T3 := hide (Tree.step hT (step (Below.refl _ _) (exO n3 (.slice a3 l3 c3)))); have cv3 := (hO.out.keep C3.out).conv; rw [hsbM.out] at cv3; clear hb hT C0))
        go_ret
        exact ⟨rfl, next hB.out C5.out⟩
      · have her1 : ((er : Int) == 0) = false := by rw [beq_eq_false_iff_ne]; omega
        have her2 : ((er : Int) != 0) = true := by rw [bne_iff_ne]; omega
        rcases hpl1.resolve_left her with ⟨hp1, hp2⟩ | ⟨i0, hi0, hp1, hA1, hp2, hp3, hp4⟩
        · have hq1 : ((pl : Int) == (s.size : Int)) = true := by rw [beq_iff_eq, hsz.out, hp1]
          have hq2 : ((pl2 : Int) == (M.length : Int)) = true := by rw [beq_iff_eq, hp2]
          clear hp1 hp2
          go_wp2_with (first
            | (refine wpList_load_blk_g rfl 30 _ rfl _ rfl _ (by with_reducible exact X4.out) _ Tryz.underlying30 rfl (exC_info _ _) ?_)
            | (refine wpList_load_blk_g rfl 30 _ rfl _ rfl _ (by with_reducible exact Y4.out) _ Tryz.underlying30 rfl (exC_info _ _) ?_)
            | (refine wpList_load_blk_g rfl 30 _ rfl _ rfl _ (by with_reducible exact X5.out) _ Tryz.underlying30 rfl (exC_info _ _) ?_)
            | (refine wpList_load_blk_g rfl 30 _ rfl _ rfl _ (by with_reducible exact Y5.out) _ Tryz.underlying30 rfl (exC_info _ _) ?_)
            | (have hq := C4; go_at_call 14; (refine E4.out.mono ?_; rintro e w5 ⟨rfl, hb⟩; clear hq; have C5 := hide (next C4.out hb); have X5 := hide (X4.out.keep hb); have Y5 := hide (Y4.out.keep hb); clear hb C4 E4 X4 Y4))
            | (have hq := C3; go_at_call 11; refine (HQ2.out _ (next hB.out C3.out)).mono ?_; rintro e w4 ⟨n4, a4, l4, c4, rfl, hb, hT⟩; clear hq; have hs4 := run_putnew w4 n4 a4 l4 c4; have C4 := hide (step (next C3.out hb) (exO n4 (.slice a4 l4 c4))); have X4 := hide ((X3.out.keep hb).alloc (exO n4 (.slice a4 l4 c4))); have Y4 := hide (Blk.new w4 (exC n4 (.slice a4 l4 c4)) 30); have E4 := hide (leq_any _ _ _ _ _ ((T3.out.step hb).step (step (Below.refl _ _) (exO n4 (.slice a4 l4 c4)))) (Tree.step hT (step (Below.refl _ _) (exO n4 (.slice a4 l4 c4))))); rw [same_self] at E4; clear hb hT C3 X3 T3)
            | (have hq := C0; go_at_call 11; refine HQ1.out.mono ?_; rintro e w3 ⟨n3, a3, l3, c3, rfl, hb, hT⟩; clear hq; have hs3 := run_putnew w3 n3 a3 l3 c3; have C3 := hide (step (next C0.out hb) (exO n3 (.slice a3 l3 c3))); have X3 := hide (Blk.new w3 (exC n3 (.slice a3 l3 c3)) 30); have T3 := hide (Tree.step hT (step (Below.refl _ _) (exO n3 (.slice a3 l3 c3)))); have cv3 := (hO.out.keep C3.out).conv; rw [hsbM.out] at cv3; clear hb hT C0))
          go_ret
          exact ⟨rfl, next hB.out C5.out⟩
        · have hq1 : ((pl : Int) == (s.size : Int)) = false := by rw [beq_eq_false_iff_ne, hsz.out]; omega
          have hq2 : ((pl2 : Int) == (M.length : Int)) = false := by rw [beq_eq_false_iff_ne]; omega
          replace hp1 := hide hp1
          replace hp4 := hide hp4
          replace hA1 := hide hA1
          go_wp2_with (first
            | (refine wpList_load_blk_g rfl 30 _ rfl _ rfl _ (by with_reducible exact X4.out) _ Tryz.underlying30 rfl (exC_info _ _) ?_)
            | (refine wpList_load_blk_g rfl 30 _ rfl _ rfl _ (by with_reducible exact Y4.out) _ Tryz.underlying30 rfl (exC_info _ _) ?_)
            | (refine wpList_load_blk_g rfl 30 _ rfl _ rfl _ (by with_reducible exact X5.out) _ Tryz.underlying30 rfl (exC_info _ _) ?_)
            | (refine wpList_load_blk_g rfl 30 _ rfl _ rfl _ (by with_reducible exact Y5.out) _ Tryz.underlying30 rfl (exC_info _ _) ?_)
            | (have hq := C4; go_at_call 14; (refine E4.out.mono ?_; rintro e w5 ⟨rfl, hb⟩; clear hq; have C5 := hide (next C4.out hb); have X5 := hide (X4.out.keep hb); have Y5 := hide (Y4.out.keep hb); clear hb C4 E4 X4 Y4))
            | (have hq := C3; go_at_call 11; refine (HQ2.out _ (next hB.out C3.out)).mono ?_; rintro e w4 ⟨n4, a4, l4, c4, rfl, hb, hT⟩; clear hq; have hs4 := run_putnew w4 n4 a4 l4 c4; have C4 := hide (step (next C3.out hb) (exO n4 (.slice a4 l4 c4))); have X4 := hide ((X3.out.keep hb).alloc (exO n4 (.slice a4 l4 c4))); have Y4 := hide (Blk.new w4 (exC n4 (.slice a4 l4 c4)) 30); have E4 := hide (leq_any _ _ _ _ _ ((T3.out.step hb).step (step (Below.refl _ _) (exO n4 (.slice a4 l4 c4)))) (Tree.step hT (step (Below.refl _ _) (exO n4 (.slice a4 l4 c4))))); rw [same_self] at E4; clear hb hT C3 X3 T3)
            | (have hq := C0; go_at_call 11; refine HQ1.out.mono ?_; rintro e w3 ⟨n3, a3, l3, c3, rfl, hb, hT⟩; clear hq; have hs3 := run_putnew w3 n3 a3 l3 c3; have C3 := hide (step (next C0.out hb) (exO n3 (.slice a3 l3 c3))); have X3 := hide (Blk.new w3 (exC n3 (.slice a3 l3 c3)) 30); have T3 := hide (Tree.step hT (step (Below.refl _ _) (exO n3 (.slice a3 l3 c3)))); have cv3 := (hO.out.keep C3.out).conv; rw [hsbM.out] at cv3; clear hb hT C0))
          have N5 := hide (hN.out.keep C5.out)
          have R5 : Hid (RowW w5 w1.heap.size (.slice av ws.length cv) ws) := hide (row_keep hrow.out C5.out)
          have B5 := hide (next hB.out C5.out)
          obtain ⟨g, rfl, hgB'⟩ := row_some9 (n := ws.length) rfl R5.out (by omega)
          obtain ⟨gA, rfl, hgA'⟩ := RowAt.some (n := A.length) rfl N5.out (by have := hAl.out; omega)
          clear hgB' hgA' hO hN hrow hB C5
          go_loopw [24] (fun a wq => ∃ (j : Nat), j ≤ i0 ∧ a = .int .i64 j ∧ Hid (Below w5.heap.size w5 wq)) (fun a _ => ws.length - (intOf a).toNat)
          case atStart => exact ⟨0, Nat.zero_le _, rfl, hide (Below.refl _ _)⟩
          case round =>
            obtain ⟨j, hj, rfl, hQ⟩ := hrel
            have hjl : j < ws.length := by omega
            have hji : (j : Int) < ws.length := by omega
            obtain ⟨d0, d1, d2⟩ := (rowW_cells rfl R5.out j hjl).keep hQ.out
            have hat := hats.out j hjl
            have hj1 : (j : Int) + 1 ≤ 9223372036854775807 := by omega
            have ha1 : (ws[j].at' : Int) + 1 ≤ 9223372036854775807 := by omega
            by_cases hje : j = i0
            · subst hje
              have ht : ((ws[j].at' : Int) + 1 == (pl : Int)) = true := by rw [beq_iff_eq, hp1.out]; omega
              have cA := keep1 hQ.out (RowAt.at rfl N5.out j pl2 hA1.out)
              have hAi : (j : Int) < A.length := by have := hAl.out; omega
              go_wp2_with fail
              go_ret
              exact ⟨rfl, next B5.out hQ.out⟩
            · have ht : ((ws[j].at' : Int) + 1 == (pl : Int)) = false := by rw [beq_eq_false_iff_ne]; have := hp4.out j (by omega) hjl; omega
              go_wp2_with fail
              go_roundw
              case rel => exact ⟨j + 1, by omega, by go_num, hQ⟩
              case measure => simp [intOf]; omega
end Go.Proofs.YtdlomdbmmhjppaaGreatDoor.T9
namespace Go.Proofs.YtdlomdbmmhjppaaGreatDoor.T9
open Go.RowKit Go.Sort
set_option linter.unusedVariables false

theorem parseWords_walk {W : World} (hL : Lay8 W) (s : ByteArray) (hm : s.size ≤ maxLen) (a1 : Option Addr) (len1 cap1 : Nat) (hY : BytesIn W a1 len1) :
    Calls Tryz.prog 5 #[.string s, .slice a1 len1 cap1] W fun e w' => e = .returned (.bool true) ∧ Below W.heap.size W w' := by
  obtain ⟨L, rfl⟩ : ∃ L, s = ba L := ⟨s.data.toList, by apply ByteArray.ext; simp⟩
  cases L with
  | nil => exact pw_nil _ W hL
  | cons c r =>
    by_cases h : c = 61
    · subst h
      cases hc : cutR (ba r) with
      | bad i er => exact pw_bad r i er hc (by have := cutR_bad hc; omega) hm _ W hL
      | ok ws => exact pw_ok r ws hc hm a1 len1 cap1 W hY hL
    · exact pw_not c r h hm _ W hL
end Go.Proofs.YtdlomdbmmhjppaaGreatDoor.T9
