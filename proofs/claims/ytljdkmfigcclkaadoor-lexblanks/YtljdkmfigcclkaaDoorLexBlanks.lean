/- LexBlanks: what the law answers, for every text and every choice of blanks: true. Proved of the Go text. -/
import Derived.Test.YtljdkmfigcclkaaDoorLexBlS
namespace Go.Proofs.YtljdkmfigcclkaaDoor
open Go.RowKit Go.Sort
set_option linter.unusedVariables false

theorem spl_call {R : List UInt8 → Bool} (x : Wd) (hx : x.text.length ≤ 65535) (i : Int) (w : World) : Calls Tryd.prog 10 #[wdV x.kind (ba x.text) i] w fun e w' => SplP w w' (spl x) e := by
  unfold spl
  by_cases h : x.kind = 2
  · rw [if_pos h, h]
    have := spl_text (ba x.text) i w (by rw [ba_size]; exact hx)
    rw [ba_list] at this
    exact this
  · rw [if_neg h]
    have := spl_other x.kind (ba x.text) i w h
    rw [ba_list] at this
    exact this
theorem bytes_fun {w : World} {a : Option Addr} {len : Nat} (h : BytesIn w a len) : ∃ F : Nat → Nat, (len = 0 ∧ ∀ j, F j = 0) ∨ (0 < len ∧ len ≤ maxLen ∧ ∃ b off, a = some ⟨b, off, none⟩ ∧ ∀ j, j < len → F j < 256 ∧ w.cell? ⟨b, off + j, none⟩ = some (.int .u8 (F j : Int))) := by
  by_cases h0 : len = 0
  · exact ⟨fun _ => 0, .inl ⟨h0, fun _ => rfl⟩⟩
  · obtain ⟨b, off, e, hm, hj⟩ := h.resolve_left h0
    refine ⟨fun j => if h : j < len then Classical.choose (hj j h) else 0, .inr ⟨by omega, hm, b, off, e, fun j h => ?_⟩⟩
    simp only [dif_pos h]
    exact Classical.choose_spec (hj j h)
/-- The eight blanks as they lie in memory. -/
abbrev blO : Obj := .cells #[.string ⟨#[32]⟩, .string ⟨#[9]⟩, .string ⟨#[10]⟩, .string ⟨#[13]⟩, .string ⟨#[194, 160]⟩, .string ⟨#[227, 128, 128]⟩, .string ⟨#[32, 32]⟩, .string ⟨#[32, 194, 160, 9]⟩] 9
abbrev blC : Array Value := #[.string ⟨#[32]⟩, .string ⟨#[9]⟩, .string ⟨#[10]⟩, .string ⟨#[13]⟩, .string ⟨#[194, 160]⟩, .string ⟨#[227, 128, 128]⟩, .string ⟨#[32, 32]⟩, .string ⟨#[32, 194, 160, 9]⟩]
theorem blC_at (j : Nat) (h : j < 8) : blC[j]? = some (.string (ba (blks.getD j [32]))) := by
  have : j = 0 ∨ j = 1 ∨ j = 2 ∨ j = 3 ∨ j = 4 ∨ j = 5 ∨ j = 6 ∨ j = 7 := by omega
  rcases this with rfl | rfl | rfl | rfl | rfl | rfl | rfl | rfl <;> rfl
theorem blks_short {b : List UInt8} (h : b ∈ blks) : b.length ≤ 4 := by
  unfold blks at h
  simp only [List.mem_cons, List.not_mem_nil, or_false] at h
  rcases h with rfl | rfl | rfl | rfl | rfl | rfl | rfl | rfl <;> decide
theorem row_some {w : World} {B n : Nat} {a : Option Addr} {c : Nat} {l : List Wd} (hn : n = l.length) (h : RowW w B (.slice a n c) l) (h0 : n ≠ 0) : ∃ g, a = some ⟨g, 0, none⟩ ∧ B ≤ g := by
  subst hn
  rcases h.2 with ⟨e, hn⟩ | ⟨g, cap, cur, e, hb, _⟩
  · omega
  · exact ⟨g, by cases e; rfl, hb⟩
set_option maxRecDepth 100000 in
set_option maxHeartbeats 8000000 in
theorem lexBlanks_walk {W : World} (hL : Lay8 W) (s : ByteArray) (hm : s.size ≤ maxLen) (a1 : Option Addr) (len1 cap1 : Nat) (hY : BytesIn W a1 len1) :
    Calls Tryd.prog 4 #[.string s, .slice a1 len1 cap1] W fun e w' => e = .returned (.bool true) ∧ Below W.heap.size W w' := by
  have H1 := hide (begun8.out W hL)
  have H2 := hide (fun w hl => cut8 s w hl hm)
  replace hL := hide hL
  cases hc : cutR s with
  | bad i x =>
    have hx := cutR_bad hc
    have hx1 : ((x : Int) != 0) = true := by rw [bne_iff_ne]; omega
    rw [hc] at H2
    clear hc hx
    go_enter Tryd.func4, Tryd.ntmps4
    go_wp2_with fail
    refine H1.out.mono ?_
    rintro e w1 ⟨rfl, hb1⟩
    have HC := hide (H2.out w1 (hL.out.keep hb1))
    replace hb1 := hide hb1
    go_wp2_with fail
    refine HC.out.mono ?_
    rintro e w2 ⟨hb2, rfl⟩
    have hB2 := hide (next hb1.out hb2)
    clear hb1 hb2 H1 H2 HC
    go_wp2_with fail
    go_ret
    exact ⟨rfl, hB2.out⟩
  | ok ws =>
    have hlen := cutR_len hc
    have hshort := hide (cutR_short hc)
    obtain ⟨F, hF⟩ := bytes_fun hY
    have hsame := hide (blanks_same hc (qOf fun i => F (i % len1)) (qOf_mem _))
    have hql := hide (fun i => blks_short (qOf_mem (fun i => F (i % len1)) i))
    have hq : Hid (∀ i, qOf (fun i => F (i % len1)) i = blks.getD (F (i % len1) % 8) [32]) := hide fun i => rfl
    generalize qOf (fun i => F (i % len1)) = q at *
    have hnl := hide (bls_len q ws 4 0 0)
    have hst0 := hide (BSt.start q ws)
    replace hF := hide hF
    rw [hc] at H2
    clear hc hY
    go_enter Tryd.func4, Tryd.ntmps4
    go_wp2_with fail
    refine H1.out.mono ?_
    rintro e w1 ⟨rfl, hb1⟩
    have HC := hide (H2.out w1 (hL.out.keep hb1))
    replace hb1 := hide hb1
    go_wp2_with fail
    refine HC.out.mono ?_
    rintro e w2 ⟨hb2, v, rfl, hrow⟩
    have hB2 := hide (step (next hb1.out hb2) blO)
    obtain ⟨av, cv, rfl⟩ := row_slice hrow
    have hrow2 : Hid (RowW (w2.alloc blO) w1.heap.size (.slice av ws.length cv) (mix (bls q 4 0 0 ws) ws 0)) := hide (by rw [mix_0]; exact row_keep hrow (step (Below.refl _ _) blO))
    have bk2 := hide (Blk.new w2 blC 9)
    have h1W : Hid (W.heap.size ≤ w1.heap.size) := hide hb1.out.size
    obtain ⟨w3, hw3⟩ : ∃ w3, w2.alloc blO = w3 := ⟨_, rfl⟩
    have hw3' : Hid (w2.alloc (.cells blC 9) = w3) := hide hw3
    rw [hw3] at hB2 hrow2
    rw [hw3'.out] at bk2
    clear hb1 hb2 hrow H1 H2 HC hw3'
    generalize hg2 : w2.heap.size = Bb at *
    go_wp2_with fail
    go_loopw [9, 10] (fun v a wr => ∃ (i : Nat) (M : List UInt8) (p : Nat), i ≤ ws.length ∧ a = .int .i64 i ∧ M.length ≤ 60000 ∧ Hid (BSt q ws i M p) ∧ Hid (Own wr W.heap.size v M) ∧ Hid (RowW wr w1.heap.size (.slice av ws.length cv) (mix (bls q 4 0 0 ws) ws i)) ∧ Hid (Blk wr Bb blC 9) ∧ Hid (Below W.heap.size W wr)) (fun _ a _ => ws.length - (intOf a).toNat)
    case atStart => exact ⟨0, [], 4, Nat.zero_le _, rfl, Nat.zero_le _, hst0, hide (Own.nil _ _), hrow2, bk2, hB2⟩
    case round =>
      obtain ⟨i, M, p, hi, rfl, hMl, hS, hO, hrow, hbk, hB⟩ := hrel
      obtain ⟨ab, cb, rfl⟩ := hO.out.slice
      by_cases hlt : i < ws.length
      · have hii : (i : Int) < ws.length := by omega
        obtain ⟨hS2', hy⟩ := hS.out.step hlt
        have hKl := hide (mix_len hnl.out hi)
        have hK2l := hide (mix_len hnl.out (show i + 1 ≤ ws.length by omega))
        have hKi := hide (mix_at hnl.out hlt)
        have hset' := hide (mix_set hnl.out hlt hy)
        have hprev : Hid (∀ j, i = j + 1 → ∃ y, (mix (bls q 4 0 0 ws) ws i)[j]? = some y ∧ y.kind = p) := hide fun j e => by
          obtain ⟨y, h1, h2⟩ := hS.out.prev j e
          subst e
          exact ⟨y, by rw [mix_prev hnl.out hi]; exact h1, h2⟩
        have hxs := hide (hshort.out ws[i] (List.getElem_mem hlt))
        have hp0 := hide hS.out.first
        have hqi := hide (hq.out i)
        have hqn := hide (hql.out i)
        obtain ⟨x, hx⟩ : ∃ x, ws[i] = x := ⟨_, rfl⟩
        rw [hx] at hS2' hy hKi hset' hxs
        obtain ⟨K, hK⟩ : ∃ K, mix (bls q 4 0 0 ws) ws i = K := ⟨_, rfl⟩
        obtain ⟨K2, hK2⟩ : ∃ K2, mix (bls q 4 0 0 ws) ws (i + 1) = K2 := ⟨_, rfl⟩
        rw [hK] at hKl hKi hset' hprev hrow
        rw [hK2] at hK2l hset'
        have hKx : Hid (K[i]'(by rw [hKl.out]; exact hlt) = x) := hide (by
          have := hKi.out
          rw [List.getElem?_eq_getElem (by rw [hKl.out]; exact hlt)] at this
          exact Option.some.inj this)
        obtain ⟨g, rfl, hgB'⟩ := row_some (n := ws.length) hKl.out.symm hrow.out (by omega)
        have hgB := hide hgB'
        have hn0 : ws.length ≤ 65535 := hlen
        have hrelK2 : Hid (mix (bls q 4 0 0 ws) ws (i + 1) = K2) := hide hK2
        clear hx hK hK2 hgB' hsame hS
        by_cases h4 : p = 4
        · have hS2 : Hid (BSt q ws (i + 1) (M ++ spl x) x.kind) := hide (by have := hS2'; rw [if_pos h4, List.append_nil] at this; exact this)
          have hset : Hid (K.set i { x with at' := (M).length } = K2) := hide (by have := hset'.out; rw [if_pos h4, List.append_nil] at this; exact this)
          clear hS2' hset' hy
          by_cases hi0 : i = 0
          · have hi0' : ¬ (0 : Int) < i := by omega
            clear hprev hp0 hi0
            have hK2x : Hid (K2[i]'(by rw [hK2l.out]; exact hlt) = { x with at' := M.length }) := hide (by
              have h1 : i < K2.length := by rw [hK2l.out]; exact hlt
              have : K2[i]? = some { x with at' := M.length } := by rw [← hset.out, List.getElem?_set_self (by rw [hKl.out]; exact hlt)]
              rw [List.getElem?_eq_getElem h1] at this
              exact Option.some.inj this)
            have hfr := rowW_fr hrow.out (i * 3 + 2)
            obtain ⟨d0, d1, d2⟩ : WdAt wr g i x := by
              have := rowW_cells hKl.out.symm hrow.out i (by rw [hKl.out]; exact hlt)
              rw [hKx.out] at this; exact this
            have r4 : Hid (RowW (wr.setCell ⟨g, i * 3 + 2, none⟩ (.int .i64 (M.length : Int))) w1.heap.size (.slice (some ⟨g, 0, none⟩) ws.length cv) K2) := hide (by
              have := rowW_set hKl.out.symm hrow.out i M.length (by rw [hKl.out]; exact hlt)
              rw [hKx.out] at this
              rw [← hset.out]; exact this)
            have O4 : Hid (Own (wr.setCell ⟨g, i * 3 + 2, none⟩ (.int .i64 (M.length : Int))) W.heap.size (.slice ab M.length cb) M) := hide (World.ownsRow.kept hO.out (grown_set _ _ _ _) (.inr (fun e => rows_ne hO.out hrow.out (by decide) g e rfl)))
            have b4 : Hid (Blk (wr.setCell ⟨g, i * 3 + 2, none⟩ (.int .i64 (M.length : Int))) Bb blC 9) := hide (hbk.out.kept (grown_set _ _ _ _) (fun e => row_ne hrow.out hbk.out (by decide) e.symm))
            have B4 : Hid (Below W.heap.size W (wr.setCell ⟨g, i * 3 + 2, none⟩ (.int .i64 (M.length : Int)))) := hide (hB.out.setCell (p := ⟨g, i * 3 + 2, none⟩) (Nat.le_trans h1W.out hgB.out) _)
            obtain ⟨w4, hw4⟩ : ∃ w4, wr.setCell ⟨g, i * 3 + 2, none⟩ (.int .i64 (M.length : Int)) = w4 := ⟨_, rfl⟩
            rw [hw4] at r4 O4 b4 B4
            obtain ⟨f0, f1, f2⟩ : WdAt w4 g i { x with at' := M.length } := by
              have := rowW_cells hK2l.out.symm r4.out i (by rw [hK2l.out]; exact hlt)
              rw [hK2x.out] at this; exact this
            have HS := hide (spl_call (R := refL) x hxs.out (M.length : Int) w4)
            go_wp2_with fail
            refine HS.out.mono ?_
            rintro e w5 ⟨hb5, g5, c5, rfl, hg5, hce5⟩
            have O5 := hide (O4.out.keep hb5)
            have r5 := hide (row_keep r4.out hb5)
            have b5 := hide (b4.out.keep hb5)
            have B5 := hide (next B4.out hb5)
            have q5 := hide B5.out.size
            have hspl := hide (spl_short hxs.out)
            clear hb5 HS O4 r4 b4 B4 f0 f1 f2 d0 d1 d2 hfr hg5
            obtain ⟨sx, hsx⟩ : ∃ sx, spl x = sx := ⟨_, rfl⟩
            rw [hsx] at hspl
            simp only [hsx] at hce5
            replace hce5 := hide hce5
            rw [hsx]
            go_wp2_with (at_builtin; refine wpList_appL rfl _ _ rfl rfl rfl O5.out hce5.out (by have := hspl.out; omega) q5.out ?_)
            intro v6 w6 O6 hg6
            have r6 : Hid (RowW w6 w1.heap.size (.slice (some ⟨g, 0, none⟩) ws.length cv) K2) := hide (World.ownsRow.kept r5.out hg6 (.inr (fun e => rows_ne r5.out O5.out (by decide) g rfl e.symm)))
            have b6 := hide (b5.out.kept hg6 (fun e => row_ne O5.out b5.out (by decide) e.symm))
            have B6 := hide (B5.out.grown hg6 B5.out.size (fun j e => (O5.out.lt j e).1))
            replace O6 := hide O6
            have hS6 : Hid (BSt q ws (i + 1) (M ++ sx) x.kind) := hide (by rw [← hsx]; exact hS2.out)
            obtain ⟨M6, hM6⟩ : ∃ M6, M ++ sx = M6 := ⟨_, rfl⟩
            rw [hM6] at O6 hS6
            obtain ⟨a6, c6, rfl⟩ := O6.out.slice
            clear hg6 O5 r5 b5 B5 q5 hce5 hM6
            by_cases hz : M6.length ≤ 60000
            · have hzi : ¬ (60000 : Int) < M6.length := by omega
              have hi1 : (i : Int) + 1 ≤ 9223372036854775807 := by omega
              go_wp2_with fail
              go_roundw
              case rel => exact ⟨i + 1, M6, x.kind, by omega, by go_num, hz, hS6, O6, hide (by rw [hrelK2.out]; exact r6.out), b6, B6⟩
              case measure => simp [intOf]; omega
            · have hzi : (60000 : Int) < M6.length := by omega
              go_wp2_with fail
              go_ret
              exact ⟨rfl, B6.out⟩
          · have hi0' : (0 : Int) < i := by omega
            obtain ⟨j, hj⟩ : ∃ j, i = j + 1 := ⟨i - 1, by omega⟩
            have ji : (j : Int) < ws.length := by omega
            have jn : (i : Int) - 1 = j := by omega
            have jm : -9223372036854775808 ≤ (i : Int) - 1 := by omega
            obtain ⟨y, hy1, hy2⟩ := hprev.out j hj
            have cj : wr.cell? ⟨g, j * 3, none⟩ = some (.int .i64 4) := by
              have h1 : j < K.length := by rw [hKl.out]; omega
              have := (rowW_cells hKl.out.symm hrow.out j h1).1
              rw [List.getElem?_eq_getElem h1] at hy1
              rw [Option.some.inj hy1, hy2, h4] at this
              exact this
            replace hj := hide hj
            clear hprev hp0 hy1 hy2
            have hK2x : Hid (K2[i]'(by rw [hK2l.out]; exact hlt) = { x with at' := M.length }) := hide (by
              have h1 : i < K2.length := by rw [hK2l.out]; exact hlt
              have : K2[i]? = some { x with at' := M.length } := by rw [← hset.out, List.getElem?_set_self (by rw [hKl.out]; exact hlt)]
              rw [List.getElem?_eq_getElem h1] at this
              exact Option.some.inj this)
            have hfr := rowW_fr hrow.out (i * 3 + 2)
            obtain ⟨d0, d1, d2⟩ : WdAt wr g i x := by
              have := rowW_cells hKl.out.symm hrow.out i (by rw [hKl.out]; exact hlt)
              rw [hKx.out] at this; exact this
            have r4 : Hid (RowW (wr.setCell ⟨g, i * 3 + 2, none⟩ (.int .i64 (M.length : Int))) w1.heap.size (.slice (some ⟨g, 0, none⟩) ws.length cv) K2) := hide (by
              have := rowW_set hKl.out.symm hrow.out i M.length (by rw [hKl.out]; exact hlt)
              rw [hKx.out] at this
              rw [← hset.out]; exact this)
            have O4 : Hid (Own (wr.setCell ⟨g, i * 3 + 2, none⟩ (.int .i64 (M.length : Int))) W.heap.size (.slice ab M.length cb) M) := hide (World.ownsRow.kept hO.out (grown_set _ _ _ _) (.inr (fun e => rows_ne hO.out hrow.out (by decide) g e rfl)))
            have b4 : Hid (Blk (wr.setCell ⟨g, i * 3 + 2, none⟩ (.int .i64 (M.length : Int))) Bb blC 9) := hide (hbk.out.kept (grown_set _ _ _ _) (fun e => row_ne hrow.out hbk.out (by decide) e.symm))
            have B4 : Hid (Below W.heap.size W (wr.setCell ⟨g, i * 3 + 2, none⟩ (.int .i64 (M.length : Int)))) := hide (hB.out.setCell (p := ⟨g, i * 3 + 2, none⟩) (Nat.le_trans h1W.out hgB.out) _)
            obtain ⟨w4, hw4⟩ : ∃ w4, wr.setCell ⟨g, i * 3 + 2, none⟩ (.int .i64 (M.length : Int)) = w4 := ⟨_, rfl⟩
            rw [hw4] at r4 O4 b4 B4
            obtain ⟨f0, f1, f2⟩ : WdAt w4 g i { x with at' := M.length } := by
              have := rowW_cells hK2l.out.symm r4.out i (by rw [hK2l.out]; exact hlt)
              rw [hK2x.out] at this; exact this
            have HS := hide (spl_call (R := refL) x hxs.out (M.length : Int) w4)
            go_wp2_with fail
            refine HS.out.mono ?_
            rintro e w5 ⟨hb5, g5, c5, rfl, hg5, hce5⟩
            have O5 := hide (O4.out.keep hb5)
            have r5 := hide (row_keep r4.out hb5)
            have b5 := hide (b4.out.keep hb5)
            have B5 := hide (next B4.out hb5)
            have q5 := hide B5.out.size
            have hspl := hide (spl_short hxs.out)
            clear hb5 HS O4 r4 b4 B4 f0 f1 f2 d0 d1 d2 hfr hg5
            obtain ⟨sx, hsx⟩ : ∃ sx, spl x = sx := ⟨_, rfl⟩
            rw [hsx] at hspl
            simp only [hsx] at hce5
            replace hce5 := hide hce5
            rw [hsx]
            go_wp2_with (at_builtin; refine wpList_appL rfl _ _ rfl rfl rfl O5.out hce5.out (by have := hspl.out; omega) q5.out ?_)
            intro v6 w6 O6 hg6
            have r6 : Hid (RowW w6 w1.heap.size (.slice (some ⟨g, 0, none⟩) ws.length cv) K2) := hide (World.ownsRow.kept r5.out hg6 (.inr (fun e => rows_ne r5.out O5.out (by decide) g rfl e.symm)))
            have b6 := hide (b5.out.kept hg6 (fun e => row_ne O5.out b5.out (by decide) e.symm))
            have B6 := hide (B5.out.grown hg6 B5.out.size (fun j e => (O5.out.lt j e).1))
            replace O6 := hide O6
            have hS6 : Hid (BSt q ws (i + 1) (M ++ sx) x.kind) := hide (by rw [← hsx]; exact hS2.out)
            obtain ⟨M6, hM6⟩ : ∃ M6, M ++ sx = M6 := ⟨_, rfl⟩
            rw [hM6] at O6 hS6
            obtain ⟨a6, c6, rfl⟩ := O6.out.slice
            clear hg6 O5 r5 b5 B5 q5 hce5 hM6
            by_cases hz : M6.length ≤ 60000
            · have hzi : ¬ (60000 : Int) < M6.length := by omega
              have hi1 : (i : Int) + 1 ≤ 9223372036854775807 := by omega
              go_wp2_with fail
              go_roundw
              case rel => exact ⟨i + 1, M6, x.kind, by omega, by go_num, hz, hS6, O6, hide (by rw [hrelK2.out]; exact r6.out), b6, B6⟩
              case measure => simp [intOf]; omega
            · have hzi : (60000 : Int) < M6.length := by omega
              go_wp2_with fail
              go_ret
              exact ⟨rfl, B6.out⟩
        · obtain ⟨Qi, hQi⟩ : ∃ Qi, q i = Qi := ⟨_, rfl⟩
          rw [hQi] at hqi hqn hS2' hset'
          clear hQi
          have hS2 : Hid (BSt q ws (i + 1) (M ++ Qi ++ spl x) x.kind) := hide (by have := hS2'; rw [if_neg h4] at this; exact this)
          have hset : Hid (K.set i { x with at' := (M ++ Qi).length } = K2) := hide (by have := hset'.out; rw [if_neg h4] at this; exact this)
          clear hS2' hset' hy
          have hi0 : i ≠ 0 := fun e => h4 (hp0.out e)
          have hi0' : (0 : Int) < i := by omega
          obtain ⟨j, hj⟩ : ∃ j, i = j + 1 := ⟨i - 1, by omega⟩
          have ji : (j : Int) < ws.length := by omega
          have jn : (i : Int) - 1 = j := by omega
          have jm : -9223372036854775808 ≤ (i : Int) - 1 := by omega
          have hpn : ((p : Int) != 4) = true := by rw [bne_iff_ne]; omega
          obtain ⟨y, hy1, hy2⟩ := hprev.out j hj
          have cj : wr.cell? ⟨g, j * 3, none⟩ = some (.int .i64 p) := by
            have h1 : j < K.length := by rw [hKl.out]; omega
            have := (rowW_cells hKl.out.symm hrow.out j h1).1
            rw [List.getElem?_eq_getElem h1] at hy1
            rw [Option.some.inj hy1, hy2] at this
            exact this
          replace hj := hide hj
          clear hprev hp0 hy1 hy2
          rcases hF.out with ⟨hl0, hF0⟩ | ⟨hl0, hlm, b, off, rfl, hFj⟩
          · have hl0' : ¬ (0 : Int) < len1 := by omega
            have cq : wr.cell? ⟨Bb, 0, none⟩ = some (.string (ba Qi)) := by
              rw [hqi.out, hF0]; exact hbk.out.at' 0
            clear hF0 hl0
            have hbq := hide hB.out.size
            have hcB := hide hMl
            go_wp2_with (at_builtin; refine wpList_appT rfl _ _ rfl rfl rfl hO.out (by rw [ba_size]; have := hqn.out; omega) hbq.out ?_)
            intro v3 w3x O3 hg3
            try rw [ba_list] at O3
            have r3 : Hid (RowW w3x w1.heap.size (.slice (some ⟨g, 0, none⟩) ws.length cv) K) := hide (World.ownsRow.kept hrow.out hg3 (.inr (fun e => rows_ne hrow.out hO.out (by decide) g rfl e.symm)))
            have b3 := hide (hbk.out.kept hg3 (fun e => row_ne hO.out hbk.out (by decide) e.symm))
            have B3 := hide (hB.out.grown hg3 hB.out.size (fun j e => (hO.out.lt j e).1))
            obtain ⟨M1, hM1⟩ : ∃ M1, M ++ Qi = M1 := ⟨_, rfl⟩
            have hM1l : M1.length ≤ 60004 := by rw [← hM1, List.length_append]; have := hqn.out; omega
            rw [hM1] at O3 hS2 hset
            replace O3 := hide O3
            obtain ⟨a3, c3, rfl⟩ := O3.out.slice
            clear hg3 hM1 hO hrow hbk hB
            have hK2x : Hid (K2[i]'(by rw [hK2l.out]; exact hlt) = { x with at' := M1.length }) := hide (by
              have h1 : i < K2.length := by rw [hK2l.out]; exact hlt
              have : K2[i]? = some { x with at' := M1.length } := by rw [← hset.out, List.getElem?_set_self (by rw [hKl.out]; exact hlt)]
              rw [List.getElem?_eq_getElem h1] at this
              exact Option.some.inj this)
            have hfr := rowW_fr r3.out (i * 3 + 2)
            obtain ⟨d0, d1, d2⟩ : WdAt w3x g i x := by
              have := rowW_cells hKl.out.symm r3.out i (by rw [hKl.out]; exact hlt)
              rw [hKx.out] at this; exact this
            have r4 : Hid (RowW (w3x.setCell ⟨g, i * 3 + 2, none⟩ (.int .i64 (M1.length : Int))) w1.heap.size (.slice (some ⟨g, 0, none⟩) ws.length cv) K2) := hide (by
              have := rowW_set hKl.out.symm r3.out i M1.length (by rw [hKl.out]; exact hlt)
              rw [hKx.out] at this
              rw [← hset.out]; exact this)
            have O4 : Hid (Own (w3x.setCell ⟨g, i * 3 + 2, none⟩ (.int .i64 (M1.length : Int))) W.heap.size (.slice a3 M1.length c3) M1) := hide (World.ownsRow.kept O3.out (grown_set _ _ _ _) (.inr (fun e => rows_ne O3.out r3.out (by decide) g e rfl)))
            have b4 : Hid (Blk (w3x.setCell ⟨g, i * 3 + 2, none⟩ (.int .i64 (M1.length : Int))) Bb blC 9) := hide (b3.out.kept (grown_set _ _ _ _) (fun e => row_ne r3.out b3.out (by decide) e.symm))
            have B4 : Hid (Below W.heap.size W (w3x.setCell ⟨g, i * 3 + 2, none⟩ (.int .i64 (M1.length : Int)))) := hide (B3.out.setCell (p := ⟨g, i * 3 + 2, none⟩) (Nat.le_trans h1W.out hgB.out) _)
            obtain ⟨w4, hw4⟩ : ∃ w4, w3x.setCell ⟨g, i * 3 + 2, none⟩ (.int .i64 (M1.length : Int)) = w4 := ⟨_, rfl⟩
            rw [hw4] at r4 O4 b4 B4
            obtain ⟨f0, f1, f2⟩ : WdAt w4 g i { x with at' := M1.length } := by
              have := rowW_cells hK2l.out.symm r4.out i (by rw [hK2l.out]; exact hlt)
              rw [hK2x.out] at this; exact this
            have HS := hide (spl_call (R := refL) x hxs.out (M1.length : Int) w4)
            go_wp2_with fail
            refine HS.out.mono ?_
            rintro e w5 ⟨hb5, g5, c5, rfl, hg5, hce5⟩
            have O5 := hide (O4.out.keep hb5)
            have r5 := hide (row_keep r4.out hb5)
            have b5 := hide (b4.out.keep hb5)
            have B5 := hide (next B4.out hb5)
            have q5 := hide B5.out.size
            have hspl := hide (spl_short hxs.out)
            clear hb5 HS O4 r4 b4 B4 f0 f1 f2 d0 d1 d2 hfr hg5
            obtain ⟨sx, hsx⟩ : ∃ sx, spl x = sx := ⟨_, rfl⟩
            rw [hsx] at hspl
            simp only [hsx] at hce5
            replace hce5 := hide hce5
            rw [hsx]
            go_wp2_with (at_builtin; refine wpList_appL rfl _ _ rfl rfl rfl O5.out hce5.out (by have := hspl.out; omega) q5.out ?_)
            intro v6 w6 O6 hg6
            have r6 : Hid (RowW w6 w1.heap.size (.slice (some ⟨g, 0, none⟩) ws.length cv) K2) := hide (World.ownsRow.kept r5.out hg6 (.inr (fun e => rows_ne r5.out O5.out (by decide) g rfl e.symm)))
            have b6 := hide (b5.out.kept hg6 (fun e => row_ne O5.out b5.out (by decide) e.symm))
            have B6 := hide (B5.out.grown hg6 B5.out.size (fun j e => (O5.out.lt j e).1))
            replace O6 := hide O6
            have hS6 : Hid (BSt q ws (i + 1) (M1 ++ sx) x.kind) := hide (by rw [← hsx]; exact hS2.out)
            obtain ⟨M6, hM6⟩ : ∃ M6, M1 ++ sx = M6 := ⟨_, rfl⟩
            rw [hM6] at O6 hS6
            obtain ⟨a6, c6, rfl⟩ := O6.out.slice
            clear hg6 O5 r5 b5 B5 q5 hce5 hM6
            by_cases hz : M6.length ≤ 60000
            · have hzi : ¬ (60000 : Int) < M6.length := by omega
              have hi1 : (i : Int) + 1 ≤ 9223372036854775807 := by omega
              go_wp2_with fail
              go_roundw
              case rel => exact ⟨i + 1, M6, x.kind, by omega, by go_num, hz, hS6, O6, hide (by rw [hrelK2.out]; exact r6.out), b6, B6⟩
              case measure => simp [intOf]; omega
            · have hzi : (60000 : Int) < M6.length := by omega
              go_wp2_with fail
              go_ret
              exact ⟨rfl, B6.out⟩
          · have hl0' : (0 : Int) < len1 := by omega
            have hlm' : len1 ≤ 9223372036854775807 := hlm
            have hml : i % len1 < len1 := Nat.mod_lt _ hl0
            obtain ⟨hF1, hF2⟩ := hFj (i % len1) hml
            have hF3 := keep1 hB.out hF2
            have cq : wr.cell? ⟨Bb, F (i % len1) % 8, none⟩ = some (.string (ba Qi)) := by
              rw [hqi.out, hbk.out.at']; exact blC_at _ (Nat.mod_lt _ (by decide))
            generalize F (i % len1) = kk at *
            have hr1 : Int.tmod (i : Int) (len1 : Int) = ((i % len1 : Nat) : Int) := (Int.ofNat_tmod i len1).symm
            have hr2 : Int.tmod (kk : Int) 8 = ((kk % 8 : Nat) : Int) := (Int.ofNat_tmod kk 8).symm
            have hr3 : ((i % len1 : Nat) : Int) < len1 := by omega
            have hr4 : ((kk % 8 : Nat) : Int) < 8 := by omega
            have hr5 : ((len1 : Int) == 0) = false := by rw [beq_eq_false_iff_ne]; omega
            generalize i % len1 = im at *
            generalize kk % 8 = km at *
            clear hFj hF2
            have hbq := hide hB.out.size
            have hcB := hide hMl
            go_wp2_with (at_builtin; refine wpList_appT rfl _ _ rfl rfl rfl hO.out (by rw [ba_size]; have := hqn.out; omega) hbq.out ?_)
            intro v3 w3x O3 hg3
            try rw [ba_list] at O3
            have r3 : Hid (RowW w3x w1.heap.size (.slice (some ⟨g, 0, none⟩) ws.length cv) K) := hide (World.ownsRow.kept hrow.out hg3 (.inr (fun e => rows_ne hrow.out hO.out (by decide) g rfl e.symm)))
            have b3 := hide (hbk.out.kept hg3 (fun e => row_ne hO.out hbk.out (by decide) e.symm))
            have B3 := hide (hB.out.grown hg3 hB.out.size (fun j e => (hO.out.lt j e).1))
            obtain ⟨M1, hM1⟩ : ∃ M1, M ++ Qi = M1 := ⟨_, rfl⟩
            have hM1l : M1.length ≤ 60004 := by rw [← hM1, List.length_append]; have := hqn.out; omega
            rw [hM1] at O3 hS2 hset
            replace O3 := hide O3
            obtain ⟨a3, c3, rfl⟩ := O3.out.slice
            clear hg3 hM1 hO hrow hbk hB
            have hK2x : Hid (K2[i]'(by rw [hK2l.out]; exact hlt) = { x with at' := M1.length }) := hide (by
              have h1 : i < K2.length := by rw [hK2l.out]; exact hlt
              have : K2[i]? = some { x with at' := M1.length } := by rw [← hset.out, List.getElem?_set_self (by rw [hKl.out]; exact hlt)]
              rw [List.getElem?_eq_getElem h1] at this
              exact Option.some.inj this)
            have hfr := rowW_fr r3.out (i * 3 + 2)
            obtain ⟨d0, d1, d2⟩ : WdAt w3x g i x := by
              have := rowW_cells hKl.out.symm r3.out i (by rw [hKl.out]; exact hlt)
              rw [hKx.out] at this; exact this
            have r4 : Hid (RowW (w3x.setCell ⟨g, i * 3 + 2, none⟩ (.int .i64 (M1.length : Int))) w1.heap.size (.slice (some ⟨g, 0, none⟩) ws.length cv) K2) := hide (by
              have := rowW_set hKl.out.symm r3.out i M1.length (by rw [hKl.out]; exact hlt)
              rw [hKx.out] at this
              rw [← hset.out]; exact this)
            have O4 : Hid (Own (w3x.setCell ⟨g, i * 3 + 2, none⟩ (.int .i64 (M1.length : Int))) W.heap.size (.slice a3 M1.length c3) M1) := hide (World.ownsRow.kept O3.out (grown_set _ _ _ _) (.inr (fun e => rows_ne O3.out r3.out (by decide) g e rfl)))
            have b4 : Hid (Blk (w3x.setCell ⟨g, i * 3 + 2, none⟩ (.int .i64 (M1.length : Int))) Bb blC 9) := hide (b3.out.kept (grown_set _ _ _ _) (fun e => row_ne r3.out b3.out (by decide) e.symm))
            have B4 : Hid (Below W.heap.size W (w3x.setCell ⟨g, i * 3 + 2, none⟩ (.int .i64 (M1.length : Int)))) := hide (B3.out.setCell (p := ⟨g, i * 3 + 2, none⟩) (Nat.le_trans h1W.out hgB.out) _)
            obtain ⟨w4, hw4⟩ : ∃ w4, w3x.setCell ⟨g, i * 3 + 2, none⟩ (.int .i64 (M1.length : Int)) = w4 := ⟨_, rfl⟩
            rw [hw4] at r4 O4 b4 B4
            obtain ⟨f0, f1, f2⟩ : WdAt w4 g i { x with at' := M1.length } := by
              have := rowW_cells hK2l.out.symm r4.out i (by rw [hK2l.out]; exact hlt)
              rw [hK2x.out] at this; exact this
            have HS := hide (spl_call (R := refL) x hxs.out (M1.length : Int) w4)
            go_wp2_with fail
            refine HS.out.mono ?_
            rintro e w5 ⟨hb5, g5, c5, rfl, hg5, hce5⟩
            have O5 := hide (O4.out.keep hb5)
            have r5 := hide (row_keep r4.out hb5)
            have b5 := hide (b4.out.keep hb5)
            have B5 := hide (next B4.out hb5)
            have q5 := hide B5.out.size
            have hspl := hide (spl_short hxs.out)
            clear hb5 HS O4 r4 b4 B4 f0 f1 f2 d0 d1 d2 hfr hg5
            obtain ⟨sx, hsx⟩ : ∃ sx, spl x = sx := ⟨_, rfl⟩
            rw [hsx] at hspl
            simp only [hsx] at hce5
            replace hce5 := hide hce5
            rw [hsx]
            go_wp2_with (at_builtin; refine wpList_appL rfl _ _ rfl rfl rfl O5.out hce5.out (by have := hspl.out; omega) q5.out ?_)
            intro v6 w6 O6 hg6
            have r6 : Hid (RowW w6 w1.heap.size (.slice (some ⟨g, 0, none⟩) ws.length cv) K2) := hide (World.ownsRow.kept r5.out hg6 (.inr (fun e => rows_ne r5.out O5.out (by decide) g rfl e.symm)))
            have b6 := hide (b5.out.kept hg6 (fun e => row_ne O5.out b5.out (by decide) e.symm))
            have B6 := hide (B5.out.grown hg6 B5.out.size (fun j e => (O5.out.lt j e).1))
            replace O6 := hide O6
            have hS6 : Hid (BSt q ws (i + 1) (M1 ++ sx) x.kind) := hide (by rw [← hsx]; exact hS2.out)
            obtain ⟨M6, hM6⟩ : ∃ M6, M1 ++ sx = M6 := ⟨_, rfl⟩
            rw [hM6] at O6 hS6
            obtain ⟨a6, c6, rfl⟩ := O6.out.slice
            clear hg6 O5 r5 b5 B5 q5 hce5 hM6
            by_cases hz : M6.length ≤ 60000
            · have hzi : ¬ (60000 : Int) < M6.length := by omega
              have hi1 : (i : Int) + 1 ≤ 9223372036854775807 := by omega
              go_wp2_with fail
              go_roundw
              case rel => exact ⟨i + 1, M6, x.kind, by omega, by go_num, hz, hS6, O6, hide (by rw [hrelK2.out]; exact r6.out), b6, B6⟩
              case measure => simp [intOf]; omega
            · have hzi : (60000 : Int) < M6.length := by omega
              go_wp2_with fail
              go_ret
              exact ⟨rfl, B6.out⟩
      · have hii : ¬ (i : Int) < ws.length := by omega
        obtain rfl : i = ws.length := by omega
        have hfull : Hid (bld q 4 0 ws = M) := hide (by rw [hS.out.full, List.drop_length]; simp [bld])
        have hcut : Hid (cutR (ba M) = .ok (bls q 4 0 0 ws)) := hide (by
          have := hsame.out (by rw [hfull.out]; omega)
          rw [hfull.out] at this; exact this)
        have HC2 := hide (cut8 (ba M) wr (hL.out.keep hB.out) (by rw [ba_size]; unfold maxLen; omega))
        rw [hcut.out] at HC2
        have hcv := hO.out.conv
        have hrw : Hid (RowW wr w1.heap.size (.slice av ws.length cv) (bls q 4 0 0 ws)) := hide (by rw [← mix_all hnl.out]; exact hrow.out)
        obtain ⟨ws2, hws2⟩ : ∃ x, bls q 4 0 0 ws = x := ⟨_, rfl⟩
        rw [hws2] at HC2 hrw hnl
        rw [← hnl.out] at hrw hlen hii
        rw [← hnl.out]
        clear hcut hsame hS hfull hrow
        go_wp2_with fail
        refine HC2.out.mono ?_
        rintro e w4 ⟨hb4, v4, rfl, hrow4⟩
        have hB4 := hide (next hB.out hb4)
        obtain ⟨a4, c4, rfl, hW4⟩ := row_words hrow4 (by omega)
        obtain ⟨a5, c5, e5, hW5⟩ := row_words (row_keep hrw.out hb4) (by omega)
        cases e5
        have HE := hide (eq_same c4 cv hW4 hW5)
        clear hb4 hrow4 hW4 hW5 HC2
        go_wp2_with fail
        refine HE.out.mono ?_
        rintro e w5 ⟨rfl, hb5⟩
        go_wp2_with fail
        go_ret
        exact ⟨rfl, next hB4.out hb5⟩
end Go.Proofs.YtljdkmfigcclkaaDoor
