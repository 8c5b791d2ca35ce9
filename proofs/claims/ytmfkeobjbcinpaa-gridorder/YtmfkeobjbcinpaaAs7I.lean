/- asItLies of a table of things of type int: an iterator over the places that it is given, with what lies there now. Proved of the Go text. -/
import Derived.Test.YtmfkeobjbcinpaaAs7
import Derived.Test.YtmfkeobjbcinpaaIt7I
namespace Go.Proofs.Ytmfkeobjbcinpaa
open Go.RowKit Go.Shelf Go.Sort Go.Maps
set_option linter.unusedVariables false

theorem infoI : (Try.prog.info? 3).map (fun i => (i.zero, i.size, i.bytes)) = some (some (.int .i64 0), 1, 8) := by kernel_rfl
theorem thingsI_snoc (M : List (Sp × Int)) (k : Nat) (h : k < M.length) : thingsI (M.take (k + 1)) = thingsI (M.take k) ++ [.int .i64 M[k].2] := by
  unfold thingsI; rw [List.take_succ_eq_append_getElem h, List.map_append]; rfl
theorem lookI {w : World} {b : Nat} {L : Tb Value} {r c : Int} {y : Int} (h : Tab w b L) (hm : mayB r c = true) (hg : getT L (r, c) = some (.int .i64 y)) : (Instr.lookup 88 (.map (some b)) (spotV r c) false).run Try.prog w = .ok (.int .i64 y) w := by
  have := Tab.look false Try.underlying88 (zeroI w) h (may_wf hm).1 (may_wf hm).2
  rw [hg] at this
  exact this
set_option maxRecDepth 100000 in
set_option maxHeartbeats 4000000 in
theorem asItI_any {w : World} {Bt b : Nat} {Lr : Tb Value} (h : TabAt w 90 Bt b Lr) (M : List (Sp × Int)) (hM : ∀ p ∈ M, mayB p.1.1 p.1.2 = true ∧ getT Lr p.1 = some (.int .i64 p.2)) (hl : M.length ≤ 65536) {a : Option Addr} {cap : Nat} {bs0 : List Nat}
    (hp : SpotsIn w bs0 a (keysT M)) (hbs : ∀ k ∈ bs0, k < w.heap.size) :
    Calls Try.prog 47 #[.pointer (some ⟨Bt, 0, none⟩), .slice a M.length cap] w fun e w' => ∃ v bs, e = .returned v ∧ ItAt w' 66 29 v (M.map valI) bs ∧ Below w.heap.size w w' ∧ (∀ k ∈ bs, w.heap.size ≤ k ∨ k ∈ bs0) := by
  obtain ⟨i0, hi, hz0, hz1, hz2⟩ := info_parts infoI
  have T1 := hide (h.alloc (.cells #[.slice a M.length cap] 28))
  have P1 := hide (Blk.new w #[.slice a M.length cap] 28)
  have B1 := hide (step (Below.refl w.heap.size w) (.cells #[.slice a M.length cap] 28))
  replace hp := hide hp
  replace hbs := hide hbs
  replace hM := hide hM
  have hlt := hide h.lt
  clear h
  have hlen : (M.length : Int) ≤ 65536 := by omega
  go_enter Try.func47, Try.ntmps47
  go_wp2_with (first
    | (at_make; refine wpList_make_own _ rfl _ _ 29 rfl w.heap.size 3 i0 (.int .i64 0) 1 Try.underlying29 hi hz0 hz1 _ _ _ M.length rfl rfl rfl (by rw [hz2]; omega) (by unfold maxLen; omega) (by simp) ?_; intro w1 hrow hg1; have p1 := fun o => ((P1.out.kept hg1 (by simp)).alloc o).c1; simp only [World.size_alloc] at hrow; replace hrow := hide hrow; replace hg1 := hide hg1)
    | go_in)
  clear p1
  have T2 := hide ((T1.out.kept hg1.out (by simp) (by simp)).alloc (.cells #[.slice (some ⟨w.heap.size + 1, 0, none⟩) 0 M.length] 29))
  have P2 := hide ((P1.out.kept hg1.out (by simp)).alloc (.cells #[.slice (some ⟨w.heap.size + 1, 0, none⟩) 0 M.length] 29))
  have Q2 := hide (Blk.new w1 #[.slice (some ⟨w.heap.size + 1, 0, none⟩) 0 M.length] 29)
  have B2 := hide (step (B1.out.grown hg1.out B1.out.size (fun k e => by cases e)) (.cells #[.slice (some ⟨w.heap.size + 1, 0, none⟩) 0 M.length] 29))
  have R2 := hide (hrow.out.alloc (.cells #[.slice (some ⟨w.heap.size + 1, 0, none⟩) 0 M.length] 29))
  have z1 : Hid (w.heap.size + 1 < w1.heap.size) := hide (hrow.out.lt _ rfl).2
  generalize hq : w1.heap.size = Bq at *
  generalize w1.alloc (.cells #[.slice (some ⟨w.heap.size + 1, 0, none⟩) 0 M.length] 29) = W2 at *
  clear T1 P1 B1 hrow hg1 hq
  go_loopw [13] (fun i wr => ∃ k : Nat, k ≤ M.length ∧ i = .int .i64 k ∧ Hid (Blk wr w.heap.size #[.slice a M.length cap] 28) ∧ Hid (∃ v, Blk wr Bq #[v] 29 ∧ wr.ownsRow w.heap.size 3 1 v k (thingsI (M.take k))) ∧ Hid (TabAt wr 90 Bt b Lr) ∧ Hid (Below w.heap.size w wr)) (fun i _ => M.length - (intOf i).toNat)
  case atStart => exact ⟨0, Nat.zero_le _, rfl, P2, hide ⟨_, Q2.out, R2.out⟩, T2, B2⟩
  case round =>
    clear P2 Q2 T2 B2 R2
    obtain ⟨k, hk, rfl, Pk, Qk, Tk, Bk⟩ := hrel
    by_cases hlk : k < M.length
    · have hki : (k : Int) < (M.length : Int) := by omega
      obtain ⟨g, rfl, mg, hc⟩ : ∃ g, a = some ⟨g, 0, none⟩ ∧ g ∈ bs0 ∧ ∀ j (h : j < (keysT M).length), SpotAt w g j (keysT M)[j] := by
        rcases hp.out with h | h
        · rw [keysT, List.map_eq_nil_iff] at h; subst h; simp at hlk
        · exact h
      have e1 := hc k (by simpa [keysT] using hlk)
      simp only [keysT, List.getElem_map] at e1
      have hS := hide (thingsI_snoc M k hlk)
      have hx := hM.out _ (List.getElem_mem hlk)
      obtain ⟨⟨⟨r, c⟩, y⟩, hMk⟩ : ∃ p, M[k] = p := ⟨_, rfl⟩
      simp only [hMk] at e1 hS hx
      obtain ⟨x0, x1⟩ := e1.keep Bk.out
      obtain ⟨v, qk, rk⟩ := Qk.out
      obtain ⟨av, cv, rfl⟩ := row_slice rk
      have hne : Hid ((Value.slice av k cv).ownBlock ≠ some Bq) := hide (row_ne rk qk (by decide))
      have q0 := (qk.alloc (spotO r c)).c1
      have q1 := fun o => ((qk.alloc (spotO r c)).alloc o).c1
      have t0 := (Tk.out.1.alloc (spotO r c)).c1
      have t1 := fun o => ((Tk.out.1.alloc (spotO r c)).alloc o).c1
      have l0 := lookI (w := (wr.alloc (spotO r c)).drew) (Tk.out.2.alloc (spotO r c)).drew hx.1 hx.2
      have R0 := row_drew ((rk.alloc (spotO r c)).alloc (.cells #[.int .i64 y] 3))
      have Bb := Bk.out.size
      replace rk := hide rk
      replace qk := hide qk
      clear e1 hc hMk hx
      go_wp2_with fail
      go_region_law (refine step_appT rfl (.tmp 17) (.tmp 24) 29 rfl w.heap.size 3 i0 (.int .i64 0) 8 Try.underlying29 hi hz0 hz1 hz2 rfl _ _ _ rfl R0 (wr.heap.size + 1) (.int .i64 y) (by simp [Act.eval]) (by go_simp) rfl (by unfold maxLen; omega) (by omega) (by simp; omega) ?_; intro v' w3 hrow3 hg3; obtain ⟨a3, c3, rfl⟩ := row_slice hrow3; have b3 := (blk_drew ((qk.out.alloc (spotO r c)).alloc (.cells #[.int .i64 y] 3))).kept hg3 (fun e => hne.out e.symm); have u3 := b3.c1; have f3 := b3.fr 0; replace hrow3 := hide hrow3; replace hg3 := hide hg3)
      all_goals (
        have hne3 : (Value.slice a3 (k + 1) c3).ownBlock ≠ some Bq := row_ne hrow3.out b3 (by decide)
        have G : Hid (wr.grownBy w3 (Value.slice av k cv).ownBlock) := hide (grown_drew (World.grownBy.trans (World.grownBy_alloc _ _ _) (World.grownBy.trans (World.grownBy_alloc _ _ _) hg3.out)))
        have lt := hlt.out
        have zz := z1.out
        have nb : ∀ j, j < w.heap.size → some j ≠ (Value.slice av k cv).ownBlock := fun j hj e => by have := (rk.out.lt j e.symm).1; omega
        have P3 := hide ((Pk.out.kept G.out (fun e => row_ne rk.out Pk.out (by decide) e.symm)).other (B' := Bq) (by omega) (.slice a3 (k + 1) c3))
        have T3 := hide ((Tk.out.kept G.out (nb _ lt.1) (nb _ lt.2)).kept (grownBy_setCell' w3 Bq (.slice a3 (k + 1) c3)) (by simp; omega) (by simp; omega))
        have B3 := hide ((Bk.out.grown G.out Bk.out.size (fun j e => (rk.out.lt j e).1)).setCell (p := ⟨Bq, 0, none⟩) (show w.heap.size ≤ Bq by omega) (.slice a3 (k + 1) c3))
        have R3 := hide (hrow3.out.kept (grownBy_setCell' w3 Bq (.slice a3 (k + 1) c3)) (.inr hne3))
        have Q3 := hide (b3.set (.slice a3 (k + 1) c3))
        rw [← hS.out] at R3
        clear hne3 G lt zz nb u3 f3 b3 hrow3 hg3 R0 l0 t0 t1 q0 q1 x0 x1
        go_wp2_with fail
        go_roundw
        case rel => exact ⟨k + 1, hlk, by go_num, P3, hide ⟨_, Q3.out, R3.out⟩, T3, B3⟩
        case measure => simp [intOf]; omega)
    · have hki : ¬ (k : Int) < (M.length : Int) := by omega
      obtain rfl : k = M.length := by omega
      obtain ⟨v, qk, rk⟩ := Qk.out
      rw [List.take_length] at rk
      go_wp2_with fail
      go_ret
      have zz := z1.out
      obtain ⟨bs, hi, hb⟩ := it_made (f := 66) (M := M.map valI) (B := w.heap.size) (Nat.le_refl _) (show w.heap.size ≤ Bq by omega) (by rw [List.length_map]; exact Pk.out) qk (by rw [List.length_map, vals_valI]; exact rk) (by rw [keys_valI]; exact hp.out.keep Bk.out) (fun k hk => Nat.lt_of_lt_of_le (hbs.out k hk) Bk.out.size)
      exact ⟨_, rfl, bs, hi, Bk.out, hb⟩
end Go.Proofs.Ytmfkeobjbcinpaa
