/- Package fold's sorting: what is told at the end. Proved of the Go text. -/
import Derived.Test.YtchphbclaapfhaaGreatDoorSrb15
namespace Go.Proofs.YtchphbclaapfhaaGreatDoor
open Go.RowKit Go.Sort
open T9 (Blk Chg)
set_option linter.unusedVariables false

def srt (L : List Int) : List Int := L.mergeSort fun x y => decide (x ≤ y)
theorem srt_len (L : List Int) : (srt L).length = L.length := List.length_mergeSort _
theorem srt_mem {L : List Int} {x : Int} : x ∈ srt L ↔ x ∈ L := List.mem_mergeSort
theorem sort_row {L : List Int} {v : Value} {w : World} (h : RowI w v L) (hl : L.length < 4611686018427387904) : Calls Tryz.prog 128 #[v] w fun e w' => e = .returned (.tuple #[]) ∧ RowI w' v (srt L) ∧ w.grownBy w' v.ownBlock := by
  rcases h.2 with ⟨rfl, h2⟩ | ⟨g, cap, cur, rfl, hg, hb, hn, hcap, hsz, htk⟩
  · have e : L = [] := List.eq_nil_of_length_eq_zero h2
    subst e
    refine (Tryz.sort_int_none none 0 w).mono ?_
    rintro e w' ⟨rfl, rfl⟩
    exact ⟨rfl, by rw [show srt [] = [] from by simp [srt]]; exact h, rfl, rfl, rfl, Nat.le_refl _, fun k _ _ => rfl⟩
  · have hlt : g < w.heap.size := (Array.getElem?_eq_some_iff.1 hb).1
    refine (Tryz.sort_int g 0 cap L w (holds_of_blockI hb (by simpa using htk)) hlt hl).mono ?_
    rintro e w' ⟨rfl, n, os, rfl⟩
    have q := ownsRow_sortedI (n := n) (os := os) (ts := srt L) (srt_len L) (Nat.zero_le g) hb hn hcap hsz
    exact ⟨rfl, by unfold RowI; rw [srt_len]; exact q, grownBy_sortedI _⟩
/-- What is told of a list of one's own. -/
structure TellIs (TW : World → Prop) (tell : List Int → Va) (n : Nat) (caps : Array Value) : Prop where
  call : ∀ L v w, TW w → RowI w v L → L.length < 4611686018427387904 → (∀ y ∈ L, -9223372036854775808 ≤ y ∧ y ≤ 9223372036854775807) → Calls Tryz.prog n (#[v] ++ caps) w fun e w' => e = .returned (tell L).v ∧ Below w.heap.size w w'
  ent : ∀ args w, (callFunc n args).run Tryz.prog w = .ok (.enter n args) w
theorem grown_chg {w w' : World} {ob : Option Nat} {m : Nat → Prop} (h : w.grownBy w' ob) (hm : ∀ k, ob = some k → m k) : Chg m w w' := ⟨h.os, h.tape, h.output, h.size, fun k hk hn => h.block k hk (fun e => hn (hm k e.symm))⟩
theorem blk_o3 {w : World} {X : Nat} {a b c : Value} {t : TypeId} (h : Blk w X #[a, b, c] t) : O3 w X a b c := ⟨⟨h.at' 0, h.at' 1, h.at' 2⟩, h.fr⟩
theorem chg_put3 (w : World) (X : Nat) (a b c : Value) : Chg (· = X) w (put3 w X a b c) := (((Chg.refl (· = X) w).set X 0 a rfl).set X 1 b rfl).set X 2 c rfl
set_option maxHeartbeats 4000000 in
set_option maxRecDepth 100000 in
theorem srt_ends (mt : Nat → Prop) (TW : World → Prop) (nT : Nat) (cT : Array Value) (Bt Ba Bk Bl : Nat) (hk : KeepK mt TW) (tell : List Int → Va) (HT : TellIs TW tell nT cT) : Ends (SrtS mt TW nT cT Bt Ba Bk Bl) (fun L => tell (srt L)) 127 #[.pointer (some ⟨Ba, 0, none⟩), .pointer (some ⟨Bt, 0, none⟩)] := by
  refine ⟨?_, ent_of Tryz.func127 (by kernel_rfl) (by kernel_rfl)⟩
  intro L m w hs
  obtain ⟨v, h1, h2, h3, h4, h5, h6, h7, h8, h9, h10, h11⟩ := hs
  have hent := HT.ent
  have hv := h5.shapeN
  obtain ⟨av, nv, cv, rfl, hnv⟩ := hv
  clear hnv
  have K1 := hide (step (Below.refl w.heap.size w) (vO 0 0 no))
  have X1 : Hid (Blk (w.alloc (vO 0 0 no)) w.heap.size #[.int .i64 0, .int .i64 0, .string no] 28) := hide (Blk.new w _ _)
  have A1 := hide (h1.alloc (vO 0 0 no))
  have T1 := hide (h2.alloc (vO 0 0 no))
  have a1 : (w.alloc (vO 0 0 no)).cell? ⟨Ba, 0, none⟩ = some (.slice av nv cv) := A1.out.at' 0
  have hsort := hide (sort_row (h5.keep K1.out) h10)
  have lown : Hid (∀ k, (Value.slice av nv cv).ownBlock = some k → k < w.heap.size) := hide (fun k hk' => (owns_lt h5 k hk').2)
  have TW1 : Hid (TW (w.alloc (vO 0 0 no))) := hide (hk.same h6 (fun k h => K1.out.block k (hk.lt h6 k h)))
  have hbl : Hid ((srt L).length < 4611686018427387904) := hide (by rw [srt_len]; exact h10)
  have hbd : Hid (∀ y ∈ srt L, -9223372036854775808 ≤ y ∧ y ≤ 9223372036854775807) := hide (fun y hy => h11 y (srt_mem.1 hy))
  have hm7 := hide h7
  have hlt := hide (hk.lt h6)
  replace h9 := hide h9
  clear h1 h2 h3 h4 h5 h6 h7 h8 h10 h11
  have hcall := hide HT.call
  clear HT
  generalize hts : tell (srt L) = y
  replace hts := hide hts
  obtain ⟨yk, yi, yt⟩ := y
  go_enter Tryz.func127, Tryz.ntmps127
  go_wp2_with fail
  refine hsort.out.mono ?_
  rintro e w2 ⟨rfl, g1, g2⟩
  have G1 := hide g1
  have G2 := hide g2
  clear g1 g2
  have A2 := hide (grown_blk G2.out A1.out (fun e => (h9.out _ e.symm).1 rfl))
  have T2 := hide (grown_blk G2.out T1.out (fun e => (h9.out _ e.symm).2.1 rfl))
  have X2 := hide (grown_blk G2.out X1.out (fun e => by have := lown.out _ e.symm; omega))
  have a2 : w2.cell? ⟨Ba, 0, none⟩ = some (.slice av nv cv) := A2.out.at' 0
  have b2 : w2.cell? ⟨Bt, 0, none⟩ = some (.func (.func nT) #[] cT) := T2.out.at' 0
  have TW2 : Hid (TW w2) := hide (hk.same TW1.out (fun k h => G2.out.block k (hk.lt TW1.out k h) (fun e => (h9.out _ e.symm).2.2.2.2 h)))
  have HC := hide (hcall.out _ _ w2 TW2.out G1.out hbl.out hbd.out)
  rw [hts.out] at HC
  go_wp2_with fail
  refine HC.out.mono ?_
  rintro e w3 ⟨rfl, hb3⟩
  have cr := hide (blk_o3 (X2.out.keep hb3))
  have u0 := cr.out.1.1
  have u1 := cr.out.1.2.1
  have u2 := cr.out.1.2.2
  have uf := cr.out.2
  have C3 := hide (chg_put3 w3 w.heap.size (.int .i64 yk) (.int .i64 yi) (.string yt))
  replace cr := hide (cr.out.put (.int .i64 yk) (.int .i64 yi) (.string yt))
  obtain ⟨wq, hwq⟩ : ∃ wq, put3 w3 w.heap.size (.int .i64 yk) (.int .i64 yi) (.string yt) = wq := ⟨_, rfl⟩
  rw [hwq] at C3 cr
  unfold put3 at hwq
  have v0 := cr.out.1.1
  have v1 := cr.out.1.2.1
  have v2 := cr.out.1.2.2
  have B3 := hide hb3
  clear hb3 a1 a2 b2
  go_wp2_with fail
  refine bodyPost_ret (by simp [results, Tryz.results127, go_sem, v0, v1, v2]; try rfl) rfl ?_
  refine ⟨rfl, ?_⟩
  have c1 : Chg m w (w.alloc (vO 0 0 no)) := Chg.of_below K1.out
  have c2 : Chg m (w.alloc (vO 0 0 no)) w2 := grown_chg G2.out (fun k e => by rw [hm7.out]; exact .inr (.inr (.inr (.inr (.inr e)))))
  have c3 : Chg m w2 w3 := Chg.of_below B3.out
  have c123 := (c1.trans c2).trans c3
  exact ⟨C3.out.os.trans c123.os, C3.out.tape.trans c123.tape, C3.out.output.trans c123.output, Nat.le_trans c123.size C3.out.size, fun k hk' hn => (C3.out.block k (Nat.lt_of_lt_of_le hk' c123.size) (by omega)).trans (c123.block k hk' hn)⟩
end Go.Proofs.YtchphbclaapfhaaGreatDoor
