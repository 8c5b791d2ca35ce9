/- Package fold's Begin, and the law's run, where a given value may not be; COUNTA and COUNTBLANK run over any arguments. Proved of the Go text. -/
import Derived.Test.YtchphbclaapfhaaGreatDoorOrdM15
namespace Go.Proofs.YtchphbclaapfhaaGreatDoor
open Go.RowKit Go.Sort
open T9 (Blk Chg)
set_option linter.unusedVariables false

set_option maxHeartbeats 1000000 in
set_option maxRecDepth 100000 in
theorem may_bad (t l b r vk vi : Int) (vt : ByteArray) (hb : ¬ Good vk vi vt) : CallIs 22 #[agV ⟨false, t, l, b, r, ⟨vk, vi, vt⟩⟩] (.int .i64 24) := by
  intro w
  have HM := vmay_no hb
  clear hb
  go_enter Tryz.func22, Tryz.ntmps22
  go_wp2_with fail
  refine (HM.out _).mono ?_
  rintro e w1 ⟨rfl, hb1⟩
  go_wp2_with fail
  go_ret
  exact ⟨rfl, next (step (Below.refl _ _) _) hb1⟩
set_option maxHeartbeats 8000000 in
set_option maxRecDepth 100000 in
theorem begin_bad (fI : Int) (nm : ByteArray) (mn mx : Int) (HI : CallIs 20 #[.int .i64 fI] (.tuple #[.agg #[.string nm, .int .i64 6, .int .i64 mn, .int .i64 mx], .int .i64 0]))
    (xs : List Ag) (hx : 0 < xs.length) (hl : xs.length ≤ 1000) (hmn : mn ≤ (xs.length : Int)) (hmx : (xs.length : Int) ≤ mx ∨ mx = -1) (hok : ∀ a ∈ xs, AgOk a ∨ (a.is = false ∧ ¬ Good a.v.k a.v.i a.v.t)) (hbad : ∃ a ∈ xs, a.is = false ∧ ¬ Good a.v.k a.v.i a.v.t) (a : Option Addr) (cap : Nat) (w : World) (h : ArgsAt w (· < w.heap.size) a xs) :
    Calls Tryz.prog 15 #[.int .i64 fI, .slice a xs.length cap] w fun e w' => e = .returned (.tuple #[.pointer none, .int .i64 24]) ∧ Below w.heap.size w w' := by
  have HT := takes_yes nm 6 mn mx (xs.length : Int) hmn hmx
  obtain ⟨b, o, rfl, hb, hrow⟩ : ∃ b o, a = some ⟨b, o, none⟩ ∧ b < w.heap.size ∧ ∀ (j : Nat) (x : Ag), xs[j]? = some x → w.rangeAt b (o + j * 8) (agL x) := by
    rcases h with h | h
    · rw [h] at hx; cases hx
    · exact h
  obtain ⟨len, hlen⟩ : ∃ len, xs.length = len := ⟨_, rfl⟩
  rw [hlen] at hl HT ⊢
  replace hrow := hide hrow
  replace h := hide h
  replace hok := hide hok
  replace hbad := hide hbad
  replace hb := hide hb
  replace hlen := hide hlen
  replace hx := hide hx
  clear hmn hmx
  go_enter Tryz.func15, Tryz.ntmps15
  go_wp2_with fail
  refine (HI.out _).mono ?_
  rintro e w1 ⟨rfl, hb1⟩
  have K1 := hide (step hb1 (.cells #[.string nm, .int .i64 6, .int .i64 mn, .int .i64 mx] 61))
  go_wp2_with fail
  refine (HT.out _).mono ?_
  rintro e w2 ⟨rfl, hb2⟩
  have K2 := hide (next K1.out hb2)
  clear HI HT hb1 hb2 K1
  go_wp2_with fail
  go_loopw [32] (fun v wr => ∃ j : Nat, j ≤ len ∧ v = .int .i64 (j : Int) ∧ Hid (∀ i x, i < j → xs[i]? = some x → AgOk x) ∧ Hid (Below w.heap.size w wr)) (fun v _ => len - (intOf v).toNat)
  case atStart => exact ⟨0, Nat.zero_le _, rfl, hide (fun i x h => absurd h (Nat.not_lt_zero _)), K2⟩
  case round =>
    obtain ⟨j, hj, rfl, hpast, KR⟩ := hrel
    by_cases hlt : j < len
    · have p0 : (j : Int) < (len : Int) := by omega
      have hj' : j < xs.length := by have := hlen.out; omega
      have hA := T9.range_of_block (hrow.out j _ (List.getElem?_eq_getElem hj')) (KR.out.block b hb.out)
      have okc := hide (hok.out _ (List.getElem_mem hj'))
      have hpn : Hid (AgOk xs[j] → ∀ i x, i < j + 1 → xs[i]? = some x → AgOk x) := hide (fun h i x hi hx => by
        rcases Nat.lt_or_ge i j with h1 | h1
        · exact hpast.out i x h1 hx
        · obtain rfl : i = j := by omega
          rw [List.getElem?_eq_getElem hj'] at hx
          cases hx
          exact h)
      generalize xs[j] = ag at *
      obtain ⟨is, t, l, bb, r0, ⟨vk, vi, vt⟩⟩ := ag
      have a0 : wr.cell? ⟨b, o + j * 8, none⟩ = some (.bool is) := hA 0 _ rfl
      have a1 : wr.cell? ⟨b, o + j * 8 + 1, none⟩ = some (.int .i64 t) := hA 1 _ rfl
      have a2 : wr.cell? ⟨b, o + j * 8 + 2, none⟩ = some (.int .i64 l) := hA 2 _ rfl
      have a3 : wr.cell? ⟨b, o + j * 8 + 3, none⟩ = some (.int .i64 bb) := hA 3 _ rfl
      have a4 : wr.cell? ⟨b, o + j * 8 + 4, none⟩ = some (.int .i64 r0) := hA 4 _ rfl
      have a5 : wr.cell? ⟨b, o + j * 8 + 5, none⟩ = some (.int .i64 vk) := hA 5 _ rfl
      have a6 : wr.cell? ⟨b, o + j * 8 + 6, none⟩ = some (.int .i64 vi) := hA 6 _ rfl
      have a7 : wr.cell? ⟨b, o + j * 8 + 7, none⟩ = some (.string vt) := hA 7 _ rfl
      clear hA hj'
      rcases okc.out with okg | ⟨okn, okb⟩
      · have HMY := may_yes _ okg
        go_wp2_with fail
        refine (HMY.out _).mono ?_
        rintro e w3 ⟨rfl, hb3⟩
        have K3 := hide (next (step KR.out _) hb3)
        clear hb3 a0 a1 a2 a3 a4 a5 a6 a7
        go_wp2_with fail
        refine ⟨⟨j + 1, hlt, rfl, hide (hpn.out okg), K3⟩, ?_⟩
        have h1 : (intOf (.int .i64 ((j : Int) + 1))).toNat = j + 1 := rfl
        have h2 : (intOf (.int .i64 (j : Int))).toNat = j := rfl
        rw [h1, h2]
        omega
      · simp only at okn okb
        subst okn
        have HMN := may_bad t l bb r0 vk vi vt okb
        clear okb
        go_wp2_with fail
        refine (HMN.out _).mono ?_
        rintro e w3 ⟨rfl, hb3⟩
        have K3 := hide (next (step KR.out _) hb3)
        clear hb3 a0 a1 a2 a3 a4 a5 a6 a7
        go_wp2_with fail
        go_ret2
        exact ⟨rfl, K3.out⟩
    · exfalso
      obtain rfl : j = len := by omega
      obtain ⟨x, hxm, hx1, hx2⟩ := hbad.out
      obtain ⟨i, hi, rfl⟩ := List.getElem_of_mem hxm
      have := hpast.out i _ (by have := hlen.out; omega) (List.getElem?_eq_getElem hi)
      unfold AgOk at this
      rw [if_neg (by simp [hx1])] at this
      exact hx2 this.1
set_option maxHeartbeats 4000000 in
set_option maxRecDepth 100000 in
theorem run_bad (fI : Int) (a : Option Addr) (len cap : Nat) (s : Value) (w : World) (HB : Calls Tryz.prog 15 #[.int .i64 fI, .slice a len cap] (w.alloc (vO 0 0 no)) fun e w' => e = .returned (.tuple #[.pointer none, .int .i64 24]) ∧ Below (w.alloc (vO 0 0 no)).heap.size (w.alloc (vO 0 0 no)) w') : Calls Tryz.prog 11 #[.int .i64 fI, .slice a len cap, s] w fun e w' => e = .returned (.tuple #[vV 0 0 no, .slice none 0 0, .bool false]) ∧ Below w.heap.size w w' := by
  replace HB := hide HB
  go_enter Tryz.func11, Tryz.ntmps11
  go_wp2_with fail
  refine HB.out.mono ?_
  rintro e w1 ⟨rfl, hb1⟩
  have K1 := hide (next (step (Below.refl w.heap.size w) (vO 0 0 no)) hb1)
  have cr := hide ((O3.new w (.int .i64 0) (.int .i64 0) (.string no) 28).keep hb1)
  have u0 := cr.out.1.1
  have u1 := cr.out.1.2.1
  have u2 := cr.out.1.2.2
  have uf := cr.out.2
  have Bq := hide (below_put3 (b := w.heap.size) K1.out (Nat.le_refl _) (.int .i64 0) (.int .i64 0) (.string no))
  replace cr := hide (cr.out.put (.int .i64 0) (.int .i64 0) (.string no))
  obtain ⟨wq, hwq⟩ : ∃ wq, put3 w1 w.heap.size (.int .i64 0) (.int .i64 0) (.string no) = wq := ⟨_, rfl⟩
  rw [hwq] at Bq cr
  unfold put3 at hwq
  have v0 := cr.out.1.1
  have v1 := cr.out.1.2.1
  have v2 := cr.out.1.2.2
  clear hb1
  go_wp2_with fail
  refine bodyPost_ret (by simp [results, Tryz.results11, go_sem, v0, v1, v2]; try rfl) rfl ?_
  exact ⟨rfl, Bq.out⟩
end Go.Proofs.YtchphbclaapfhaaGreatDoor
