/- What the document's listed answers. Proved of the Go text. -/
import Derived.Test.YtcabgnikbgoikaaDoorRf8d
namespace Go.Proofs.YtcabgnikbgoikaaDoor
open Go.RowKit Go.Sort
set_option linter.unusedVariables false

/-- The longest of some texts that begins a text, the first of those. -/
def bestF (l : List UInt8) (b : List UInt8) (P : List (List UInt8)) : List UInt8 := P.foldl (fun b p => if Lib.hasPrefix l p = true ∧ b.length < p.length then p else b) b
def lTok (kind : Nat) (b : List UInt8) : Tok := if b = [] then .bad 21 else .ok kind b b.length
theorem best_snoc (l b : List UInt8) (P : List (List UInt8)) (p : List UInt8) : bestF l b (P ++ [p]) = if Lib.hasPrefix l p = true ∧ (bestF l b P).length < p.length then p else bestF l b P := by unfold bestF; rw [List.foldl_append]; rfl
theorem pre_iff (s : ByteArray) (i : Nat) (p : List UInt8) (hi : i ≤ s.size) : Lib.hasPrefix (s.data.toList.drop i) p = true ↔ i + p.length ≤ s.size ∧ slc s.data.toList i (i + p.length) = p := by
  have hL := Lib.size_eq s
  constructor
  · intro h
    have h1 := pre_len h
    rw [List.length_drop, ← hL] at h1
    refine ⟨by omega, ?_⟩
    unfold slc
    rw [Nat.add_sub_cancel_left]; exact pre_take h
  · rintro ⟨h1, h2⟩
    unfold slc at h2
    rw [Nat.add_sub_cancel_left] at h2
    unfold Lib.hasPrefix
    rw [List.isPrefixOf_iff_prefix, List.prefix_iff_eq_take]
    exact h2.symm
/-- The cells of such an answer. -/
def kOf (kind : Nat) (b : List UInt8) : Int := if b = [] then 0 else kind
def nOf (i : Nat) (b : List UInt8) : Int := if b = [] then 0 else ((i + b.length : Nat) : Int)
def eOf (b : List UInt8) : Int := if b = [] then 21 else 0
theorem lTok_got (i kind : Nat) (b : List UInt8) : gotOf i (lTok kind b) = gotV (kOf kind b) (ba b) 0 (nOf i b) (eOf b) := by
  unfold lTok kOf nOf eOf
  by_cases h : b = []
  · subst h; rfl
  · rw [if_neg h, if_neg h, if_neg h, if_neg h]; rfl
theorem wrap_sm (x : Int) (h0 : 0 ≤ x) (h1 : x ≤ 1000000) : IntKind.i64.wrap x = x := by unfold IntKind.wrap; simp [IntKind.signed, IntKind.bits]; omega
theorem bdn {B : Nat} {a w : World} (h : Below B a w) (n : Nat) : Below B a (w.drewN n) := ⟨h.os, h.tape, h.output, h.size, h.block⟩
theorem grown_put5 (w : World) (b : Nat) (k : Int) (t : ByteArray) (i n e : Int) : w.grownBy (put5 w b k t i n e) (some b) := grown_trans (grown_trans (grown_trans (grown_trans (grown_set _ _ _ _) (grown_set _ _ _ _)) (grown_set _ _ _ _)) (grown_set _ _ _ _)) (grown_set _ _ _ _)
theorem cells_dn {w : World} {a : Addr} {v : Value} (h : w.cell? a = some v) (n : Nat) : (w.drewN n).cell? a = some v := h
theorem blk_dn {w : World} {B : Nat} {vs : Array Value} {t : TypeId} (h : Blk w B vs t) (n : Nat) : Blk (w.drewN n) B vs t := h
set_option maxRecDepth 100000 in
set_option maxHeartbeats 4000000 in
theorem rlisted8 (s : ByteArray) (i kind g : Nat) (P : List (List UInt8)) (w : World) (hs : s.size ≤ 65535) (hi : i < s.size) (hP : P.length ≤ 30) (hp : ∀ p ∈ P, 1 ≤ p.length ∧ p.length ≤ 7) (hg : g < w.heap.size)
    (hc : ∀ j (h : j < P.length), w.cell? ⟨g, j, none⟩ = some (.string (ba P[j]))) (hk : kind ≤ 7) :
    Calls Tryd.prog 18 #[.string s, .int .i64 i, .slice (some ⟨g, 0, none⟩) P.length P.length, .int .i64 kind] w fun e w' => e = .returned (gotOf i (lTok kind (bestF (s.data.toList.drop i) [] P))) ∧ Below w.heap.size w w' := by
  have hs' : s.size ≤ 9223372036854775807 := by omega
  have B1 := hide (step (step (Below.refl w.heap.size w) (gotO 0 no 0 0 0)) (gotO 0 no 0 0 21))
  have bk1 := hide ((Blk.new w (cells5 0 no 0 0 0) 37).alloc (gotO 0 no 0 0 21))
  have gk1 := hide (Blk.new (w.alloc (gotO 0 no 0 0 0)) (cells5 0 no 0 0 21) 37)
  simp only [World.size_alloc] at gk1
  obtain ⟨w1, hw1⟩ : ∃ w1, (w.alloc (gotO 0 no 0 0 0)).alloc (gotO 0 no 0 0 21) = w1 := ⟨_, rfl⟩
  rw [hw1] at B1 bk1 gk1
  replace hc := hide hc
  replace hp := hide hp
  go_enter Tryd.func18, Tryd.ntmps18
  go_wp2_with fail
  go_loopw [10] (fun a wr => ∃ (k : Nat) (b : List UInt8), k ≤ P.length ∧ a = .int .i64 k ∧ b.length ≤ 7 ∧ Hid (b = bestF (s.data.toList.drop i) [] (P.take k)) ∧ Hid (Blk wr w.heap.size (cells5 0 no 0 0 0) 37) ∧ Hid (Blk wr (w.heap.size + 1) (cells5 (kOf kind b) (ba b) 0 (nOf i b) (eOf b)) 37) ∧ Hid (Below w.heap.size w wr)) (fun a _ => P.length - (intOf a).toNat)
  case atStart => exact ⟨0, [], Nat.zero_le _, rfl, Nat.zero_le _, hide rfl, bk1, gk1, B1⟩
  case round =>
    obtain ⟨k, b, hkP, rfl, hbl, hb, hbk, hgk, hB⟩ := hrel
    obtain ⟨c0, c1, c2, c3, c4⟩ := hgk.out.cells5'
    have cf := hgk.out.fr
    by_cases hlt : k < P.length
    · have hki : (k : Int) < P.length := by omega
      have hcell := keep1 hB.out (hc.out k hlt)
      have hp1 := hp.out P[k] (List.getElem_mem hlt)
      have hst := hide (best_snoc (s.data.toList.drop i) [] (P.take k) P[k])
      rw [← List.take_succ_eq_append_getElem hlt, ← hb.out] at hst
      have hpi := hide (pre_iff s i P[k] (by omega))
      generalize P[k] = p at *
      have hpz : (ba p).size = p.length := ba_size p
      have hbz : (ba b).size = b.length := ba_size b
      have a1 : (i : Int) + p.length ≤ 9223372036854775807 := by omega
      have hwr : IntKind.i64.wrap ((i : Int) + p.length) = ((i + p.length : Nat) : Int) := by rw [wrap_sm _ (by omega) (by omega)]; omega
      have q1 := cell_regrown hcell
      have q2 := cell_regrown c1
      by_cases h1 : i + p.length ≤ s.size
      · have h1' : (i : Int) + p.length ≤ s.size := by omega
        have h0' : (i : Int) ≤ (i : Int) + p.length := by omega
        have h1n : decide ((i : Int) + (p.length : Int) ≤ (s.size : Int)) = true := by rw [decide_eq_true_eq]; omega
        obtain ⟨t, ht⟩ : ∃ t, s.extract i (i + p.length) = t := ⟨_, rfl⟩
        have hnt : Hid (((i : Int) + (p.length : Int)).toNat = i + p.length) := hide (by omega)
        have htb : Hid (t.toList = slc s.data.toList i (i + p.length)) := hide (by rw [← ht, ba_ext s i _ h1, ByteArray.toList_eq, ba_list])
        cases h2 : (t.toList == p)
        · have h3 : (t.toList == (ba p).toList) = false := by rw [ByteArray.toList_eq (ba p), ba_list]; exact h2
          have hn : Hid (b = bestF (s.data.toList.drop i) [] (P.take (k + 1))) := hide (by
            rw [hst.out, if_neg (fun h => by
              have := (hpi.out.1 h.1).2
              rw [← htb.out] at this
              rw [this] at h2
              simp at h2)])
          go_wp2_with fail
          go_quiet (fail)
          go_wp2_with fail
          go_roundw
          case rel => exact ⟨k + 1, b, by omega, by go_num, hbl, hn, hbk, hgk, hide (bdn hB.out _)⟩
          case measure => simp [intOf]; omega
        · have h3 : (t.toList == (ba p).toList) = true := by rw [ByteArray.toList_eq (ba p), ba_list]; exact h2
          have hpre : Hid (Lib.hasPrefix (s.data.toList.drop i) p = true) := hide (hpi.out.2 ⟨h1, by rw [← htb.out]; simpa using h2⟩)
          by_cases h4 : b.length < p.length
          · have h4i : decide ((b.length : Int) < (p.length : Int)) = true := by rw [decide_eq_true_eq]; omega
            have h4n : decide (b.length < p.length) = true := by rw [decide_eq_true_eq]; omega
            have hn : Hid (p = bestF (s.data.toList.drop i) [] (P.take (k + 1))) := hide (by rw [hst.out, if_pos ⟨hpre.out, h4⟩])
            have hpn : p ≠ [] := fun e => by rw [e] at hp1; simp at hp1
            have hK : Hid (kOf kind p = kind ∧ nOf i p = (i : Int) + p.length ∧ eOf p = 0) := hide (by unfold kOf nOf eOf; rw [if_neg hpn, if_neg hpn, if_neg hpn]; exact ⟨rfl, by omega, rfl⟩)
            have hp7 := hide hp1.2
            clear hpn hp1
            go_wp2_with fail
            go_quiet (fail)
            have x0 := fun n => cells_dn c0 n
            have x1 := fun n => cells_dn c1 n
            have x2 := fun n => cells_dn c2 n
            have x3 := fun n => cells_dn c3 n
            have x4 := fun n => cells_dn c4 n
            go_wp2_with fail
            go_roundw
            case rel =>
              refine ⟨k + 1, p, by omega, by go_num, hp7.out, hn, hide ?_, hide ?_, hide ?_⟩
              · exact (blk_dn hbk.out _).kept (grown_put5 _ _ _ _ _ _ _) (by simp)
              · rw [hK.out.1, hK.out.2.1, hK.out.2.2]; exact (blk_dn hgk.out _).put5 _ _ _ _ _
              · exact below_put5 (bdn hB.out _) (by omega) _ _ _ _ _
            case measure => simp [intOf]; omega
          · have h4i : decide ((b.length : Int) < (p.length : Int)) = false := by rw [decide_eq_false_iff_not]; omega
            have h4n : decide (b.length < p.length) = false := by rw [decide_eq_false_iff_not]; omega
            have hn : Hid (b = bestF (s.data.toList.drop i) [] (P.take (k + 1))) := hide (by rw [hst.out, if_neg (fun h => h4 h.2)])
            go_wp2_with fail
            go_quiet (fail)
            go_wp2_with fail
            go_roundw
            case rel => exact ⟨k + 1, b, by omega, by go_num, hbl, hn, hbk, hgk, hide (bdn hB.out _)⟩
            case measure => simp [intOf]; omega
      · have h1' : decide (((i + p.length : Nat) : Int) ≤ (s.size : Int)) = false := by rw [decide_eq_false_iff_not]; omega
        have h1n : decide ((i : Int) + (p.length : Int) ≤ (s.size : Int)) = false := by rw [decide_eq_false_iff_not]; omega
        have hn : Hid (b = bestF (s.data.toList.drop i) [] (P.take (k + 1))) := hide (by rw [hst.out, if_neg (fun h => h1 (hpi.out.1 h.1).1)])
        go_wp2_with fail
        go_quiet (fail)
        go_wp2_with fail
        go_roundw
        case rel => exact ⟨k + 1, b, by omega, by go_num, hbl, hn, hbk, hgk, hide (bdn hB.out _)⟩
        case measure => simp [intOf]; omega
    · obtain rfl : k = P.length := by omega
      have hki : ¬ (P.length : Int) < P.length := by omega
      obtain ⟨r0, r1, r2, r3, r4⟩ := hbk.out.cells5'
      have rf := hbk.out.fr
      have HN : Hid (gotOf i (lTok kind (bestF (s.data.toList.drop i) [] P)) = gotV (kOf kind b) (ba b) 0 (nOf i b) (eOf b)) := hide (by rw [← lTok_got, hb.out, List.take_length])
      generalize kOf kind b = K at *
      generalize nOf i b = NN at *
      generalize eOf b = E at *
      go_wp2_with fail
      obtain ⟨wz, hwz⟩ : ∃ wz, ((((wr.setCell ⟨w.heap.size, 0, none⟩ (.int .i64 K)).setCell ⟨w.heap.size, 1, none⟩ (.string (ba b))).setCell ⟨w.heap.size, 2, none⟩ (.int .i64 0)).setCell ⟨w.heap.size, 3, none⟩ (.int .i64 NN)).setCell ⟨w.heap.size, 4, none⟩ (.int .i64 E) = wz := ⟨_, rfl⟩
      have bkz : Blk wz w.heap.size (cells5 K (ba b) 0 NN E) 37 := by rw [← hwz]; exact hbk.out.put5 _ _ _ _ _
      have Bz : Below w.heap.size w wz := by rw [← hwz]; exact below_put5 hB.out (Nat.le_refl _) _ _ _ _ _
      rw [hwz]
      obtain ⟨d0, d1, d2, d3, d4⟩ := bkz.cells5'
      refine bodyPost_ret (by simp [results, Tryd.results18, go_sem, d0, d1, d2, d3, d4]; try rfl) rfl ?_
      exact ⟨by rw [HN.out], Bz⟩
end Go.Proofs.YtcabgnikbgoikaaDoor
