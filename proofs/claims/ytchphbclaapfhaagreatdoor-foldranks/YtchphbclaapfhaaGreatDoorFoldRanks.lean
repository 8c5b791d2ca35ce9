/- FoldRanks: SMALL and LARGE of a k are numbers of the column of which just so many are less; MEDIAN lies between; MIN and MAX are the first and last ones. Proved of the Go text. -/
import Derived.Test.YtchphbclaapfhaaGreatDoorRkS15
namespace Go.Proofs.YtchphbclaapfhaaGreatDoor
open Go.RowKit Go.Sort
open T9 (Blk Chg)
set_option linter.unusedVariables false
set_option linter.unusedSimpArgs false

/-- What is left behind a statement that runs a fold. -/
def RnAt (s : Int) (wz wx : World) (Bv : Nat) : Prop := Blk wx Bv #[.int .i64 1, .int .i64 s, .string no] 28 ∧ Below wz.heap.size wz wx
theorem rn_a {s : Int} {wz w7 : World} (hb : Below wz.heap.size wz w7) : RnAt s wz (w7.alloc (.cells #[.int .i64 1, .int .i64 s, .string no] 28)) w7.heap.size := ⟨Blk.new _ _ _, step hb _⟩
theorem rn_b {s : Int} {wz w7 wx : World} {Bv : Nat} (hb : Below wz.heap.size wz w7) (hB : Blk wx Bv #[.int .i64 1, .int .i64 s, .string no] 28) (hc : Chg (· = Bv) w7 wx) (h1 : wz.heap.size ≤ Bv) : RnAt s wz wx Bv := ⟨hB, bel_chg hb h1 hc⟩
theorem below_set {wz w : World} {B i : Nat} {v : Value} (h : Below wz.heap.size wz w) (hB : wz.heap.size ≤ B) : Below wz.heap.size wz (w.setCell ⟨B, i, none⟩ v) := bel_chg h hB ((Chg.refl (· = B) w).set B i v rfl)
theorem cnt_snoc (f : Int → Bool) (ns : List Int) (j : Nat) (h : j < ns.length) : (ns.take (j + 1)).countP f = (ns.take j).countP f + (if f ns[j] = true then 1 else 0) := by
  rw [List.take_succ_eq_append_getElem h, List.countP_append, List.countP_singleton]
theorem cnt_take (f : Int → Bool) (ns : List Int) (j : Nat) : (ns.take j).countP f ≤ j := by
  have := List.countP_le_length (p := f) (l := ns.take j)
  rw [List.length_take] at this
  omega
theorem va_neq1 (i : Int) (w : World) : (binOp .neq 28 (vV 1 i no) (vV 1 i no)).run Tryz.prog w = .ok (.bool false) w := by go_simp
theorem argsB1 {W : World} {N : Nat} {x : Ag} (hb : Blk W N #[.bool x.is, .int .i64 x.t, .int .i64 x.l, .int .i64 x.b, .int .i64 x.r, .int .i64 x.v.k, .int .i64 x.v.i, .string x.v.t] 30) : ArgsAt W (· < W.heap.size) (some ⟨N, 0, none⟩) [x] := by
  refine .inr ⟨_, _, rfl, hb.lt, fun j u hu i v hv => ?_⟩
  rw [hb.at']
  match j, hu with
  | 0, hu =>
    obtain rfl : x = u := by simpa using hu
    match i, hv with
    | 0, hv | 1, hv | 2, hv | 3, hv | 4, hv | 5, hv | 6, hv | 7, hv => exact hv
    | i + 8, hv => simp at hv
set_option maxHeartbeats 16000000 in
set_option maxRecDepth 100000 in
theorem fr_walk (ns : List Int) (k : Nat) (hk : k < 256) (a : Option Addr) (cap len : Nat) (HC0 : ∀ w, IntsAt w a ns → Calls Tryz.prog 9 #[.slice a len cap] w fun e w' => ∃ v, e = .returned (.tuple #[.slice a ns.length cap, v, agV (agC (ns.length : Nat))]) ∧ RowV w' (w.heap.size + 1) v (ns.map nmV) ∧ Below w.heap.size w w') (h3 : ns.length ≤ 300) (hbd : ∀ y ∈ ns, -9223372036854775808 ≤ y ∧ y ≤ 9223372036854775807) (w : World) (h : IntsAt w a ns) : Calls Tryz.prog 4 #[.slice a len cap, .int .u8 (k : Int)] w fun e w' => e = .returned (.bool true) ∧ Below w.heap.size w w' := by
  obtain ⟨m, hm⟩ : ∃ m, ns.length = m := ⟨_, rfl⟩
  have R64 := hide (fun j h1 h2 => run_small j ns h1 h2 h3 hbd)
  have R63 := hide (fun j h1 h2 => run_large j ns h1 h2 h3 hbd)
  have R59 := hide (fun h1 => run_least ns h1 h3 hbd)
  have R60 := hide (fun h1 => run_greatest ns h1 h3 hbd)
  have R62 := hide (fun h1 => run_median ns h1 h3 hbd)
  have RK := hide (rank_is ns)
  have RS := hide (ranks_are ns)
  rw [hm] at h3 HC0 R64 R63 R59 R60 R62 RK RS
  have HC := hide HC0
  replace h := hide h
  replace hbd := hide hbd
  clear HC0
  go_enter Tryz.func4, Tryz.ntmps4
  go_wp2_with fail
  refine (begun15.out _).mono ?_
  rintro e w1 ⟨rfl, hb1⟩
  have K1 := hide (next (Below.refl w.heap.size w) hb1)
  have h1 := hide (h.out.keep hb1)
  clear hb1
  go_wp2_with fail
  refine (HC.out _ h1.out).mono ?_
  rintro e w2 ⟨v, rfl, hv, hb2⟩
  obtain ⟨av, nv, cv, rfl, hnv⟩ := hv.shapeN
  rw [List.length_map, hm] at hnv
  have hnv' := hnv.symm
  subst hnv'
  clear hnv
  have K2 := hide (step (next K1.out hb2) (agO (agC (m : Nat))))
  have h2 := hide ((h1.out.keep hb2).keep (step (Below.refl _ _) (agO (agC (m : Nat)))))
  have hvv := hide (hv.vals.keep (step (Below.refl _ _) (agO (agC (m : Nat)))))
  have AB := hide (Blk.new w2 #[.bool true, .int .i64 0, .int .i64 0, .int .i64 ((m : Int) - 1), .int .i64 0, .int .i64 0, .int .i64 0, .string no] 30)
  replace hm := hide hm
  clear hb2 hv h1 h
  by_cases h0 : m = 0
  · subst h0
    go_wp2_with fail
    go_ret
    exact ⟨rfl, K2.out⟩
  have p0 : ((m : Int) == 0) = false := by simp; omega
  have p1 : ¬ (m : Int) = 0 := by omega
  have m1 : (1 : Int) ≤ (m : Int) := by omega
  obtain ⟨r, hr⟩ : ∃ r, k % m = r := ⟨_, rfl⟩
  have hr1 : r < m := hr ▸ Nat.mod_lt _ (by omega)
  have hrem : ((k : Nat) : Int).tmod ((m : Nat) : Int) = (r : Int) := by rw [← hr]; rfl
  have r1 : (r : Int) < (m : Int) := by omega
  have m3 : (m : Int) ≤ 300 := by omega
  have k2 : (k : Int) < 256 := by omega
  have R59 := hide (R59.out (by omega))
  have R60 := hide (R60.out (by omega))
  have R62 := hide (R62.out (by omega))
  have R64 := hide (R64.out (r + 1) (by omega) (by omega))
  have R63 := hide (R63.out (m - r) (by omega) (by omega))
  have RK := hide (RK.out (r + 1) (by omega) (by omega))
  have RS := hide (RS.out (by omega))
  rw [Nat.add_sub_cancel] at R64 RK
  rw [show m - (m - r) = r from by omega] at R63
  obtain ⟨J, hJ⟩ : ∃ J : Int, (r : Int) + 1 = J := ⟨_, rfl⟩
  obtain ⟨Q, hQ⟩ : ∃ Q : Int, (m : Int) + 1 - J = Q := ⟨_, rfl⟩
  rw [show ((r + 1 : Nat) : Int) = J from by rw [← hJ]; simp] at R64
  rw [show ((m - r : Nat) : Int) = Q from by omega] at R63
  replace hr := hide hr
  obtain ⟨XA, hXA⟩ : ∃ XA, w2.heap.size = XA := ⟨_, rfl⟩
  have hJJ := hide hJ
  clear hJ
  go_upto_region 7 with fail
  rw [hXA] at AB
  try rw [hXA]
  clear hXA
  rw [hJJ.out]
  obtain ⟨wz, hwz⟩ : ∃ wz, w2.alloc (.cells #[.bool true, .int .i64 0, .int .i64 0, .int .i64 ((m : Int) - 1), .int .i64 0, .int .i64 0, .int .i64 0, .string no] 30) = wz := ⟨_, rfl⟩
  simp only [agO] at K2 h2 hvv
  rw [hwz] at K2 h2 hvv AB ⊢
  clear hwz
  have J1 : 1 ≤ J := by have := hJJ.out; omega
  have J2 : J ≤ (m : Int) := by have := hJJ.out; omega
  generalize (srt ns).getD r 0 = sv at *
  have s0 : wz.cell? ⟨XA, 0, none⟩ = some (.bool true) := AB.out.at' 0
  have s1 : wz.cell? ⟨XA, 1, none⟩ = some (.int .i64 0) := AB.out.at' 1
  have s2 : wz.cell? ⟨XA, 2, none⟩ = some (.int .i64 0) := AB.out.at' 2
  have s3 : wz.cell? ⟨XA, 3, none⟩ = some (.int .i64 ((m : Int) - 1)) := AB.out.at' 3
  have s4 : wz.cell? ⟨XA, 4, none⟩ = some (.int .i64 0) := AB.out.at' 4
  have s5 : wz.cell? ⟨XA, 5, none⟩ = some (.int .i64 0) := AB.out.at' 5
  have s6 : wz.cell? ⟨XA, 6, none⟩ = some (.int .i64 0) := AB.out.at' 6
  have s7 : wz.cell? ⟨XA, 7, none⟩ = some (.string no) := AB.out.at' 7
  have keyS : Hid (∀ w', Below wz.heap.size wz w' → (w'.cell? ⟨XA, 0, none⟩ = some (.bool true) ∧ w'.cell? ⟨XA, 1, none⟩ = some (.int .i64 0) ∧ w'.cell? ⟨XA, 2, none⟩ = some (.int .i64 0) ∧ w'.cell? ⟨XA, 3, none⟩ = some (.int .i64 ((m : Int) - 1)) ∧ w'.cell? ⟨XA, 4, none⟩ = some (.int .i64 0) ∧ w'.cell? ⟨XA, 5, none⟩ = some (.int .i64 0) ∧ w'.cell? ⟨XA, 6, none⟩ = some (.int .i64 0) ∧ w'.cell? ⟨XA, 7, none⟩ = some (.string no))) := hide (fun w' hb => ⟨keep1 hb s0, keep1 hb s1, keep1 hb s2, keep1 hb s3, keep1 hb s4, keep1 hb s5, keep1 hb s6, keep1 hb s7⟩)
  have HN3 := lnum_is J
  go_cut [8, 9, 10] from 45 to 55 (fun c1 c2 c3 wx => ∃ (Bv : Nat), c1 = .pointer (some ⟨Bv, 0, none⟩) ∧ c3 = .bool true ∧ Hid (RnAt sv wz wx Bv))
  case first =>
    go_region_held (fun w' => w'.cell? ⟨XA, 0, none⟩ = some (.bool true) ∧ w'.cell? ⟨XA, 1, none⟩ = some (.int .i64 0) ∧ w'.cell? ⟨XA, 2, none⟩ = some (.int .i64 0) ∧ w'.cell? ⟨XA, 3, none⟩ = some (.int .i64 ((m : Int) - 1)) ∧ w'.cell? ⟨XA, 4, none⟩ = some (.int .i64 0) ∧ w'.cell? ⟨XA, 5, none⟩ = some (.int .i64 0) ∧ w'.cell? ⟨XA, 6, none⟩ = some (.int .i64 0) ∧ w'.cell? ⟨XA, 7, none⟩ = some (.string no)) (first | (have hq := KR; refine keyS.out _ ?_; first | (with_reducible exact KR.out) | (with_reducible exact step KR.out _) | ((repeat (refine below_set ?_ (by first | exact Nat.le_refl _ | exact KN.out.size | exact Nat.le_succ_of_le KN.out.size | exact KR.out.size))); (with_reducible exact KR.out))) | (have hq := KN; refine keyS.out _ ?_; first | (with_reducible exact KN.out) | (with_reducible exact step KN.out _) | (with_reducible exact step (step KN.out _) _)) | go_keep) (first
      | (have hq := KN; (with_reducible refine (R64.out _ _ ?_ av cv ?_).mono ?_); (· exact argsB2 (x := agC (m : Nat)) (y := agN J) (by first | (with_reducible exact T9.Blk.new1 _ _ _ _) | (with_reducible exact (Blk.new _ _ _).alloc _) | (with_reducible exact Blk.new _ _ _))); (· exact hvv.out.keep (by first | (with_reducible exact step (step KN.out _) _) | (with_reducible exact step KN.out _))); rintro e w8 ⟨v8, rfl, hb8⟩; have KR : Hid (Below wz.heap.size wz w8) := hide (next (by first | (with_reducible exact step (step KN.out _) _) | (with_reducible exact step KN.out _)) hb8); (try (have Z2 : Hid (Blk w8 wz.heap.size #[.int .i64 0, .int .i64 0, .string no] 28) := hide (T9.Blk.keep (Z1.out.alloc _) hb8); have z0 : w8.cell? ⟨wz.heap.size, 0, none⟩ = some (.int .i64 0) := Z2.out.at' 0; have z1 : w8.cell? ⟨wz.heap.size, 1, none⟩ = some (.int .i64 0) := Z2.out.at' 1; have z2 : w8.cell? ⟨wz.heap.size, 2, none⟩ = some (.string no) := Z2.out.at' 2; have zf := Z2.out.fr)); (try (have Y2 : Hid (Blk w8 w7.heap.size #[.int .i64 0, .int .i64 0, .string no] 28) := hide (T9.Blk.keep ((Blk.new w7 #[.int .i64 0, .int .i64 0, .string no] 28).alloc _) hb8); have z0 : w8.cell? ⟨w7.heap.size, 0, none⟩ = some (.int .i64 0) := Y2.out.at' 0; have z1 : w8.cell? ⟨w7.heap.size, 1, none⟩ = some (.int .i64 0) := Y2.out.at' 1; have z2 : w8.cell? ⟨w7.heap.size, 2, none⟩ = some (.string no) := Y2.out.at' 2; have zf := Y2.out.fr)); (try (have V2 : Hid (Blk w8 (w7.heap.size + 1) #[.int .i64 0, .int .i64 0, .string no] 28) := hide (T9.Blk.keep (T9.Blk.new1 w7 _ #[.int .i64 0, .int .i64 0, .string no] 28) hb8); have z0 : w8.cell? ⟨(w7.heap.size + 1), 0, none⟩ = some (.int .i64 0) := V2.out.at' 0; have z1 : w8.cell? ⟨(w7.heap.size + 1), 1, none⟩ = some (.int .i64 0) := V2.out.at' 1; have z2 : w8.cell? ⟨(w7.heap.size + 1), 2, none⟩ = some (.string no) := V2.out.at' 2; have zf := V2.out.fr)); clear hb8)
      | ((with_reducible refine (HN3.out _).mono ?_); rintro e w7 ⟨rfl, hb7⟩; have KN : Hid (Below wz.heap.size wz w7) := hide (next (by first | (with_reducible exact (Below.refl _ _).drew) | (with_reducible exact (step (Below.refl _ _) _).drew)) hb7); (try (have Z1 : Hid (Blk w7 wz.heap.size #[.int .i64 0, .int .i64 0, .string no] 28) := hide (T9.Blk.keep (drewB (Blk.new wz #[.int .i64 0, .int .i64 0, .string no] 28)) hb7))); clear hb7))
    all_goals (go_wp2_with fail)
    all_goals go_meet
    all_goals (first
      | (have hq9 := V2; exact ⟨_, rfl, rfl, hide (rn_b KR.out (((V2.out.set 0 (.int .i64 1)).set 1 (.int .i64 sv)).set 2 (.string no)) ((((Chg.refl (· = w7.heap.size + 1) w8).set (w7.heap.size + 1) 0 (.int .i64 1) rfl).set (w7.heap.size + 1) 1 (.int .i64 sv) rfl).set (w7.heap.size + 1) 2 (.string no) rfl) (Nat.le_succ_of_le KN.out.size))⟩)
      | (have hq9 := Y2; exact ⟨_, rfl, rfl, hide (rn_b KR.out (((Y2.out.set 0 (.int .i64 1)).set 1 (.int .i64 sv)).set 2 (.string no)) ((((Chg.refl (· = w7.heap.size) w8).set (w7.heap.size) 0 (.int .i64 1) rfl).set (w7.heap.size) 1 (.int .i64 sv) rfl).set (w7.heap.size) 2 (.string no) rfl) KN.out.size)⟩)
      | (have hq9 := Z2; exact ⟨_, rfl, rfl, hide (rn_b KR.out (((Z2.out.set 0 (.int .i64 1)).set 1 (.int .i64 sv)).set 2 (.string no)) ((((Chg.refl (· = wz.heap.size) w8).set (wz.heap.size) 0 (.int .i64 1) rfl).set (wz.heap.size) 1 (.int .i64 sv) rfl).set (wz.heap.size) 2 (.string no) rfl) (Nat.le_refl _))⟩)
      | (exact ⟨_, rfl, rfl, hide (rn_a KR.out)⟩))
  case rest =>
    obtain ⟨Bs, rfl, rfl, hLk⟩ := hcut
    have hQ2 : Hid (IntKind.i64.wrap (IntKind.i64.wrap ((m : Int) + 1) - J) = Q) := hide (by rw [IntWalk.i64_in ((m : Int) + 1) ⟨by omega, by omega⟩, IntWalk.i64_in ((m : Int) + 1 - J) ⟨by omega, by omega⟩]; exact hQ)
    obtain ⟨wy, rfl⟩ : ∃ wy, wy = wc := ⟨_, rfl⟩
    have KC := hide (next K2.out hLk.out.2)
    have SB := hide hLk.out.1
    have AC := hide (AB.out.keep hLk.out.2)
    have hc2 := hide (h2.out.keep hLk.out.2)
    have vc := hide (hvv.out.keep hLk.out.2)
    clear hLk keyS s0 s1 s2 s3 s4 s5 s6 s7 HN3 AB K2 h2 hvv R64
    go_upto_region 8 with fail
    have s0 : wy.cell? ⟨XA, 0, none⟩ = some (.bool true) := AC.out.at' 0
    have s1 : wy.cell? ⟨XA, 1, none⟩ = some (.int .i64 0) := AC.out.at' 1
    have s2 : wy.cell? ⟨XA, 2, none⟩ = some (.int .i64 0) := AC.out.at' 2
    have s3 : wy.cell? ⟨XA, 3, none⟩ = some (.int .i64 ((m : Int) - 1)) := AC.out.at' 3
    have s4 : wy.cell? ⟨XA, 4, none⟩ = some (.int .i64 0) := AC.out.at' 4
    have s5 : wy.cell? ⟨XA, 5, none⟩ = some (.int .i64 0) := AC.out.at' 5
    have s6 : wy.cell? ⟨XA, 6, none⟩ = some (.int .i64 0) := AC.out.at' 6
    have s7 : wy.cell? ⟨XA, 7, none⟩ = some (.string no) := AC.out.at' 7
    have keyS : Hid (∀ w', Below wy.heap.size wy w' → (w'.cell? ⟨XA, 0, none⟩ = some (.bool true) ∧ w'.cell? ⟨XA, 1, none⟩ = some (.int .i64 0) ∧ w'.cell? ⟨XA, 2, none⟩ = some (.int .i64 0) ∧ w'.cell? ⟨XA, 3, none⟩ = some (.int .i64 ((m : Int) - 1)) ∧ w'.cell? ⟨XA, 4, none⟩ = some (.int .i64 0) ∧ w'.cell? ⟨XA, 5, none⟩ = some (.int .i64 0) ∧ w'.cell? ⟨XA, 6, none⟩ = some (.int .i64 0) ∧ w'.cell? ⟨XA, 7, none⟩ = some (.string no))) := hide (fun w' hb => ⟨keep1 hb s0, keep1 hb s1, keep1 hb s2, keep1 hb s3, keep1 hb s4, keep1 hb s5, keep1 hb s6, keep1 hb s7⟩)
    have HN3 := lnum_is Q
    go_cut [11, 12, 13] from 56 to 70 (fun c1 c2 c3 wx => ∃ (Bv : Nat), c1 = .pointer (some ⟨Bv, 0, none⟩) ∧ c3 = .bool true ∧ Hid (RnAt sv wy wx Bv))
    case first =>
      go_region_held (fun w' => w'.cell? ⟨XA, 0, none⟩ = some (.bool true) ∧ w'.cell? ⟨XA, 1, none⟩ = some (.int .i64 0) ∧ w'.cell? ⟨XA, 2, none⟩ = some (.int .i64 0) ∧ w'.cell? ⟨XA, 3, none⟩ = some (.int .i64 ((m : Int) - 1)) ∧ w'.cell? ⟨XA, 4, none⟩ = some (.int .i64 0) ∧ w'.cell? ⟨XA, 5, none⟩ = some (.int .i64 0) ∧ w'.cell? ⟨XA, 6, none⟩ = some (.int .i64 0) ∧ w'.cell? ⟨XA, 7, none⟩ = some (.string no)) (first | (have hq := KR; refine keyS.out _ ?_; first | (with_reducible exact KR.out) | (with_reducible exact step KR.out _) | ((repeat (refine below_set ?_ (by first | exact Nat.le_refl _ | exact KN.out.size | exact Nat.le_succ_of_le KN.out.size | exact KR.out.size))); (with_reducible exact KR.out))) | (have hq := KN; refine keyS.out _ ?_; first | (with_reducible exact KN.out) | (with_reducible exact step KN.out _) | (with_reducible exact step (step KN.out _) _)) | go_keep) (first
        | (have hq := KN; (with_reducible refine (R63.out _ _ ?_ av cv ?_).mono ?_); (· exact argsB2 (x := agC (m : Nat)) (y := agN Q) (by first | (with_reducible exact T9.Blk.new1 _ _ _ _) | (with_reducible exact (Blk.new _ _ _).alloc _) | (with_reducible exact Blk.new _ _ _))); (· exact vc.out.keep (by first | (with_reducible exact step (step KN.out _) _) | (with_reducible exact step KN.out _))); rintro e w8 ⟨v8, rfl, hb8⟩; have KR : Hid (Below wy.heap.size wy w8) := hide (next (by first | (with_reducible exact step (step KN.out _) _) | (with_reducible exact step KN.out _)) hb8); (try (have Z2 : Hid (Blk w8 wy.heap.size #[.int .i64 0, .int .i64 0, .string no] 28) := hide (T9.Blk.keep (Z1.out.alloc _) hb8); have z0 : w8.cell? ⟨wy.heap.size, 0, none⟩ = some (.int .i64 0) := Z2.out.at' 0; have z1 : w8.cell? ⟨wy.heap.size, 1, none⟩ = some (.int .i64 0) := Z2.out.at' 1; have z2 : w8.cell? ⟨wy.heap.size, 2, none⟩ = some (.string no) := Z2.out.at' 2; have zf := Z2.out.fr)); (try (have Y2 : Hid (Blk w8 w7.heap.size #[.int .i64 0, .int .i64 0, .string no] 28) := hide (T9.Blk.keep ((Blk.new w7 #[.int .i64 0, .int .i64 0, .string no] 28).alloc _) hb8); have z0 : w8.cell? ⟨w7.heap.size, 0, none⟩ = some (.int .i64 0) := Y2.out.at' 0; have z1 : w8.cell? ⟨w7.heap.size, 1, none⟩ = some (.int .i64 0) := Y2.out.at' 1; have z2 : w8.cell? ⟨w7.heap.size, 2, none⟩ = some (.string no) := Y2.out.at' 2; have zf := Y2.out.fr)); (try (have V2 : Hid (Blk w8 (w7.heap.size + 1) #[.int .i64 0, .int .i64 0, .string no] 28) := hide (T9.Blk.keep (T9.Blk.new1 w7 _ #[.int .i64 0, .int .i64 0, .string no] 28) hb8); have z0 : w8.cell? ⟨(w7.heap.size + 1), 0, none⟩ = some (.int .i64 0) := V2.out.at' 0; have z1 : w8.cell? ⟨(w7.heap.size + 1), 1, none⟩ = some (.int .i64 0) := V2.out.at' 1; have z2 : w8.cell? ⟨(w7.heap.size + 1), 2, none⟩ = some (.string no) := V2.out.at' 2; have zf := V2.out.fr)); clear hb8)
        | ((try rw [hQ2.out]); (with_reducible refine (HN3.out _).mono ?_); rintro e w7 ⟨rfl, hb7⟩; have KN : Hid (Below wy.heap.size wy w7) := hide (next (by first | (with_reducible exact (Below.refl _ _).drew) | (with_reducible exact (step (Below.refl _ _) _).drew)) hb7); (try (have Z1 : Hid (Blk w7 wy.heap.size #[.int .i64 0, .int .i64 0, .string no] 28) := hide (T9.Blk.keep (drewB (Blk.new wy #[.int .i64 0, .int .i64 0, .string no] 28)) hb7))); clear hb7))
      all_goals (go_wp2_with fail)
      all_goals go_meet
      all_goals (first
        | (have hq9 := V2; exact ⟨_, rfl, rfl, hide (rn_b KR.out (((V2.out.set 0 (.int .i64 1)).set 1 (.int .i64 sv)).set 2 (.string no)) ((((Chg.refl (· = w7.heap.size + 1) w8).set (w7.heap.size + 1) 0 (.int .i64 1) rfl).set (w7.heap.size + 1) 1 (.int .i64 sv) rfl).set (w7.heap.size + 1) 2 (.string no) rfl) (Nat.le_succ_of_le KN.out.size))⟩)
        | (have hq9 := Y2; exact ⟨_, rfl, rfl, hide (rn_b KR.out (((Y2.out.set 0 (.int .i64 1)).set 1 (.int .i64 sv)).set 2 (.string no)) ((((Chg.refl (· = w7.heap.size) w8).set (w7.heap.size) 0 (.int .i64 1) rfl).set (w7.heap.size) 1 (.int .i64 sv) rfl).set (w7.heap.size) 2 (.string no) rfl) KN.out.size)⟩)
        | (have hq9 := Z2; exact ⟨_, rfl, rfl, hide (rn_b KR.out (((Z2.out.set 0 (.int .i64 1)).set 1 (.int .i64 sv)).set 2 (.string no)) ((((Chg.refl (· = wy.heap.size) w8).set (wy.heap.size) 0 (.int .i64 1) rfl).set (wy.heap.size) 1 (.int .i64 sv) rfl).set (wy.heap.size) 2 (.string no) rfl) (Nat.le_refl _))⟩)
        | (exact ⟨_, rfl, rfl, hide (rn_a KR.out)⟩))
    case rest =>
      obtain ⟨Bl, rfl, rfl, hLk⟩ := hcut
      obtain ⟨wd, rfl⟩ : ∃ wd, wd = wc := ⟨_, rfl⟩
      have KD := hide (next KC.out hLk.out.2)
      have SD := hide (SB.out.keep hLk.out.2)
      have LD := hide hLk.out.1
      have AD := hide (AC.out.keep hLk.out.2)
      have hd2 := hide (hc2.out.keep hLk.out.2)
      have vd := hide (vc.out.keep hLk.out.2)
      clear hLk keyS s0 s1 s2 s3 s4 s5 s6 s7 HN3 AC KC hc2 vc SB R63 hQ2
      obtain ⟨md, hmd, RS1, RS2, RS3, RS4⟩ := RS.out
      rw [hmd, show (⟨1, md, no⟩ : Va).v = vV 1 md no from rfl] at R62
      have MN := hide ((min_le ns (false, 0)).2)
      have MX := hide ((max_ge ns (false, 0)).2)
      generalize extL min ns (false, 0) = lw at *
      generalize extL max ns (false, 0) = hg at *
      replace RS1 := hide RS1
      replace RS2 := hide RS2
      clear RS hmd
      have pA := hide AD.out
      have pK := hide KD.out
      have pV := hide vd.out
      have pI := hide hd2.out
      have pS := hide SD.out
      have pL := hide LD.out
      clear AD KD vd hd2 SD LD
      have b0 : wd.cell? ⟨XA, 0, none⟩ = some (.bool true) := pA.out.at' 0
      have b1 : wd.cell? ⟨XA, 1, none⟩ = some (.int .i64 0) := pA.out.at' 1
      have b2 : wd.cell? ⟨XA, 2, none⟩ = some (.int .i64 0) := pA.out.at' 2
      have b3 : wd.cell? ⟨XA, 3, none⟩ = some (.int .i64 ((m : Int) - 1)) := pA.out.at' 3
      have b4 : wd.cell? ⟨XA, 4, none⟩ = some (.int .i64 0) := pA.out.at' 4
      have b5 : wd.cell? ⟨XA, 5, none⟩ = some (.int .i64 0) := pA.out.at' 5
      have b6 : wd.cell? ⟨XA, 6, none⟩ = some (.int .i64 0) := pA.out.at' 6
      have b7 : wd.cell? ⟨XA, 7, none⟩ = some (.string no) := pA.out.at' 7
      have vn := hide (pV.out.keep (step (Below.refl _ _) (.cells #[.bool true, .int .i64 0, .int .i64 0, .int .i64 ((m : Int) - 1), .int .i64 0, .int .i64 0, .int .i64 0, .string no] 30)))
      have CR := hide (R59.out (wd.alloc (.cells #[.bool true, .int .i64 0, .int .i64 0, .int .i64 ((m : Int) - 1), .int .i64 0, .int .i64 0, .int .i64 0, .string no] 30)) wd.heap.size (argsB1 (x := agC (m : Nat)) (Blk.new wd _ _)) av cv vn.out)
      have KN := hide (step pK.out (.cells #[.bool true, .int .i64 0, .int .i64 0, .int .i64 ((m : Int) - 1), .int .i64 0, .int .i64 0, .int .i64 0, .string no] 30))
      go_wp2_with fail
      refine CR.out.mono ?_
      rintro e w5 ⟨v5, rfl, hb5⟩
      have NA := hide (((pA.out.alloc (.cells #[.bool true, .int .i64 0, .int .i64 0, .int .i64 ((m : Int) - 1), .int .i64 0, .int .i64 0, .int .i64 0, .string no] 30)).keep hb5).alloc (vO 1 lw no))
      have NS := hide (((pS.out.alloc (.cells #[.bool true, .int .i64 0, .int .i64 0, .int .i64 ((m : Int) - 1), .int .i64 0, .int .i64 0, .int .i64 0, .string no] 30)).keep hb5).alloc (vO 1 lw no))
      have NL := hide (((pL.out.alloc (.cells #[.bool true, .int .i64 0, .int .i64 0, .int .i64 ((m : Int) - 1), .int .i64 0, .int .i64 0, .int .i64 0, .string no] 30)).keep hb5).alloc (vO 1 lw no))
      have NO := hide (Blk.new w5 #[.int .i64 1, .int .i64 lw, .string no] 28)
      have NK := hide (step (next KN.out hb5) (vO 1 lw no))
      have NV := hide ((vn.out.keep hb5).keep (step (Below.refl w5.heap.size w5) (vO 1 lw no)))
      have NI := hide (((pI.out.keep (step (Below.refl _ _) (.cells #[.bool true, .int .i64 0, .int .i64 0, .int .i64 ((m : Int) - 1), .int .i64 0, .int .i64 0, .int .i64 0, .string no] 30))).keep hb5).keep (step (Below.refl w5.heap.size w5) (vO 1 lw no)))
      clear hb5 vn CR KN pA pS pL pK pV pI b0 b1 b2 b3 b4 b5 b6 b7
      go_upto_region 10 with fail
      simp only [vO] at NK NV NI NA NS NL
      obtain ⟨we, hwn⟩ : ∃ we, w5.alloc (.cells #[.int .i64 1, .int .i64 lw, .string no] 28) = we := ⟨_, rfl⟩
      rw [hwn] at NK NV NI NO NA NS NL ⊢
      clear hwn
      obtain ⟨XO, hXO⟩ : ∃ XO, w5.heap.size = XO := ⟨_, rfl⟩
      rw [hXO] at NO ⊢
      clear hXO
      have pA := hide NA.out
      have pK := hide NK.out
      have pV := hide NV.out
      have pI := hide NI.out
      have pS := hide NS.out
      have pL := hide NL.out
      have pO := hide NO.out
      clear NA NK NV NI NS NL NO
      have b0 : we.cell? ⟨XA, 0, none⟩ = some (.bool true) := pA.out.at' 0
      have b1 : we.cell? ⟨XA, 1, none⟩ = some (.int .i64 0) := pA.out.at' 1
      have b2 : we.cell? ⟨XA, 2, none⟩ = some (.int .i64 0) := pA.out.at' 2
      have b3 : we.cell? ⟨XA, 3, none⟩ = some (.int .i64 ((m : Int) - 1)) := pA.out.at' 3
      have b4 : we.cell? ⟨XA, 4, none⟩ = some (.int .i64 0) := pA.out.at' 4
      have b5 : we.cell? ⟨XA, 5, none⟩ = some (.int .i64 0) := pA.out.at' 5
      have b6 : we.cell? ⟨XA, 6, none⟩ = some (.int .i64 0) := pA.out.at' 6
      have b7 : we.cell? ⟨XA, 7, none⟩ = some (.string no) := pA.out.at' 7
      have vn := hide (pV.out.keep (step (Below.refl _ _) (.cells #[.bool true, .int .i64 0, .int .i64 0, .int .i64 ((m : Int) - 1), .int .i64 0, .int .i64 0, .int .i64 0, .string no] 30)))
      have CR := hide (R60.out (we.alloc (.cells #[.bool true, .int .i64 0, .int .i64 0, .int .i64 ((m : Int) - 1), .int .i64 0, .int .i64 0, .int .i64 0, .string no] 30)) we.heap.size (argsB1 (x := agC (m : Nat)) (Blk.new we _ _)) av cv vn.out)
      have KN := hide (step pK.out (.cells #[.bool true, .int .i64 0, .int .i64 0, .int .i64 ((m : Int) - 1), .int .i64 0, .int .i64 0, .int .i64 0, .string no] 30))
      go_wp2_with fail
      refine CR.out.mono ?_
      rintro e w5 ⟨v5, rfl, hb5⟩
      have NA := hide (((pA.out.alloc (.cells #[.bool true, .int .i64 0, .int .i64 0, .int .i64 ((m : Int) - 1), .int .i64 0, .int .i64 0, .int .i64 0, .string no] 30)).keep hb5).alloc (vO 1 hg no))
      have NS := hide (((pS.out.alloc (.cells #[.bool true, .int .i64 0, .int .i64 0, .int .i64 ((m : Int) - 1), .int .i64 0, .int .i64 0, .int .i64 0, .string no] 30)).keep hb5).alloc (vO 1 hg no))
      have NL := hide (((pL.out.alloc (.cells #[.bool true, .int .i64 0, .int .i64 0, .int .i64 ((m : Int) - 1), .int .i64 0, .int .i64 0, .int .i64 0, .string no] 30)).keep hb5).alloc (vO 1 hg no))
      have NO := hide (((pO.out.alloc (.cells #[.bool true, .int .i64 0, .int .i64 0, .int .i64 ((m : Int) - 1), .int .i64 0, .int .i64 0, .int .i64 0, .string no] 30)).keep hb5).alloc (vO 1 hg no))
      have NH := hide (Blk.new w5 #[.int .i64 1, .int .i64 hg, .string no] 28)
      have NK := hide (step (next KN.out hb5) (vO 1 hg no))
      have NV := hide ((vn.out.keep hb5).keep (step (Below.refl w5.heap.size w5) (vO 1 hg no)))
      have NI := hide (((pI.out.keep (step (Below.refl _ _) (.cells #[.bool true, .int .i64 0, .int .i64 0, .int .i64 ((m : Int) - 1), .int .i64 0, .int .i64 0, .int .i64 0, .string no] 30))).keep hb5).keep (step (Below.refl w5.heap.size w5) (vO 1 hg no)))
      clear hb5 vn CR KN pA pS pL pO pK pV pI b0 b1 b2 b3 b4 b5 b6 b7
      go_upto_region 11 with fail
      simp only [vO] at NK NV NI NA NS NL NO
      obtain ⟨wg, hwn⟩ : ∃ wg, w5.alloc (.cells #[.int .i64 1, .int .i64 hg, .string no] 28) = wg := ⟨_, rfl⟩
      rw [hwn] at NK NV NI NH NA NS NL NO ⊢
      clear hwn
      obtain ⟨XH, hXH⟩ : ∃ XH, w5.heap.size = XH := ⟨_, rfl⟩
      rw [hXH] at NH ⊢
      clear hXH
      have pA := hide NA.out
      have pK := hide NK.out
      have pV := hide NV.out
      have pI := hide NI.out
      have pS := hide NS.out
      have pL := hide NL.out
      have pO := hide NO.out
      have pH := hide NH.out
      clear NA NK NV NI NS NL NO NH
      have b0 : wg.cell? ⟨XA, 0, none⟩ = some (.bool true) := pA.out.at' 0
      have b1 : wg.cell? ⟨XA, 1, none⟩ = some (.int .i64 0) := pA.out.at' 1
      have b2 : wg.cell? ⟨XA, 2, none⟩ = some (.int .i64 0) := pA.out.at' 2
      have b3 : wg.cell? ⟨XA, 3, none⟩ = some (.int .i64 ((m : Int) - 1)) := pA.out.at' 3
      have b4 : wg.cell? ⟨XA, 4, none⟩ = some (.int .i64 0) := pA.out.at' 4
      have b5 : wg.cell? ⟨XA, 5, none⟩ = some (.int .i64 0) := pA.out.at' 5
      have b6 : wg.cell? ⟨XA, 6, none⟩ = some (.int .i64 0) := pA.out.at' 6
      have b7 : wg.cell? ⟨XA, 7, none⟩ = some (.string no) := pA.out.at' 7
      have vn := hide (pV.out.keep (step (Below.refl _ _) (.cells #[.bool true, .int .i64 0, .int .i64 0, .int .i64 ((m : Int) - 1), .int .i64 0, .int .i64 0, .int .i64 0, .string no] 30)))
      have CR := hide (R62.out (wg.alloc (.cells #[.bool true, .int .i64 0, .int .i64 0, .int .i64 ((m : Int) - 1), .int .i64 0, .int .i64 0, .int .i64 0, .string no] 30)) wg.heap.size (argsB1 (x := agC (m : Nat)) (Blk.new wg _ _)) av cv vn.out)
      have KN := hide (step pK.out (.cells #[.bool true, .int .i64 0, .int .i64 0, .int .i64 ((m : Int) - 1), .int .i64 0, .int .i64 0, .int .i64 0, .string no] 30))
      go_wp2_with fail
      refine CR.out.mono ?_
      rintro e w5 ⟨v5, rfl, hb5⟩
      have NA := hide (((pA.out.alloc (.cells #[.bool true, .int .i64 0, .int .i64 0, .int .i64 ((m : Int) - 1), .int .i64 0, .int .i64 0, .int .i64 0, .string no] 30)).keep hb5).alloc (vO 1 md no))
      have NS := hide (((pS.out.alloc (.cells #[.bool true, .int .i64 0, .int .i64 0, .int .i64 ((m : Int) - 1), .int .i64 0, .int .i64 0, .int .i64 0, .string no] 30)).keep hb5).alloc (vO 1 md no))
      have NL := hide (((pL.out.alloc (.cells #[.bool true, .int .i64 0, .int .i64 0, .int .i64 ((m : Int) - 1), .int .i64 0, .int .i64 0, .int .i64 0, .string no] 30)).keep hb5).alloc (vO 1 md no))
      have NO := hide (((pO.out.alloc (.cells #[.bool true, .int .i64 0, .int .i64 0, .int .i64 ((m : Int) - 1), .int .i64 0, .int .i64 0, .int .i64 0, .string no] 30)).keep hb5).alloc (vO 1 md no))
      have NH := hide (((pH.out.alloc (.cells #[.bool true, .int .i64 0, .int .i64 0, .int .i64 ((m : Int) - 1), .int .i64 0, .int .i64 0, .int .i64 0, .string no] 30)).keep hb5).alloc (vO 1 md no))
      have NM := hide (Blk.new w5 #[.int .i64 1, .int .i64 md, .string no] 28)
      have NK := hide (step (next KN.out hb5) (vO 1 md no))
      have NV := hide ((vn.out.keep hb5).keep (step (Below.refl w5.heap.size w5) (vO 1 md no)))
      have NI := hide (((pI.out.keep (step (Below.refl _ _) (.cells #[.bool true, .int .i64 0, .int .i64 0, .int .i64 ((m : Int) - 1), .int .i64 0, .int .i64 0, .int .i64 0, .string no] 30))).keep hb5).keep (step (Below.refl w5.heap.size w5) (vO 1 md no)))
      clear hb5 vn CR KN pA pS pL pO pH pK pV pI b0 b1 b2 b3 b4 b5 b6 b7
      go_upto_region 12 with fail
      simp only [vO] at NK NV NI NA NS NL NO NH
      obtain ⟨wf, hwn⟩ : ∃ wf, w5.alloc (.cells #[.int .i64 1, .int .i64 md, .string no] 28) = wf := ⟨_, rfl⟩
      rw [hwn] at NK NV NI NM NA NS NL NO NH ⊢
      clear hwn
      obtain ⟨XM, hXM⟩ : ∃ XM, w5.heap.size = XM := ⟨_, rfl⟩
      rw [hXM] at NM ⊢
      clear hXM
      have s0 : wf.cell? ⟨Bs, 0, none⟩ = some (.int .i64 1) := NS.out.at' 0
      have s1 : wf.cell? ⟨Bs, 1, none⟩ = some (.int .i64 sv) := NS.out.at' 1
      have s2 : wf.cell? ⟨Bs, 2, none⟩ = some (.string no) := NS.out.at' 2
      have l0 : wf.cell? ⟨Bl, 0, none⟩ = some (.int .i64 1) := NL.out.at' 0
      have l1 : wf.cell? ⟨Bl, 1, none⟩ = some (.int .i64 sv) := NL.out.at' 1
      have l2 : wf.cell? ⟨Bl, 2, none⟩ = some (.string no) := NL.out.at' 2
      have d0 : wf.cell? ⟨XM, 0, none⟩ = some (.int .i64 1) := NM.out.at' 0
      have d1 : wf.cell? ⟨XM, 1, none⟩ = some (.int .i64 md) := NM.out.at' 1
      have d2 : wf.cell? ⟨XM, 2, none⟩ = some (.string no) := NM.out.at' 2
      have eM := va_neq1 sv
      go_wp2_with fail
      clear s0 s1 s2 l0 l1 l2 d0 d1 d2 eM
      go_loopw [23, 24, 25, 26, 27] (fun c1 c2 c3 c4 i wr => ∃ (j p q u v : Nat), j ≤ m ∧ c1 = .int .i64 (p : Int) ∧ c2 = .int .i64 (q : Int) ∧ c3 = .int .i64 (u : Int) ∧ c4 = .int .i64 (v : Int) ∧ i = .int .i64 (j : Int) ∧ Hid (p = (ns.take j).countP (fun y => decide (y < sv)) ∧ q = (ns.take j).countP (fun y => y == sv) ∧ u = (ns.take j).countP (fun y => decide (y < md)) ∧ v = (ns.take j).countP (fun y => decide (md < y))) ∧ Hid (Below wf.heap.size wf wr)) (fun _ _ _ _ i _ => m - (intOf i).toNat)
      case atStart => exact ⟨0, 0, 0, 0, 0, Nat.zero_le _, rfl, rfl, rfl, rfl, rfl, hide ⟨rfl, rfl, rfl, rfl⟩, hide (Below.refl _ _)⟩
      case round =>
        obtain ⟨j, p, q, u, v, hj, rfl, rfl, rfl, rfl, rfl, hcn, hB⟩ := hrel
        by_cases hlt : j < m
        · have q0 : (j : Int) < (m : Int) := by omega
          have hj' : j < ns.length := by have := hm.out; omega
          obtain ⟨b, o, rfl, ho⟩ : ∃ b o, a = some ⟨b, o, none⟩ ∧ ∀ (j : Nat) (y : Int), ns[j]? = some y → wf.cell? ⟨b, o + j, none⟩ = some (.int .i64 y) := by
            rcases NI.out with h | h
            · rw [h] at hj'; cases hj'
            · exact h
          have hcl := hide (ho j _ (List.getElem?_eq_getElem hj'))
          have t1 := MN.out _ (List.getElem_mem hj')
          have t2 := MX.out _ (List.getElem_mem hj')
          have g1 := hide (cnt_snoc (fun y => decide (y < sv)) ns j hj')
          have g2 := hide (cnt_snoc (fun y => y == sv) ns j hj')
          have g3 := hide (cnt_snoc (fun y => decide (y < md)) ns j hj')
          have g4 := hide (cnt_snoc (fun y => decide (md < y)) ns j hj')
          have bp : (p : Int) ≤ 300 := by have := cnt_take (fun y => decide (y < sv)) ns j; rw [← hcn.out.1] at this; omega
          have bq : (q : Int) ≤ 300 := by have := cnt_take (fun y => y == sv) ns j; rw [← hcn.out.2.1] at this; omega
          have bu : (u : Int) ≤ 300 := by have := cnt_take (fun y => decide (y < md)) ns j; rw [← hcn.out.2.2.1] at this; omega
          have bv : (v : Int) ≤ 300 := by have := cnt_take (fun y => decide (md < y)) ns j; rw [← hcn.out.2.2.2] at this; omega
          have hm1 : Hid ((intOf (.int .i64 ((j : Int) + 1))).toNat = j + 1) := hide rfl
          have hm2 : Hid ((intOf (.int .i64 (j : Int))).toNat = j) := hide rfl
          generalize ns[j] = y at *
          clear ho hj'
          have t1 : ¬ y < lw := by omega
          have t2 : ¬ hg < y := by omega
          have f1 := hide (NS.out.at' 1)
          have f2 := hide (NM.out.at' 1)
          have f3 := hide (NO.out.at' 1)
          have f4 := hide (NH.out.at' 1)
          rcases Int.lt_trichotomy y sv with ca | ca | ca
          · rcases Int.lt_trichotomy y md with cb | cb | cb
            · have a1 : y < sv := by omega
              have a2 : (y == sv) = false := by simp; omega
              have a3 : y < md := by omega
              have a4 : ¬ md < y := by omega
              clear ca cb
              have hnx : Hid (p + 1 = (ns.take (j + 1)).countP (fun y => decide (y < sv)) ∧ q + 0 = (ns.take (j + 1)).countP (fun y => y == sv) ∧ u + 1 = (ns.take (j + 1)).countP (fun y => decide (y < md)) ∧ v + 0 = (ns.take (j + 1)).countP (fun y => decide (md < y))) := hide ⟨by rw [g1.out, ← hcn.out.1]; simp [a1], by rw [g2.out, ← hcn.out.2.1]; simp [a2], by rw [g3.out, ← hcn.out.2.2.1]; simp [a3], by rw [g4.out, ← hcn.out.2.2.2]; simp [a4]⟩
              have r0 := cell_regrown (keep1 hB.out hcl.out)
              have r1 := cell_regrown (keep1 hB.out f1.out)
              go_upto_region 18 with fail
              refine wp_region_quiet_below (by kernel_rfl) (by kernel_rfl) ?_
              repeat (go_big_quiet_step (fail))
              refine wpQuiet_nil ?_
              intro q1 hwq
              have B1 : Hid (Below wf.heap.size wf q1) := hide (next hB.out (by obtain ⟨⟨dq, osq⟩, hq⟩ := hwq; rw [hq]; exact below_regrown _ dq osq))
              clear hwq r0 r1
              have r0 := cell_regrown (keep1 B1.out hcl.out)
              have r1 := cell_regrown (keep1 B1.out f1.out)
              go_upto_region 20 with fail
              refine wp_region_quiet_below (by kernel_rfl) (by kernel_rfl) ?_
              repeat (go_big_quiet_step (fail))
              refine wpQuiet_nil ?_
              intro q2 hwq
              have B2 : Hid (Below wf.heap.size wf q2) := hide (next B1.out (by obtain ⟨⟨dq, osq⟩, hq⟩ := hwq; rw [hq]; exact below_regrown _ dq osq))
              clear hwq r0 r1
              have r0 := cell_regrown (keep1 B2.out hcl.out)
              have r1 := cell_regrown (keep1 B2.out f2.out)
              go_upto_region 22 with fail
              refine wp_region_quiet_below (by kernel_rfl) (by kernel_rfl) ?_
              repeat (go_big_quiet_step (fail))
              refine wpQuiet_nil ?_
              intro q3 hwq
              have B3 : Hid (Below wf.heap.size wf q3) := hide (next B2.out (by obtain ⟨⟨dq, osq⟩, hq⟩ := hwq; rw [hq]; exact below_regrown _ dq osq))
              clear hwq r0 r1
              have r0 := cell_regrown (keep1 B3.out hcl.out)
              have r1 := cell_regrown (keep1 B3.out f2.out)
              go_upto_region 24 with fail
              refine wp_region_quiet_below (by kernel_rfl) (by kernel_rfl) ?_
              repeat (go_big_quiet_step (fail))
              refine wpQuiet_nil ?_
              intro q4 hwq
              have B4 : Hid (Below wf.heap.size wf q4) := hide (next B3.out (by obtain ⟨⟨dq, osq⟩, hq⟩ := hwq; rw [hq]; exact below_regrown _ dq osq))
              clear hwq r0 r1
              have r0 := cell_regrown (keep1 B4.out hcl.out)
              have r1 := cell_regrown (keep1 B4.out f3.out)
              have r2 := cell_regrown (keep1 B4.out f4.out)
              go_upto_region 26 with fail
              refine wp_region_quiet_below (by kernel_rfl) (by kernel_rfl) ?_
              repeat (go_big_quiet_step (fail))
              refine wpQuiet_nil ?_
              intro q5 hwq
              have B5 : Hid (Below wf.heap.size wf q5) := hide (next B4.out (by obtain ⟨⟨dq, osq⟩, hq⟩ := hwq; rw [hq]; exact below_regrown _ dq osq))
              clear hwq r0 r1 r2
              go_wp2_with fail
              refine ⟨⟨j + 1, _, _, _, _, hlt, rfl, rfl, rfl, rfl, rfl, hnx, B5⟩, ?_⟩
              rw [hm1.out, hm2.out]; omega
            · have a1 : y < sv := by omega
              have a2 : (y == sv) = false := by simp; omega
              have a3 : ¬ y < md := by omega
              have a4 : ¬ md < y := by omega
              clear ca cb
              have hnx : Hid (p + 1 = (ns.take (j + 1)).countP (fun y => decide (y < sv)) ∧ q + 0 = (ns.take (j + 1)).countP (fun y => y == sv) ∧ u + 0 = (ns.take (j + 1)).countP (fun y => decide (y < md)) ∧ v + 0 = (ns.take (j + 1)).countP (fun y => decide (md < y))) := hide ⟨by rw [g1.out, ← hcn.out.1]; simp [a1], by rw [g2.out, ← hcn.out.2.1]; simp [a2], by rw [g3.out, ← hcn.out.2.2.1]; simp [a3], by rw [g4.out, ← hcn.out.2.2.2]; simp [a4]⟩
              have r0 := cell_regrown (keep1 hB.out hcl.out)
              have r1 := cell_regrown (keep1 hB.out f1.out)
              go_upto_region 18 with fail
              refine wp_region_quiet_below (by kernel_rfl) (by kernel_rfl) ?_
              repeat (go_big_quiet_step (fail))
              refine wpQuiet_nil ?_
              intro q1 hwq
              have B1 : Hid (Below wf.heap.size wf q1) := hide (next hB.out (by obtain ⟨⟨dq, osq⟩, hq⟩ := hwq; rw [hq]; exact below_regrown _ dq osq))
              clear hwq r0 r1
              have r0 := cell_regrown (keep1 B1.out hcl.out)
              have r1 := cell_regrown (keep1 B1.out f1.out)
              go_upto_region 20 with fail
              refine wp_region_quiet_below (by kernel_rfl) (by kernel_rfl) ?_
              repeat (go_big_quiet_step (fail))
              refine wpQuiet_nil ?_
              intro q2 hwq
              have B2 : Hid (Below wf.heap.size wf q2) := hide (next B1.out (by obtain ⟨⟨dq, osq⟩, hq⟩ := hwq; rw [hq]; exact below_regrown _ dq osq))
              clear hwq r0 r1
              have r0 := cell_regrown (keep1 B2.out hcl.out)
              have r1 := cell_regrown (keep1 B2.out f2.out)
              go_upto_region 22 with fail
              refine wp_region_quiet_below (by kernel_rfl) (by kernel_rfl) ?_
              repeat (go_big_quiet_step (fail))
              refine wpQuiet_nil ?_
              intro q3 hwq
              have B3 : Hid (Below wf.heap.size wf q3) := hide (next B2.out (by obtain ⟨⟨dq, osq⟩, hq⟩ := hwq; rw [hq]; exact below_regrown _ dq osq))
              clear hwq r0 r1
              have r0 := cell_regrown (keep1 B3.out hcl.out)
              have r1 := cell_regrown (keep1 B3.out f2.out)
              go_upto_region 24 with fail
              refine wp_region_quiet_below (by kernel_rfl) (by kernel_rfl) ?_
              repeat (go_big_quiet_step (fail))
              refine wpQuiet_nil ?_
              intro q4 hwq
              have B4 : Hid (Below wf.heap.size wf q4) := hide (next B3.out (by obtain ⟨⟨dq, osq⟩, hq⟩ := hwq; rw [hq]; exact below_regrown _ dq osq))
              clear hwq r0 r1
              have r0 := cell_regrown (keep1 B4.out hcl.out)
              have r1 := cell_regrown (keep1 B4.out f3.out)
              have r2 := cell_regrown (keep1 B4.out f4.out)
              go_upto_region 26 with fail
              refine wp_region_quiet_below (by kernel_rfl) (by kernel_rfl) ?_
              repeat (go_big_quiet_step (fail))
              refine wpQuiet_nil ?_
              intro q5 hwq
              have B5 : Hid (Below wf.heap.size wf q5) := hide (next B4.out (by obtain ⟨⟨dq, osq⟩, hq⟩ := hwq; rw [hq]; exact below_regrown _ dq osq))
              clear hwq r0 r1 r2
              go_wp2_with fail
              refine ⟨⟨j + 1, _, _, _, _, hlt, rfl, rfl, rfl, rfl, rfl, hnx, B5⟩, ?_⟩
              rw [hm1.out, hm2.out]; omega
            · have a1 : y < sv := by omega
              have a2 : (y == sv) = false := by simp; omega
              have a3 : ¬ y < md := by omega
              have a4 : md < y := by omega
              clear ca cb
              have hnx : Hid (p + 1 = (ns.take (j + 1)).countP (fun y => decide (y < sv)) ∧ q + 0 = (ns.take (j + 1)).countP (fun y => y == sv) ∧ u + 0 = (ns.take (j + 1)).countP (fun y => decide (y < md)) ∧ v + 1 = (ns.take (j + 1)).countP (fun y => decide (md < y))) := hide ⟨by rw [g1.out, ← hcn.out.1]; simp [a1], by rw [g2.out, ← hcn.out.2.1]; simp [a2], by rw [g3.out, ← hcn.out.2.2.1]; simp [a3], by rw [g4.out, ← hcn.out.2.2.2]; simp [a4]⟩
              have r0 := cell_regrown (keep1 hB.out hcl.out)
              have r1 := cell_regrown (keep1 hB.out f1.out)
              go_upto_region 18 with fail
              refine wp_region_quiet_below (by kernel_rfl) (by kernel_rfl) ?_
              repeat (go_big_quiet_step (fail))
              refine wpQuiet_nil ?_
              intro q1 hwq
              have B1 : Hid (Below wf.heap.size wf q1) := hide (next hB.out (by obtain ⟨⟨dq, osq⟩, hq⟩ := hwq; rw [hq]; exact below_regrown _ dq osq))
              clear hwq r0 r1
              have r0 := cell_regrown (keep1 B1.out hcl.out)
              have r1 := cell_regrown (keep1 B1.out f1.out)
              go_upto_region 20 with fail
              refine wp_region_quiet_below (by kernel_rfl) (by kernel_rfl) ?_
              repeat (go_big_quiet_step (fail))
              refine wpQuiet_nil ?_
              intro q2 hwq
              have B2 : Hid (Below wf.heap.size wf q2) := hide (next B1.out (by obtain ⟨⟨dq, osq⟩, hq⟩ := hwq; rw [hq]; exact below_regrown _ dq osq))
              clear hwq r0 r1
              have r0 := cell_regrown (keep1 B2.out hcl.out)
              have r1 := cell_regrown (keep1 B2.out f2.out)
              go_upto_region 22 with fail
              refine wp_region_quiet_below (by kernel_rfl) (by kernel_rfl) ?_
              repeat (go_big_quiet_step (fail))
              refine wpQuiet_nil ?_
              intro q3 hwq
              have B3 : Hid (Below wf.heap.size wf q3) := hide (next B2.out (by obtain ⟨⟨dq, osq⟩, hq⟩ := hwq; rw [hq]; exact below_regrown _ dq osq))
              clear hwq r0 r1
              have r0 := cell_regrown (keep1 B3.out hcl.out)
              have r1 := cell_regrown (keep1 B3.out f2.out)
              go_upto_region 24 with fail
              refine wp_region_quiet_below (by kernel_rfl) (by kernel_rfl) ?_
              repeat (go_big_quiet_step (fail))
              refine wpQuiet_nil ?_
              intro q4 hwq
              have B4 : Hid (Below wf.heap.size wf q4) := hide (next B3.out (by obtain ⟨⟨dq, osq⟩, hq⟩ := hwq; rw [hq]; exact below_regrown _ dq osq))
              clear hwq r0 r1
              have r0 := cell_regrown (keep1 B4.out hcl.out)
              have r1 := cell_regrown (keep1 B4.out f3.out)
              have r2 := cell_regrown (keep1 B4.out f4.out)
              go_upto_region 26 with fail
              refine wp_region_quiet_below (by kernel_rfl) (by kernel_rfl) ?_
              repeat (go_big_quiet_step (fail))
              refine wpQuiet_nil ?_
              intro q5 hwq
              have B5 : Hid (Below wf.heap.size wf q5) := hide (next B4.out (by obtain ⟨⟨dq, osq⟩, hq⟩ := hwq; rw [hq]; exact below_regrown _ dq osq))
              clear hwq r0 r1 r2
              go_wp2_with fail
              refine ⟨⟨j + 1, _, _, _, _, hlt, rfl, rfl, rfl, rfl, rfl, hnx, B5⟩, ?_⟩
              rw [hm1.out, hm2.out]; omega
          · rcases Int.lt_trichotomy y md with cb | cb | cb
            · have a1 : ¬ y < sv := by omega
              have a2 : (y == sv) = true := by simp; omega
              have a3 : y < md := by omega
              have a4 : ¬ md < y := by omega
              clear ca cb
              have hnx : Hid (p + 0 = (ns.take (j + 1)).countP (fun y => decide (y < sv)) ∧ q + 1 = (ns.take (j + 1)).countP (fun y => y == sv) ∧ u + 1 = (ns.take (j + 1)).countP (fun y => decide (y < md)) ∧ v + 0 = (ns.take (j + 1)).countP (fun y => decide (md < y))) := hide ⟨by rw [g1.out, ← hcn.out.1]; simp [a1], by rw [g2.out, ← hcn.out.2.1]; simp [a2], by rw [g3.out, ← hcn.out.2.2.1]; simp [a3], by rw [g4.out, ← hcn.out.2.2.2]; simp [a4]⟩
              have r0 := cell_regrown (keep1 hB.out hcl.out)
              have r1 := cell_regrown (keep1 hB.out f1.out)
              go_upto_region 18 with fail
              refine wp_region_quiet_below (by kernel_rfl) (by kernel_rfl) ?_
              repeat (go_big_quiet_step (fail))
              refine wpQuiet_nil ?_
              intro q1 hwq
              have B1 : Hid (Below wf.heap.size wf q1) := hide (next hB.out (by obtain ⟨⟨dq, osq⟩, hq⟩ := hwq; rw [hq]; exact below_regrown _ dq osq))
              clear hwq r0 r1
              have r0 := cell_regrown (keep1 B1.out hcl.out)
              have r1 := cell_regrown (keep1 B1.out f1.out)
              go_upto_region 20 with fail
              refine wp_region_quiet_below (by kernel_rfl) (by kernel_rfl) ?_
              repeat (go_big_quiet_step (fail))
              refine wpQuiet_nil ?_
              intro q2 hwq
              have B2 : Hid (Below wf.heap.size wf q2) := hide (next B1.out (by obtain ⟨⟨dq, osq⟩, hq⟩ := hwq; rw [hq]; exact below_regrown _ dq osq))
              clear hwq r0 r1
              have r0 := cell_regrown (keep1 B2.out hcl.out)
              have r1 := cell_regrown (keep1 B2.out f2.out)
              go_upto_region 22 with fail
              refine wp_region_quiet_below (by kernel_rfl) (by kernel_rfl) ?_
              repeat (go_big_quiet_step (fail))
              refine wpQuiet_nil ?_
              intro q3 hwq
              have B3 : Hid (Below wf.heap.size wf q3) := hide (next B2.out (by obtain ⟨⟨dq, osq⟩, hq⟩ := hwq; rw [hq]; exact below_regrown _ dq osq))
              clear hwq r0 r1
              have r0 := cell_regrown (keep1 B3.out hcl.out)
              have r1 := cell_regrown (keep1 B3.out f2.out)
              go_upto_region 24 with fail
              refine wp_region_quiet_below (by kernel_rfl) (by kernel_rfl) ?_
              repeat (go_big_quiet_step (fail))
              refine wpQuiet_nil ?_
              intro q4 hwq
              have B4 : Hid (Below wf.heap.size wf q4) := hide (next B3.out (by obtain ⟨⟨dq, osq⟩, hq⟩ := hwq; rw [hq]; exact below_regrown _ dq osq))
              clear hwq r0 r1
              have r0 := cell_regrown (keep1 B4.out hcl.out)
              have r1 := cell_regrown (keep1 B4.out f3.out)
              have r2 := cell_regrown (keep1 B4.out f4.out)
              go_upto_region 26 with fail
              refine wp_region_quiet_below (by kernel_rfl) (by kernel_rfl) ?_
              repeat (go_big_quiet_step (fail))
              refine wpQuiet_nil ?_
              intro q5 hwq
              have B5 : Hid (Below wf.heap.size wf q5) := hide (next B4.out (by obtain ⟨⟨dq, osq⟩, hq⟩ := hwq; rw [hq]; exact below_regrown _ dq osq))
              clear hwq r0 r1 r2
              go_wp2_with fail
              refine ⟨⟨j + 1, _, _, _, _, hlt, rfl, rfl, rfl, rfl, rfl, hnx, B5⟩, ?_⟩
              rw [hm1.out, hm2.out]; omega
            · have a1 : ¬ y < sv := by omega
              have a2 : (y == sv) = true := by simp; omega
              have a3 : ¬ y < md := by omega
              have a4 : ¬ md < y := by omega
              clear ca cb
              have hnx : Hid (p + 0 = (ns.take (j + 1)).countP (fun y => decide (y < sv)) ∧ q + 1 = (ns.take (j + 1)).countP (fun y => y == sv) ∧ u + 0 = (ns.take (j + 1)).countP (fun y => decide (y < md)) ∧ v + 0 = (ns.take (j + 1)).countP (fun y => decide (md < y))) := hide ⟨by rw [g1.out, ← hcn.out.1]; simp [a1], by rw [g2.out, ← hcn.out.2.1]; simp [a2], by rw [g3.out, ← hcn.out.2.2.1]; simp [a3], by rw [g4.out, ← hcn.out.2.2.2]; simp [a4]⟩
              have r0 := cell_regrown (keep1 hB.out hcl.out)
              have r1 := cell_regrown (keep1 hB.out f1.out)
              go_upto_region 18 with fail
              refine wp_region_quiet_below (by kernel_rfl) (by kernel_rfl) ?_
              repeat (go_big_quiet_step (fail))
              refine wpQuiet_nil ?_
              intro q1 hwq
              have B1 : Hid (Below wf.heap.size wf q1) := hide (next hB.out (by obtain ⟨⟨dq, osq⟩, hq⟩ := hwq; rw [hq]; exact below_regrown _ dq osq))
              clear hwq r0 r1
              have r0 := cell_regrown (keep1 B1.out hcl.out)
              have r1 := cell_regrown (keep1 B1.out f1.out)
              go_upto_region 20 with fail
              refine wp_region_quiet_below (by kernel_rfl) (by kernel_rfl) ?_
              repeat (go_big_quiet_step (fail))
              refine wpQuiet_nil ?_
              intro q2 hwq
              have B2 : Hid (Below wf.heap.size wf q2) := hide (next B1.out (by obtain ⟨⟨dq, osq⟩, hq⟩ := hwq; rw [hq]; exact below_regrown _ dq osq))
              clear hwq r0 r1
              have r0 := cell_regrown (keep1 B2.out hcl.out)
              have r1 := cell_regrown (keep1 B2.out f2.out)
              go_upto_region 22 with fail
              refine wp_region_quiet_below (by kernel_rfl) (by kernel_rfl) ?_
              repeat (go_big_quiet_step (fail))
              refine wpQuiet_nil ?_
              intro q3 hwq
              have B3 : Hid (Below wf.heap.size wf q3) := hide (next B2.out (by obtain ⟨⟨dq, osq⟩, hq⟩ := hwq; rw [hq]; exact below_regrown _ dq osq))
              clear hwq r0 r1
              have r0 := cell_regrown (keep1 B3.out hcl.out)
              have r1 := cell_regrown (keep1 B3.out f2.out)
              go_upto_region 24 with fail
              refine wp_region_quiet_below (by kernel_rfl) (by kernel_rfl) ?_
              repeat (go_big_quiet_step (fail))
              refine wpQuiet_nil ?_
              intro q4 hwq
              have B4 : Hid (Below wf.heap.size wf q4) := hide (next B3.out (by obtain ⟨⟨dq, osq⟩, hq⟩ := hwq; rw [hq]; exact below_regrown _ dq osq))
              clear hwq r0 r1
              have r0 := cell_regrown (keep1 B4.out hcl.out)
              have r1 := cell_regrown (keep1 B4.out f3.out)
              have r2 := cell_regrown (keep1 B4.out f4.out)
              go_upto_region 26 with fail
              refine wp_region_quiet_below (by kernel_rfl) (by kernel_rfl) ?_
              repeat (go_big_quiet_step (fail))
              refine wpQuiet_nil ?_
              intro q5 hwq
              have B5 : Hid (Below wf.heap.size wf q5) := hide (next B4.out (by obtain ⟨⟨dq, osq⟩, hq⟩ := hwq; rw [hq]; exact below_regrown _ dq osq))
              clear hwq r0 r1 r2
              go_wp2_with fail
              refine ⟨⟨j + 1, _, _, _, _, hlt, rfl, rfl, rfl, rfl, rfl, hnx, B5⟩, ?_⟩
              rw [hm1.out, hm2.out]; omega
            · have a1 : ¬ y < sv := by omega
              have a2 : (y == sv) = true := by simp; omega
              have a3 : ¬ y < md := by omega
              have a4 : md < y := by omega
              clear ca cb
              have hnx : Hid (p + 0 = (ns.take (j + 1)).countP (fun y => decide (y < sv)) ∧ q + 1 = (ns.take (j + 1)).countP (fun y => y == sv) ∧ u + 0 = (ns.take (j + 1)).countP (fun y => decide (y < md)) ∧ v + 1 = (ns.take (j + 1)).countP (fun y => decide (md < y))) := hide ⟨by rw [g1.out, ← hcn.out.1]; simp [a1], by rw [g2.out, ← hcn.out.2.1]; simp [a2], by rw [g3.out, ← hcn.out.2.2.1]; simp [a3], by rw [g4.out, ← hcn.out.2.2.2]; simp [a4]⟩
              have r0 := cell_regrown (keep1 hB.out hcl.out)
              have r1 := cell_regrown (keep1 hB.out f1.out)
              go_upto_region 18 with fail
              refine wp_region_quiet_below (by kernel_rfl) (by kernel_rfl) ?_
              repeat (go_big_quiet_step (fail))
              refine wpQuiet_nil ?_
              intro q1 hwq
              have B1 : Hid (Below wf.heap.size wf q1) := hide (next hB.out (by obtain ⟨⟨dq, osq⟩, hq⟩ := hwq; rw [hq]; exact below_regrown _ dq osq))
              clear hwq r0 r1
              have r0 := cell_regrown (keep1 B1.out hcl.out)
              have r1 := cell_regrown (keep1 B1.out f1.out)
              go_upto_region 20 with fail
              refine wp_region_quiet_below (by kernel_rfl) (by kernel_rfl) ?_
              repeat (go_big_quiet_step (fail))
              refine wpQuiet_nil ?_
              intro q2 hwq
              have B2 : Hid (Below wf.heap.size wf q2) := hide (next B1.out (by obtain ⟨⟨dq, osq⟩, hq⟩ := hwq; rw [hq]; exact below_regrown _ dq osq))
              clear hwq r0 r1
              have r0 := cell_regrown (keep1 B2.out hcl.out)
              have r1 := cell_regrown (keep1 B2.out f2.out)
              go_upto_region 22 with fail
              refine wp_region_quiet_below (by kernel_rfl) (by kernel_rfl) ?_
              repeat (go_big_quiet_step (fail))
              refine wpQuiet_nil ?_
              intro q3 hwq
              have B3 : Hid (Below wf.heap.size wf q3) := hide (next B2.out (by obtain ⟨⟨dq, osq⟩, hq⟩ := hwq; rw [hq]; exact below_regrown _ dq osq))
              clear hwq r0 r1
              have r0 := cell_regrown (keep1 B3.out hcl.out)
              have r1 := cell_regrown (keep1 B3.out f2.out)
              go_upto_region 24 with fail
              refine wp_region_quiet_below (by kernel_rfl) (by kernel_rfl) ?_
              repeat (go_big_quiet_step (fail))
              refine wpQuiet_nil ?_
              intro q4 hwq
              have B4 : Hid (Below wf.heap.size wf q4) := hide (next B3.out (by obtain ⟨⟨dq, osq⟩, hq⟩ := hwq; rw [hq]; exact below_regrown _ dq osq))
              clear hwq r0 r1
              have r0 := cell_regrown (keep1 B4.out hcl.out)
              have r1 := cell_regrown (keep1 B4.out f3.out)
              have r2 := cell_regrown (keep1 B4.out f4.out)
              go_upto_region 26 with fail
              refine wp_region_quiet_below (by kernel_rfl) (by kernel_rfl) ?_
              repeat (go_big_quiet_step (fail))
              refine wpQuiet_nil ?_
              intro q5 hwq
              have B5 : Hid (Below wf.heap.size wf q5) := hide (next B4.out (by obtain ⟨⟨dq, osq⟩, hq⟩ := hwq; rw [hq]; exact below_regrown _ dq osq))
              clear hwq r0 r1 r2
              go_wp2_with fail
              refine ⟨⟨j + 1, _, _, _, _, hlt, rfl, rfl, rfl, rfl, rfl, hnx, B5⟩, ?_⟩
              rw [hm1.out, hm2.out]; omega
          · rcases Int.lt_trichotomy y md with cb | cb | cb
            · have a1 : ¬ y < sv := by omega
              have a2 : (y == sv) = false := by simp; omega
              have a3 : y < md := by omega
              have a4 : ¬ md < y := by omega
              clear ca cb
              have hnx : Hid (p + 0 = (ns.take (j + 1)).countP (fun y => decide (y < sv)) ∧ q + 0 = (ns.take (j + 1)).countP (fun y => y == sv) ∧ u + 1 = (ns.take (j + 1)).countP (fun y => decide (y < md)) ∧ v + 0 = (ns.take (j + 1)).countP (fun y => decide (md < y))) := hide ⟨by rw [g1.out, ← hcn.out.1]; simp [a1], by rw [g2.out, ← hcn.out.2.1]; simp [a2], by rw [g3.out, ← hcn.out.2.2.1]; simp [a3], by rw [g4.out, ← hcn.out.2.2.2]; simp [a4]⟩
              have r0 := cell_regrown (keep1 hB.out hcl.out)
              have r1 := cell_regrown (keep1 hB.out f1.out)
              go_upto_region 18 with fail
              refine wp_region_quiet_below (by kernel_rfl) (by kernel_rfl) ?_
              repeat (go_big_quiet_step (fail))
              refine wpQuiet_nil ?_
              intro q1 hwq
              have B1 : Hid (Below wf.heap.size wf q1) := hide (next hB.out (by obtain ⟨⟨dq, osq⟩, hq⟩ := hwq; rw [hq]; exact below_regrown _ dq osq))
              clear hwq r0 r1
              have r0 := cell_regrown (keep1 B1.out hcl.out)
              have r1 := cell_regrown (keep1 B1.out f1.out)
              go_upto_region 20 with fail
              refine wp_region_quiet_below (by kernel_rfl) (by kernel_rfl) ?_
              repeat (go_big_quiet_step (fail))
              refine wpQuiet_nil ?_
              intro q2 hwq
              have B2 : Hid (Below wf.heap.size wf q2) := hide (next B1.out (by obtain ⟨⟨dq, osq⟩, hq⟩ := hwq; rw [hq]; exact below_regrown _ dq osq))
              clear hwq r0 r1
              have r0 := cell_regrown (keep1 B2.out hcl.out)
              have r1 := cell_regrown (keep1 B2.out f2.out)
              go_upto_region 22 with fail
              refine wp_region_quiet_below (by kernel_rfl) (by kernel_rfl) ?_
              repeat (go_big_quiet_step (fail))
              refine wpQuiet_nil ?_
              intro q3 hwq
              have B3 : Hid (Below wf.heap.size wf q3) := hide (next B2.out (by obtain ⟨⟨dq, osq⟩, hq⟩ := hwq; rw [hq]; exact below_regrown _ dq osq))
              clear hwq r0 r1
              have r0 := cell_regrown (keep1 B3.out hcl.out)
              have r1 := cell_regrown (keep1 B3.out f2.out)
              go_upto_region 24 with fail
              refine wp_region_quiet_below (by kernel_rfl) (by kernel_rfl) ?_
              repeat (go_big_quiet_step (fail))
              refine wpQuiet_nil ?_
              intro q4 hwq
              have B4 : Hid (Below wf.heap.size wf q4) := hide (next B3.out (by obtain ⟨⟨dq, osq⟩, hq⟩ := hwq; rw [hq]; exact below_regrown _ dq osq))
              clear hwq r0 r1
              have r0 := cell_regrown (keep1 B4.out hcl.out)
              have r1 := cell_regrown (keep1 B4.out f3.out)
              have r2 := cell_regrown (keep1 B4.out f4.out)
              go_upto_region 26 with fail
              refine wp_region_quiet_below (by kernel_rfl) (by kernel_rfl) ?_
              repeat (go_big_quiet_step (fail))
              refine wpQuiet_nil ?_
              intro q5 hwq
              have B5 : Hid (Below wf.heap.size wf q5) := hide (next B4.out (by obtain ⟨⟨dq, osq⟩, hq⟩ := hwq; rw [hq]; exact below_regrown _ dq osq))
              clear hwq r0 r1 r2
              go_wp2_with fail
              refine ⟨⟨j + 1, _, _, _, _, hlt, rfl, rfl, rfl, rfl, rfl, hnx, B5⟩, ?_⟩
              rw [hm1.out, hm2.out]; omega
            · have a1 : ¬ y < sv := by omega
              have a2 : (y == sv) = false := by simp; omega
              have a3 : ¬ y < md := by omega
              have a4 : ¬ md < y := by omega
              clear ca cb
              have hnx : Hid (p + 0 = (ns.take (j + 1)).countP (fun y => decide (y < sv)) ∧ q + 0 = (ns.take (j + 1)).countP (fun y => y == sv) ∧ u + 0 = (ns.take (j + 1)).countP (fun y => decide (y < md)) ∧ v + 0 = (ns.take (j + 1)).countP (fun y => decide (md < y))) := hide ⟨by rw [g1.out, ← hcn.out.1]; simp [a1], by rw [g2.out, ← hcn.out.2.1]; simp [a2], by rw [g3.out, ← hcn.out.2.2.1]; simp [a3], by rw [g4.out, ← hcn.out.2.2.2]; simp [a4]⟩
              have r0 := cell_regrown (keep1 hB.out hcl.out)
              have r1 := cell_regrown (keep1 hB.out f1.out)
              go_upto_region 18 with fail
              refine wp_region_quiet_below (by kernel_rfl) (by kernel_rfl) ?_
              repeat (go_big_quiet_step (fail))
              refine wpQuiet_nil ?_
              intro q1 hwq
              have B1 : Hid (Below wf.heap.size wf q1) := hide (next hB.out (by obtain ⟨⟨dq, osq⟩, hq⟩ := hwq; rw [hq]; exact below_regrown _ dq osq))
              clear hwq r0 r1
              have r0 := cell_regrown (keep1 B1.out hcl.out)
              have r1 := cell_regrown (keep1 B1.out f1.out)
              go_upto_region 20 with fail
              refine wp_region_quiet_below (by kernel_rfl) (by kernel_rfl) ?_
              repeat (go_big_quiet_step (fail))
              refine wpQuiet_nil ?_
              intro q2 hwq
              have B2 : Hid (Below wf.heap.size wf q2) := hide (next B1.out (by obtain ⟨⟨dq, osq⟩, hq⟩ := hwq; rw [hq]; exact below_regrown _ dq osq))
              clear hwq r0 r1
              have r0 := cell_regrown (keep1 B2.out hcl.out)
              have r1 := cell_regrown (keep1 B2.out f2.out)
              go_upto_region 22 with fail
              refine wp_region_quiet_below (by kernel_rfl) (by kernel_rfl) ?_
              repeat (go_big_quiet_step (fail))
              refine wpQuiet_nil ?_
              intro q3 hwq
              have B3 : Hid (Below wf.heap.size wf q3) := hide (next B2.out (by obtain ⟨⟨dq, osq⟩, hq⟩ := hwq; rw [hq]; exact below_regrown _ dq osq))
              clear hwq r0 r1
              have r0 := cell_regrown (keep1 B3.out hcl.out)
              have r1 := cell_regrown (keep1 B3.out f2.out)
              go_upto_region 24 with fail
              refine wp_region_quiet_below (by kernel_rfl) (by kernel_rfl) ?_
              repeat (go_big_quiet_step (fail))
              refine wpQuiet_nil ?_
              intro q4 hwq
              have B4 : Hid (Below wf.heap.size wf q4) := hide (next B3.out (by obtain ⟨⟨dq, osq⟩, hq⟩ := hwq; rw [hq]; exact below_regrown _ dq osq))
              clear hwq r0 r1
              have r0 := cell_regrown (keep1 B4.out hcl.out)
              have r1 := cell_regrown (keep1 B4.out f3.out)
              have r2 := cell_regrown (keep1 B4.out f4.out)
              go_upto_region 26 with fail
              refine wp_region_quiet_below (by kernel_rfl) (by kernel_rfl) ?_
              repeat (go_big_quiet_step (fail))
              refine wpQuiet_nil ?_
              intro q5 hwq
              have B5 : Hid (Below wf.heap.size wf q5) := hide (next B4.out (by obtain ⟨⟨dq, osq⟩, hq⟩ := hwq; rw [hq]; exact below_regrown _ dq osq))
              clear hwq r0 r1 r2
              go_wp2_with fail
              refine ⟨⟨j + 1, _, _, _, _, hlt, rfl, rfl, rfl, rfl, rfl, hnx, B5⟩, ?_⟩
              rw [hm1.out, hm2.out]; omega
            · have a1 : ¬ y < sv := by omega
              have a2 : (y == sv) = false := by simp; omega
              have a3 : ¬ y < md := by omega
              have a4 : md < y := by omega
              clear ca cb
              have hnx : Hid (p + 0 = (ns.take (j + 1)).countP (fun y => decide (y < sv)) ∧ q + 0 = (ns.take (j + 1)).countP (fun y => y == sv) ∧ u + 0 = (ns.take (j + 1)).countP (fun y => decide (y < md)) ∧ v + 1 = (ns.take (j + 1)).countP (fun y => decide (md < y))) := hide ⟨by rw [g1.out, ← hcn.out.1]; simp [a1], by rw [g2.out, ← hcn.out.2.1]; simp [a2], by rw [g3.out, ← hcn.out.2.2.1]; simp [a3], by rw [g4.out, ← hcn.out.2.2.2]; simp [a4]⟩
              have r0 := cell_regrown (keep1 hB.out hcl.out)
              have r1 := cell_regrown (keep1 hB.out f1.out)
              go_upto_region 18 with fail
              refine wp_region_quiet_below (by kernel_rfl) (by kernel_rfl) ?_
              repeat (go_big_quiet_step (fail))
              refine wpQuiet_nil ?_
              intro q1 hwq
              have B1 : Hid (Below wf.heap.size wf q1) := hide (next hB.out (by obtain ⟨⟨dq, osq⟩, hq⟩ := hwq; rw [hq]; exact below_regrown _ dq osq))
              clear hwq r0 r1
              have r0 := cell_regrown (keep1 B1.out hcl.out)
              have r1 := cell_regrown (keep1 B1.out f1.out)
              go_upto_region 20 with fail
              refine wp_region_quiet_below (by kernel_rfl) (by kernel_rfl) ?_
              repeat (go_big_quiet_step (fail))
              refine wpQuiet_nil ?_
              intro q2 hwq
              have B2 : Hid (Below wf.heap.size wf q2) := hide (next B1.out (by obtain ⟨⟨dq, osq⟩, hq⟩ := hwq; rw [hq]; exact below_regrown _ dq osq))
              clear hwq r0 r1
              have r0 := cell_regrown (keep1 B2.out hcl.out)
              have r1 := cell_regrown (keep1 B2.out f2.out)
              go_upto_region 22 with fail
              refine wp_region_quiet_below (by kernel_rfl) (by kernel_rfl) ?_
              repeat (go_big_quiet_step (fail))
              refine wpQuiet_nil ?_
              intro q3 hwq
              have B3 : Hid (Below wf.heap.size wf q3) := hide (next B2.out (by obtain ⟨⟨dq, osq⟩, hq⟩ := hwq; rw [hq]; exact below_regrown _ dq osq))
              clear hwq r0 r1
              have r0 := cell_regrown (keep1 B3.out hcl.out)
              have r1 := cell_regrown (keep1 B3.out f2.out)
              go_upto_region 24 with fail
              refine wp_region_quiet_below (by kernel_rfl) (by kernel_rfl) ?_
              repeat (go_big_quiet_step (fail))
              refine wpQuiet_nil ?_
              intro q4 hwq
              have B4 : Hid (Below wf.heap.size wf q4) := hide (next B3.out (by obtain ⟨⟨dq, osq⟩, hq⟩ := hwq; rw [hq]; exact below_regrown _ dq osq))
              clear hwq r0 r1
              have r0 := cell_regrown (keep1 B4.out hcl.out)
              have r1 := cell_regrown (keep1 B4.out f3.out)
              have r2 := cell_regrown (keep1 B4.out f4.out)
              go_upto_region 26 with fail
              refine wp_region_quiet_below (by kernel_rfl) (by kernel_rfl) ?_
              repeat (go_big_quiet_step (fail))
              refine wpQuiet_nil ?_
              intro q5 hwq
              have B5 : Hid (Below wf.heap.size wf q5) := hide (next B4.out (by obtain ⟨⟨dq, osq⟩, hq⟩ := hwq; rw [hq]; exact below_regrown _ dq osq))
              clear hwq r0 r1 r2
              go_wp2_with fail
              refine ⟨⟨j + 1, _, _, _, _, hlt, rfl, rfl, rfl, rfl, rfl, hnx, B5⟩, ?_⟩
              rw [hm1.out, hm2.out]; omega
        · obtain rfl : m = j := by omega
          have hmm := hm.out
          have hcn2 := hcn.out
          rw [List.take_of_length_le (by omega)] at hcn2
          obtain ⟨k1, k2', k3, k4⟩ := hcn2
          have hR := RK.out
          have hS1 := RS1.out
          have hS2 := RS2.out
          have hJ := hJJ.out
          rw [← k1, ← k2'] at hR
          rw [← k3] at hS1
          rw [← k4] at hS2
          obtain ⟨H, hH⟩ : ∃ H, m / 2 = H := ⟨_, rfl⟩
          rw [hH] at hS1 hS2
          have hq : ((m : Nat) : Int).tdiv 2 = (H : Int) := by rw [← hH]; rfl
          have x1 : (p : Int) < J := by omega
          have x2 : J ≤ (p : Int) + (q : Int) := by omega
          have x6 : (H : Int) ≤ 300 := by omega
          have x3 : (u : Int) ≤ (H : Int) := by omega
          have x4 : (v : Int) ≤ (H : Int) := by omega
          have x5 : (p : Int) + (q : Int) ≤ 600 := by
            have c1 := List.countP_le_length (p := fun y => decide (y < sv)) (l := ns)
            have c2 := List.countP_le_length (p := fun y => y == sv) (l := ns)
            rw [← k1] at c1
            rw [← k2'] at c2
            omega
          have y1 := keep1 hB.out (NO.out.at' 1)
          have y2 := keep1 hB.out (NM.out.at' 1)
          have y3 := keep1 hB.out (NH.out.at' 1)
          have KE := hide (next NK.out hB.out)
          clear k1 k2' k3 k4 hR hS1 hS2 hmm hcn hB hH hlt hJ
          go_wp2_with fail
          go_ret
          exact ⟨rfl, KE.out⟩
end Go.Proofs.YtchphbclaapfhaaGreatDoor
