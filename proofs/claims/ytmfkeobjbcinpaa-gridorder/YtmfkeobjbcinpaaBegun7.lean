/- The fixed calls ahead of each law answer as the document fixes them: a table of texts, its iterators among them. Proved of the Go text. -/
import Derived.Test.YtmfkeobjbcinpaaRg7S
import Derived.Test.YtmfkeobjbcinpaaTyp7S
namespace Go.Proofs.Ytmfkeobjbcinpaa
open Go.RowKit Go.Shelf Go.Sort Go.Maps
set_option linter.unusedVariables false
attribute [local go_sem] Oper.semAt_some

abbrev sa : ByteArray := ⟨#[97]⟩
abbrev sb : ByteArray := ⟨#[98]⟩
abbrev sc : ByteArray := ⟨#[99]⟩
abbrev seqS : TypeId := 85
theorem run_equalIn_nilS (d : Nat) (f : Fn) (x y : Array Value) (w : World) : (Op.equalIn (d + 1) seqS (.func f x y) .nilFunc).run Try.prog w = .ok false w := by
  simp [Op.equalIn, run_underlying Try.underlying85]
theorem func_nilS (f : Fn) (x y : Array Value) (w : World) : (binOp .eql seqS (.func f x y) .nilFunc).run Try.prog w = .ok (.bool false) w := by
  have h : (Op.equal seqS (.func f x y) .nilFunc).run Try.prog w = .ok false w := run_equalIn_nilS 9999 f x y w
  simp only [binOp]
  simp [h]
/-- The texts that have come, one behind the other. -/
def cat (s : ByteArray) {M : List (Sp × ByteArray)} (pre : List (ElS M)) : ByteArray := pre.foldl (fun s x => s ++ x.1.2) s
theorem cat_snoc (s : ByteArray) {M : List (Sp × ByteArray)} (pre : List (ElS M)) (x : ElS M) : cat s (pre ++ [x]) = cat s pre ++ x.1.2 := by simp [cat]
abbrev bM : Tb ByteArray := [((0, 0), sa), ((0, 1), sb), ((1, 0), sc)]
abbrev bO : Tb ByteArray := [((0, 0), sa), ((1, 0), sc)]
theorem bM_size : ∀ x : ElS bM, x.1.2.size = 1 ∧ x.1.1.1 ≤ 1 := by
  rintro ⟨x, hx⟩
  simp only [bM, List.mem_cons, List.not_mem_nil, or_false] at hx
  rcases hx with rfl | rfl | rfl <;> exact ⟨rfl, by simp⟩
theorem bO_size : ∀ x : ElS bO, x.1.2.size = 1 := by
  rintro ⟨x, hx⟩
  simp only [bO, List.mem_cons, List.not_mem_nil, or_false] at hx
  rcases hx with rfl | rfl <;> rfl
theorem cat_size {M : List (Sp × ByteArray)} (hM : ∀ x : ElS M, x.1.2.size = 1) (s : ByteArray) (pre : List (ElS M)) : (cat s pre).size = s.size + pre.length := by
  induction pre generalizing s with
  | nil => rfl
  | cons x r ih =>
    have : cat s (x :: r) = cat (s ++ x.1.2) r := rfl
    rw [this, ih, ByteArray.size_append, hM x, List.length_cons]
    omega

theorem obj_keep {W W' : World} {D : Nat} {o : Obj} (h : W.heap[D]? = some o) (hb : Below W.heap.size W W') : W'.heap[D]? = some o := (hb.block D (Array.getElem?_eq_some_iff.1 h).1).trans h
theorem obj_kept {W W' : World} {D : Nat} {o : Obj} {row : Option Nat} (h : W.heap[D]? = some o) (hg : W.grownBy W' row) (hne : some D ≠ row) : W'.heap[D]? = some o := (hg.block D (Array.getElem?_eq_some_iff.1 h).1 hne).trans h
set_option maxHeartbeats 4000000 in
set_option maxRecDepth 100000 in
theorem begun_any (w : World) :
    Calls Try.prog 7 #[] w fun e w' => e = .returned (.bool true) ∧ Below w.heap.size w w' := by
  have hfn := func_nilS
  have HP := hide place_any
  refine (callsIn_wide (n := 12)).1 (callsIn_of_wp_marks Try.func7 rfl trivial (wpIn_wide.2 ?_) rfl)
  simp only [Try.ntmps7, List.size_toArray, List.length_nil, Nat.reduceSub, Array.replicate_succ, Array.replicate_zero, List.push_toArray, List.append_toArray, List.nil_append, List.cons_append]
  try simp only [List.append]
  go_wp2_with fail
  refine (tnewS _).mono ?_
  rintro e w1 ⟨Bt, b, rfl, hBt, hb, T, hb1⟩
  have R := hide ((Blk.new w #[.bool false] 4).keep hb1)
  have Bw := hide (next (step (Below.refl w.heap.size w) (.cells #[.bool false] 4)) hb1)
  simp only [World.size_alloc] at hBt hb
  replace T := hide T
  clear hb1
  go_wp2_with fail
  refine (HP.out 1 0 _).mono ?_
  rintro e w2p ⟨rfl, hbw2p⟩
  replace T := hide (T.out.keep hbw2p)
  replace R := hide (R.out.keep hbw2p)
  replace Bw := hide (next Bw.out hbw2p)
  clear hbw2p
  have HS := hide (tsetS (r := 1) (c := 0) T.out ⟨#[99]⟩)
  rw [show setE ([] : Tb ByteArray) (1, 0) = 0 by simp [setE, mayB, hasT, getT], show setL ([] : Tb ByteArray) (1, 0) ⟨#[99]⟩ = [((1, 0), sc)] by simp [setL, setE, mayB, hasT, getT, insT]] at HS
  go_wp2_with fail
  refine HS.out.mono ?_
  rintro e w2 ⟨rfl, Tw2, hgw2⟩
  clear T HS
  have T := hide Tw2
  replace R := hide (R.out.kept hgw2 (by simp; omega))
  replace Bw := hide (Bw.out.grown hgw2 Bw.out.size (fun k e => by cases e; omega))
  clear Tw2 hgw2
  go_wp2_with fail
  refine (HP.out 0 1 _).mono ?_
  rintro e w3p ⟨rfl, hbw3p⟩
  replace T := hide (T.out.keep hbw3p)
  replace R := hide (R.out.keep hbw3p)
  replace Bw := hide (next Bw.out hbw3p)
  clear hbw3p
  have HS := hide (tsetS (r := 0) (c := 1) T.out ⟨#[98]⟩)
  rw [show setE ([((1, 0), sc)] : Tb ByteArray) (0, 1) = 0 by simp [setE, mayB, hasT, getT], show setL ([((1, 0), sc)] : Tb ByteArray) (0, 1) ⟨#[98]⟩ = [((0, 1), sb), ((1, 0), sc)] by simp [setL, setE, mayB, hasT, getT, insT, ltS]] at HS
  go_wp2_with fail
  refine HS.out.mono ?_
  rintro e w3 ⟨rfl, Tw3, hgw3⟩
  clear T HS
  have T := hide Tw3
  replace R := hide (R.out.kept hgw3 (by simp; omega))
  replace Bw := hide (Bw.out.grown hgw3 Bw.out.size (fun k e => by cases e; omega))
  clear Tw3 hgw3
  go_wp2_with fail
  refine (HP.out 0 0 _).mono ?_
  rintro e w4p ⟨rfl, hbw4p⟩
  replace T := hide (T.out.keep hbw4p)
  replace R := hide (R.out.keep hbw4p)
  replace Bw := hide (next Bw.out hbw4p)
  clear hbw4p
  have HS := hide (tsetS (r := 0) (c := 0) T.out ⟨#[97]⟩)
  rw [show setE ([((0, 1), sb), ((1, 0), sc)] : Tb ByteArray) (0, 0) = 0 by simp [setE, mayB, hasT, getT], show setL ([((0, 1), sb), ((1, 0), sc)] : Tb ByteArray) (0, 0) ⟨#[97]⟩ = bM by simp [setL, setE, mayB, hasT, getT, insT, ltS]] at HS
  go_wp2_with fail
  refine HS.out.mono ?_
  rintro e w4 ⟨rfl, Tw4, hgw4⟩
  clear T HS
  have T := hide Tw4
  replace R := hide (R.out.kept hgw4 (by simp; omega))
  replace Bw := hide (Bw.out.grown hgw4 Bw.out.size (fun k e => by cases e; omega))
  clear Tw4 hgw4
  go_wp2_with fail
  refine (HP.out 65536 0 _).mono ?_
  rintro e w5p ⟨rfl, hbw5p⟩
  replace T := hide (T.out.keep hbw5p)
  replace R := hide (R.out.keep hbw5p)
  replace Bw := hide (next Bw.out hbw5p)
  clear hbw5p
  have HS := hide (tsetS (r := 65536) (c := 0) T.out ⟨#[120]⟩)
  rw [show setE (bM : Tb ByteArray) (65536, 0) = 10 by simp [setE, mayB], show setL (bM : Tb ByteArray) (65536, 0) ⟨#[120]⟩ = bM by simp [setL, setE, mayB]] at HS
  go_wp2_with fail
  refine HS.out.mono ?_
  rintro e w5 ⟨rfl, Tw5, hgw5⟩
  clear T HS
  have T := hide Tw5
  replace R := hide (R.out.kept hgw5 (by simp; omega))
  replace Bw := hide (Bw.out.grown hgw5 Bw.out.size (fun k e => by cases e; omega))
  clear Tw5 hgw5
  go_wp2_with fail
  refine (HP.out 0 1 _).mono ?_
  rintro e w6 ⟨rfl, hbw6⟩
  replace T := hide (T.out.keep hbw6)
  replace R := hide (R.out.keep hbw6)
  replace Bw := hide (next Bw.out hbw6)
  clear hbw6
  have HG := hide (tgetS (r := 0) (c := 1) T.out (by unfold wfI; omega) (by unfold wfI; omega))
  rw [show (getT bM (0, 1)).getD (⟨#[]⟩ : ByteArray) = sb by simp [getT], show hasT bM (0, 1) = true by simp [hasT, getT]] at HG
  go_wp2_with fail
  refine HG.out.mono ?_
  rintro e w7 ⟨rfl, hb7⟩
  replace T := hide (T.out.keep hb7)
  replace R := hide (R.out.keep hb7)
  replace Bw := hide (next Bw.out hb7)
  clear hb7 HG
  obtain ⟨hl1, hl2⟩ := T.out.lt
  have hl3 := R.out.lt
  have S := hide (Blk.new w7 #[.string ⟨#[]⟩] 9)
  have zS := Bw.out.size
  have HA := hide (allS_any (T.out.alloc (.cells #[.string ⟨#[]⟩] 9)) (by decide))
  replace R := hide (R.out.alloc (.cells #[.string ⟨#[]⟩] 9))
  replace T := hide (T.out.alloc (.cells #[.string ⟨#[]⟩] 9))
  replace Bw := hide (step Bw.out (.cells #[.string ⟨#[]⟩] 9))
  go_wp2_with fail
  refine HA.out.mono ?_
  rintro e w8 ⟨v1, bs1, rfl, I1, hb8, n1⟩
  replace I1 := hide I1
  replace n1 := hide n1
  have hz8 := hide (show w7.heap.size < w8.heap.size from by have := hb8.size; simp only [World.size_alloc] at this; omega)
  replace T := hide (T.out.keep hb8)
  replace R := hide (R.out.keep hb8)
  replace S := hide (S.out.keep hb8)
  replace Bw := hide (next Bw.out hb8)
  clear hb8 HA
  have HO := hide (overS_big T.out (by decide) 0 0 5 0 (by decide) (by decide) (by decide))
  rw [show (bM.filter fun p => hasA 0 0 5 0 p.1) = bO by decide] at HO
  go_wp2_with fail
  refine HO.out.mono ?_
  rintro e w9 ⟨v2, bs2, rfl, I2, hb9, n2⟩
  replace I2 := hide I2
  replace n2 := hide n2
  replace T := hide (T.out.keep hb9)
  replace R := hide (R.out.keep hb9)
  replace S := hide (S.out.keep hb9)
  replace I1 := hide (I1.out.keep hb9)
  replace Bw := hide (next Bw.out hb9)
  clear hb9 HO
  obtain ⟨lb1, rfl⟩ := itS_func I1.out
  obtain ⟨lb2, rfl⟩ := itS_func I2.out
  have G1 := hide (itS_at 11 (by decide) (by decide) I1.out)
  have zB := Bw.out.size
  have zs7 := S.out.lt
  simp only [World.size_alloc] at n1
  have nS1 : Hid (∀ k ∈ bs1, some k ≠ some w7.heap.size) := hide (fun k hk e => by have := n1.out k hk; cases e; omega)
  have z8 : Hid (w7.heap.size < w8.heap.size) := hide hz8.out
  have nS2 : Hid (∀ k ∈ bs2, some k ≠ some w7.heap.size) := hide (fun k hk e => by have := n2.out k hk; have := z8.out; cases e; omega)
  replace hfn := hide hfn
  have hfn' := hfn.out
  go_wp2_with fail
  clear hfn'
  refine rangeSAB (n := 12) (by decide) 11 12 G1.out (Below.refl _ _) I1.out.1 rfl
    (fun pre W => w9.grownBy W (some w7.heap.size) ∧ Blk W w7.heap.size #[.string (cat ⟨#[]⟩ pre)] 9) (fun c pre W => False)
    (OwnFrom.and (ownFrom_grown w9 _) (Own.from (Blk.own _ _ _) _)) (fun c => ownFrom_pure _ _) ⟨grown_refl _ _, S.out⟩ (fun pre W h => h.1.size) ?assign ?body ?done ?stop
  case assign =>
    intro lo x W K hK
    gi_wp2
    exact hK
  case stop =>
    rintro D c k W hD hk h hK
    exact h.elim
  case body =>
    rintro lo pre x W Bx hlo hr ⟨hg, bk⟩ hBx bX hlt
    obtain ⟨hy1, hr1⟩ := bM_size x
    have hcs := cat_size (fun x => (bM_size x).1) ⟨#[]⟩ pre
    have hsn := hide (cat_snoc ⟨#[]⟩ pre x)
    have hcs2 : (cat ⟨#[]⟩ pre).size ≤ 10 := by rw [hcs, show (⟨#[]⟩ : ByteArray).size = 0 from rfl]; simp at hlt; omega
    obtain ⟨⟨⟨r, c⟩, y⟩, hx⟩ := x
    simp only at hy1 hr1 hsn
    generalize cat ⟨#[]⟩ pre = s at bk hcs2 hsn
    have ck := bk.c1
    have fk := bk.fr 0
    obtain ⟨s0, s1⟩ := bX.c2
    simp only at s0 s1
    have hn : ¬ (1 : Int) < r := by omega
    have hadd : s.size + y.size ≤ 9223372036854775807 := by omega
    replace hg := hide hg
    replace bk := hide bk
    clear hcs hr hlt bX hr1
    gi_wp2
    refine ⟨(KeepsOthers.setCell _ _ _).from _, KS.of_grown (grownBy_setCell' W _ _) nS1.out, ⟨grown_set hg.out _, ?_⟩⟩
    rw [hsn.out]
    exact bk.out.set _
  case done =>
    rintro D1 W1 hD1 ⟨hg, bk⟩ hK1
    rw [show cat ⟨#[]⟩ (List.attach bM) = (⟨#[97, 98, 99]⟩ : ByteArray) from rfl] at bk
    have zz := z8.out
    have T1 := hide (T.out.kept hg (by simp; omega) (by simp; omega))
    have R1 := hide (R.out.kept hg (by simp; omega))
    have B1 := hide (grown_is_below Bw.out hg (by omega))
    have G2 := hide (itS_at 11 (by decide) (by decide) (I2.out.same (KS.of_grown hg nS2.out)))
    have L2 := hide (I2.out.same (KS.of_grown hg nS2.out)).1
    have zD := (Array.getElem?_eq_some_iff.1 hK1).1
    have zb : Hid (b < D1) := hide (by have := T.out.lt.2; omega)
    have zt : Hid (w7.heap.size < D1) := hide (by omega)
    have zr : Hid (w.heap.size < D1) := hide (by omega)
    replace bk := hide bk
    replace hK1 := hide hK1
    replace hg := hide hg
    clear T R Bw S I1 G1
    go_wp2_with fail
    refine rangeSB (n := 12) (by decide) 14 G2.out (Below.refl _ _) L2.out rfl
      (fun pre W => W1.grownBy W (some w7.heap.size) ∧ Blk W w7.heap.size #[.string (cat ⟨#[97, 98, 99]⟩ pre)] 9) (fun c pre W => False)
      (OwnFrom.and (ownFrom_grown W1 _) (Own.from (Blk.own _ _ _) _)) (fun c => ownFrom_pure _ _) ⟨grown_refl _ _, bk.out⟩ ?assign ?body ?done ?stop
    case assign =>
      intro lo x W K hK
      gi_wp2
      exact hK
    case stop =>
      rintro D c k W hD hk h hK
      exact h.elim
    case body =>
      rintro lo pre x W hlo hr ⟨hg, bk⟩ hlt
      have hy1 := bO_size x
      have hcs := cat_size bO_size ⟨#[97, 98, 99]⟩ pre
      have hsn := hide (cat_snoc ⟨#[97, 98, 99]⟩ pre x)
      have hcs2 : (cat ⟨#[97, 98, 99]⟩ pre).size ≤ 10 := by rw [hcs, show (⟨#[97, 98, 99]⟩ : ByteArray).size = 3 from rfl]; simp at hlt; omega
      obtain ⟨⟨⟨r, c⟩, y⟩, hx⟩ := x
      simp only at hy1 hsn
      generalize cat ⟨#[97, 98, 99]⟩ pre = s at bk hcs2 hsn
      have ck := bk.c1
      have fk := bk.fr 0
      have hadd : s.size + y.size ≤ 9223372036854775807 := by omega
      replace hg := hide hg
      replace bk := hide bk
      clear hcs hr hlt
      gi_wp2
      refine ⟨(KeepsOthers.setCell _ _ _).from _, KS.of_grown (grownBy_setCell' W _ _) nS2.out, ⟨grown_set hg.out _, ?_⟩⟩
      rw [hsn.out]
      exact bk.out.set _
    case done =>
      rintro D2 W2 hD2 ⟨hg2, bk2⟩ hK2
      rw [show cat ⟨#[97, 98, 99]⟩ (List.attach bO) = (⟨#[97, 98, 99, 97, 99]⟩ : ByteArray) from rfl] at bk2
      have z1 := zr.out
      have z2 := zt.out
      have z3 := zb.out
      have zD2 := hide (show D1 < D2 by omega)
      have T := hide (T1.out.kept hg2 (by simp; omega) (by simp; omega))
      have R := hide (R1.out.kept hg2 (by simp; omega))
      have Bw := hide (grown_is_below B1.out hg2 (by omega))
      have S := hide bk2
      have K1 := hide ((hg2.block D1 zD (by simp; omega)).trans hK1.out)
      have K2 := hide hK2
      clear hK1 hK2 hg2 bk2 bk T1 R1 B1
      have u0 := S.out.c1
      have HL := hide (tlenS T.out)
      have HD1 := hide (fun W (h : TabS W Bt b bM) => tdropS (r := 0) (c := 1) h (by unfold wfI; omega) (by unfold wfI; omega))
      rw [show hasT bM (0, 1) = true by simp [hasT, getT], show delT bM (0, 1) = bO by decide] at HD1
      have HD2 := hide (fun W (h : TabS W Bt b bO) => tdropS (r := 0) (c := 1) h (by unfold wfI; omega) (by unfold wfI; omega))
      rw [show hasT bO (0, 1) = false by simp [hasT, getT], show delT bO (0, 1) = bO by decide] at HD2
      clear z1 z2 z3
      go_wp2_with fail
      refine HL.out.mono ?_
      rintro e w' ⟨rfl, rfl⟩
      clear u0
      go_wp2_with fail
      refine (HP.out 0 1 _).mono ?_
      rintro e w10 ⟨rfl, hb9⟩
      replace T := hide (T.out.keep hb9)
      replace R := hide (R.out.keep hb9)
      replace Bw := hide (next Bw.out hb9)
      replace K1 := hide (obj_keep K1.out hb9)
      replace K2 := hide (obj_keep K2.out hb9)
      clear hb9
      go_wp2_with fail
      refine (HD1.out _ T.out).mono ?_
      rintro e w11 ⟨rfl, T', hg⟩
      clear T
      have T := hide T'
      replace R := hide (R.out.kept hg (by simp; omega))
      replace Bw := hide (Bw.out.grown hg Bw.out.size (fun k e => by cases e; omega))
      replace K1 := hide (obj_kept K1.out hg (by have := zb.out; simp; omega))
      replace K2 := hide (obj_kept K2.out hg (by have := zb.out; have := zD2.out; simp; omega))
      clear T' hg
      go_wp2_with fail
      refine (HP.out 0 1 _).mono ?_
      rintro e w12 ⟨rfl, hb9⟩
      replace T := hide (T.out.keep hb9)
      replace R := hide (R.out.keep hb9)
      replace Bw := hide (next Bw.out hb9)
      replace K1 := hide (obj_keep K1.out hb9)
      replace K2 := hide (obj_keep K2.out hb9)
      clear hb9
      go_wp2_with fail
      refine (HD2.out _ T.out).mono ?_
      rintro e w13 ⟨rfl, T', hg⟩
      clear T
      have T := hide T'
      replace R := hide (R.out.kept hg (by simp; omega))
      replace Bw := hide (Bw.out.grown hg Bw.out.size (fun k e => by cases e; omega))
      replace K1 := hide (obj_kept K1.out hg (by have := zb.out; simp; omega))
      replace K2 := hide (obj_kept K2.out hg (by have := zb.out; have := zD2.out; simp; omega))
      clear T' hg
      have fr := R.out.fr 0
      have fc := R.out.c1
      go_wp2_with fail
      have KO := KeepsOthers.setCell w13 ⟨w.heap.size, 0, none⟩ (.bool true)
      have hA := KO.same D2 _ K2.out rfl
      have hB := KO.same D1 _ K1.out rfl
      refine ⟨by simp, .inl ⟨_, _, rfl, run_takeDeferred hA, ?_⟩⟩
      have d12 := zD2.out
      have d1 := zr.out
      have hB2 := (World.putObj_heap_other (w := w13.setCell ⟨w.heap.size, 0, none⟩ (.bool true)) (o := .deferred none) (show D1 ≠ D2 by omega)).trans hB
      refine ⟨by simp, .inl ⟨_, _, rfl, run_takeDeferred hB2, ?_⟩⟩
      have hc := (((R.out.set (.bool true)).kept (grownBy_putObj' _ D2 (.deferred none)) (by simp; omega)).kept (grownBy_putObj' _ D1 (.deferred none)) (by simp; omega)).c1
      refine ⟨.bool true, ?_, rfl, ((Bw.out.setCell (p := ⟨w.heap.size, 0, none⟩) (Nat.le_refl _) _).trans (belowK_b (w := w) (Nat.le_refl _) _ D2 _ _ (by omega) hA rfl rfl)).trans (belowK_b (w := w) (Nat.le_refl _) _ D1 _ _ (by omega) hB2 rfl rfl)⟩
      simp [results, Try.f7, go_sem, hc]
end Go.Proofs.Ytmfkeobjbcinpaa
