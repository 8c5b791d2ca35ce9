/- A round of the range within the range: the law's own goes. Proved of the Go text. -/
import Derived.Test.YtllbgjeibcaajaaDoorEnv5
namespace Go.Proofs.YtllbgjeibcaajaaDoor
open Go.RowKit Go.Shelf Go.Sort
set_option linter.unusedVariables false
attribute [local go_sem] Oper.semAt_some

/-- Between two rounds: j is how many runes have come, they are the text's first. -/
def In2 (W1 : World) (jB B0 : Nat) (Ws : World) (pre : List Nat) (W : World) : Prop :=
  ((W1.grownBy W (some jB) ∧ Blk W jB #[.int .i64 pre.length] 3) ∧ KeepsFrom B0 Ws W) ∧ pre = List.range pre.length
/-- A round has left: by a return, that no run comes to. -/
def Ix2 (N : Nat) (c : Code) (pre : List Nat) (W : World) : Prop := c = .ret ∧ NoFrontN N pre
set_option maxHeartbeats 4000000 in
set_option maxRecDepth 100000 in
theorem inner_round (l₀ lo : Nat) (s : ByteArray) (stp pv : Int) (z g c lB Bn al p lim jB B0 : Nat) (W1 Ws W : World) (pre : List Nat) (x X1 m : Nat) (y0 y1 y2 y3 y6 y7 y8 y9 y10 y11 y12 y15 y16 y17 y18 y19 y20 y21 y22 y23 y24 y25 y26 y27 y28 y29 y30 y31 y32 y33 y34 y35 y36 y37 y38 y39 y40 y41 y42 y43 y44 y45 y46 y47 y48 y49 y50 y51 y52 y53 y54 y55 y56 y57 y58 y59 y60 y61 y62 y63 y64 y65 y66 y67 y68 y69 y70 y71 y72 y73 y74 y75 y76 y77 y78 y79 y80 y81 y82 y83 y84 y85 y86 y87 y88 y89 y90 y91 y92 y93 y94 y95 y96 y97 y98 y99 y100 y101 y102 y103 y104 y105 y106 y107 y108 : Value)
    (hN : rc s 0 ≤ 200000) (hX : Hid (X1 = sk s x 0)) (hE : Env s stp pv z g c lB Bn al p lim W1) (hk : lim ≤ jB) (hkl : jB < W1.heap.size)
    (hg : W1.grownBy W (some jB)) (bk : Blk W jB #[.int .i64 m] 3) (hK : KeepsFrom B0 Ws W) (hp : Hid (pre = List.range m)) (hm : m < rc s 0) :
    (c2 (rfI (Tryd.f17.body.getD .skip))).wpIn ((Fence.wide.inRound l₀).inRound lo) (10 - 1 - 1) Tryd.prog (ownPostG W1.heap.size KeepsWalks (In2 W1 jB B0 Ws) (Ix2 (rc s 0)) (pre ++ [x]) W) { tmps := #[y0, y1, y2, y3, .pointer (some ⟨(z + 2), 0, none⟩), .pointer (some ⟨lB, 0, none⟩), y6, y7, y8, y9, y10, y11, y12, .pointer (some ⟨jB, 0, none⟩), .int .i64 (X1 : Nat), y15, y16, y17, y18, y19, y20, y21, y22, y23, y24, y25, y26, y27, y28, y29, y30, y31, y32, y33, y34, y35, y36, y37, y38, y39, y40, y41, y42, y43, y44, y45, y46, y47, y48, y49, y50, y51, y52, y53, y54, y55, y56, y57, y58, y59, y60, y61, y62, y63, y64, y65, y66, y67, y68, y69, y70, y71, y72, y73, y74, y75, y76, y77, y78, y79, y80, y81, y82, y83, y84, y85, y86, y87, y88, y89, y90, y91, y92, y93, y94, y95, y96, y97, y98, y99, y100, y101, y102, y103, y104, y105, y106, y107, y108], defers := [] } W := by
  have E := hE.kept hg hk
  have hz := hg.size
  have hl : Hid (pre.length = m) := hide (by rw [hp.out, List.length_range])
  have hxm : Hid (x ≠ m → X1 ≠ sk s m 0) := hide (fun h => by rw [hX.out]; exact sk_inj hm h)
  have hxe : Hid (x = m → X1 = sk s m 0) := hide (fun h => by rw [hX.out, h])
  obtain ⟨v, bR⟩ := E.fr
  have ck := bk.c1
  have fk := bk.fr 0
  have cl := E.fl.c1
  have cp := E.pl m (by omega)
  have rf := bR.fr 0
  have r0 := bR.c1
  replace bR := hide bR
  replace bk := hide bk
  replace hg := hide hg
  replace hK := hide hK
  replace hX := hide hX
  clear E hE
  generalize hL : sk s m 0 = L at *
  generalize hN' : rc s 0 = N at *
  replace hL := hide hL
  replace hN' := hide hN'
  have w1 : wrap64 ((N : Int) + 1 - 1) = N := by rw [show (N : Int) + 1 - 1 = N by omega]; exact w_in N (by omega)
  have w2 : wrap64 ((m : Int) + 1) = (m : Int) + 1 := by rw [show (m : Int) + 1 = ((m + 1 : Nat) : Int) by omega]; exact w_in (m + 1) (by omega)
  have w3 : wrap64 (N : Int) = N := w_in N (by omega)
  have b1 : ¬ (m : Int) ≥ N := by omega
  have b2 : (m : Int) < (N : Int) + 1 := by omega
  dsimp only [Tryd.f17, Option.getD, rfI, rfO, c1, c2]
  by_cases h1 : x = m
  · have hx1 := hxe.out h1
    have t1 : ((X1 : Int) != (L : Int)) = false := by rw [hx1]; simp
    replace hx1 := hide hx1
    replace h1 := hide h1
    replace hm := hide hm
    replace hN := hide hN
    replace hz := hide hz
    gi_wp2_with fail
    refine ⟨(KeepsOthers.setCell _ _ _).from _, KeepsWalks.setCell _ _ _, ⟨⟨grown_set hg.out _, ?_⟩, hK.out.trans ((KeepsOthers.setCell _ _ _).from _)⟩, ?_⟩
    · rw [List.length_append, hl.out]; exact bk.out.set _
    · rw [List.length_append, hl.out]; simp only [List.length_singleton]; rw [List.range_succ, ← hp.out, h1.out]
  · have hx1 := hxm.out h1
    have t1 : ((X1 : Int) != (L : Int)) = true := by simp only [bne_iff_ne, ne_eq]; omega
    replace hx1 := hide hx1
    replace h1 := hide h1
    replace hm := hide hm
    replace hN := hide hN
    replace hz := hide hz
    gi_wp2_with fail
    refine ⟨(KeepsOthers.setCell _ _ _).from _, rfl, ?_⟩
    rw [hp.out]
    exact noFrontN_of h1.out
end Go.Proofs.YtllbgjeibcaajaaDoor
