/- A round of the range over the runes: the law's own goes. Proved of the Go text. -/
import Derived.Test.YtllbgjeibcaajaaDoorInner5
namespace Go.Proofs.YtllbgjeibcaajaaDoor
open Go.RowKit Go.Shelf Go.Sort
set_option linter.unusedVariables false
attribute [local go_sem] Oper.semAt_some

/-- Between two rounds: k is how many runes have come, they are the text's first; a first pass has not come to stop. -/
def In1 (stp pv : Int) (W0 : World) (kB : Nat) (pre : List Nat) (W : World) : Prop :=
  (W0.grownBy W (some kB) ∧ Blk W kB #[.int .i64 pre.length] 3) ∧ (pre = List.range pre.length ∧ (pv = 0 → ¬ (1 ≤ stp ∧ stp ≤ (pre.length : Int))))
/-- A round has left: by a return, that no run comes to; or, in a first pass, by a break at stop. -/
def Ix1 (N : Nat) (stp pv : Int) (W0 : World) (kB : Nat) (c : Code) (pre : List Nat) (W : World) : Prop :=
  (c = .ret ∧ NoFrontN N pre) ∨ ((W0.grownBy W (some kB) ∧ Blk W kB #[.int .i64 pre.length] 3) ∧ (c = .exit 2 ∧ pv = 0 ∧ (1 ≤ stp ∧ (pre.length : Int) = stp)))
set_option maxHeartbeats 4000000 in
set_option maxRecDepth 100000 in
theorem outer_bad (lo : Nat) (s : ByteArray) (stp pv : Int) (z g c lB Bn al p lim kB : Nat) (W0 W : World) (pre : List Nat) (x X1 X2 m : Nat) (y0 y1 y11 y12 y13 y14 y15 y16 y17 y18 y19 y20 y21 y22 y23 y24 y25 y26 y27 y28 y29 y30 y31 y32 y33 y34 y35 y36 y37 y38 y39 y40 y41 y42 y43 y44 y45 y46 y47 y48 y49 y50 y51 y52 y53 y54 y55 y56 y57 y58 y59 y60 y61 y62 y63 y64 y65 y66 y67 y68 y69 y70 y71 y72 y73 y74 y75 y76 y77 y78 y79 y80 y81 y82 y83 y84 y85 y86 y87 y88 y89 y90 y91 y92 y93 y94 y95 y96 y97 y98 y99 y100 y101 y102 y103 y104 y105 y106 y107 y108 : Value)
    (hs : s.size ≤ 200000) (hX : Hid (X1 = sk s x 0)) (hX2 : Hid (X2 = nr s X1)) (hE : Env s stp pv z g c lB Bn al p lim W0) (hk : lim ≤ kB) (hkl : kB < W0.heap.size) (hlo : W0.heap.size ≤ lo) (r₀ : Loop) (hr : W.heap[lo]? = some (.loop r₀))
    (hg : W0.grownBy W (some kB)) (bk : Blk W kB #[.int .i64 m] 3) (hp : Hid (pre = List.range m)) (hm : m < rc s 0) (hst : pv = 0 → ¬ (1 ≤ stp ∧ stp ≤ (m : Int))) (h1 : x ≠ m) :
    (c2 (rfO (Tryd.f17.body.getD .skip))).wpIn (Fence.wide.inRound lo) (12 - 1 - 1) Tryd.prog (ownPostG W0.heap.size KeepsWalks (In1 stp pv W0 kB) (Ix1 (rc s 0) stp pv W0 kB) (pre ++ [x]) W) { tmps := #[y0, y1, .pointer (some ⟨z, 0, none⟩), .pointer (some ⟨(z + 1), 0, none⟩), .pointer (some ⟨(z + 2), 0, none⟩), .pointer (some ⟨lB, 0, none⟩), .pointer (some ⟨al, 0, none⟩), .pointer (some ⟨p, 0, none⟩), .pointer (some ⟨kB, 0, none⟩), .int .i64 (X1 : Nat), .int .i32 (X2 : Nat), y11, y12, y13, y14, y15, y16, y17, y18, y19, y20, y21, y22, y23, y24, y25, y26, y27, y28, y29, y30, y31, y32, y33, y34, y35, y36, y37, y38, y39, y40, y41, y42, y43, y44, y45, y46, y47, y48, y49, y50, y51, y52, y53, y54, y55, y56, y57, y58, y59, y60, y61, y62, y63, y64, y65, y66, y67, y68, y69, y70, y71, y72, y73, y74, y75, y76, y77, y78, y79, y80, y81, y82, y83, y84, y85, y86, y87, y88, y89, y90, y91, y92, y93, y94, y95, y96, y97, y98, y99, y100, y101, y102, y103, y104, y105, y106, y107, y108], defers := [] } W := by
  have E := hE.kept hg hk
  have hz := hg.size
  have hN : rc s 0 ≤ 200000 := by have := rc_size s; omega
  have hl : Hid (pre.length = m) := hide (by rw [hp.out, List.length_range])
  obtain ⟨v, bR⟩ := E.fr
  have ck := bk.c1
  have cl := E.fl.c1
  have cp := E.pl m (by omega)
  have hx1 : X1 ≠ sk s m 0 := by rw [hX.out]; exact sk_inj hm h1
  have rf := bR.fr 0
  have r0 := bR.c1
  replace bR := hide bR
  replace bk := hide bk
  replace hg := hide hg
  replace hr := hide hr
  replace hst := hide hst
  replace h1 := hide h1
  clear E hE
  generalize hL : sk s m 0 = L at *
  generalize hN' : rc s 0 = N at *
  replace hL := hide hL
  replace hN' := hide hN'
  have t1 : ((X1 : Int) != (L : Int)) = true := by simp only [bne_iff_ne, ne_eq]; omega
  have b1 : ¬ (m : Int) ≥ N := by omega
  have b2 : (m : Int) < (N : Int) + 1 := by omega
  have u1 := wf1 N hN
  have u2 := wf2 hm hN
  have u3 := wf3 N hN
  replace hx1 := hide hx1
  replace hm := hide hm
  replace hN := hide hN
  replace hs := hide hs
  replace hz := hide hz
  dsimp only [Tryd.f17, Option.getD, rfO, c1, c2]
  gi_wp2_with fail
  refine ⟨(KeepsOthers.setCell _ _ _).from _, .inl ⟨rfl, ?_⟩⟩
  rw [hp.out]
  exact noFrontN_of h1.out
set_option maxHeartbeats 4000000 in
set_option maxRecDepth 100000 in
theorem outer_0 (lo : Nat) (s : ByteArray) (stp pv : Int) (z g c lB Bn al p lim kB : Nat) (W0 W : World) (pre : List Nat) (x X1 X2 m : Nat) (y0 y1 y11 y12 y13 y14 y15 y16 y17 y18 y19 y20 y21 y22 y23 y24 y25 y26 y27 y28 y29 y30 y31 y32 y33 y34 y35 y36 y37 y38 y39 y40 y41 y42 y43 y44 y45 y46 y47 y48 y49 y50 y51 y52 y53 y54 y55 y56 y57 y58 y59 y60 y61 y62 y63 y64 y65 y66 y67 y68 y69 y70 y71 y72 y73 y74 y75 y76 y77 y78 y79 y80 y81 y82 y83 y84 y85 y86 y87 y88 y89 y90 y91 y92 y93 y94 y95 y96 y97 y98 y99 y100 y101 y102 y103 y104 y105 y106 y107 y108 : Value)
    (hs : s.size ≤ 200000) (hX : Hid (X1 = sk s x 0)) (hX2 : Hid (X2 = nr s X1)) (hE : Env s stp pv z g c lB Bn al p lim W0) (hk : lim ≤ kB) (hkl : kB < W0.heap.size) (hlo : W0.heap.size ≤ lo) (r₀ : Loop) (hr : W.heap[lo]? = some (.loop r₀))
    (hg : W0.grownBy W (some kB)) (bk : Blk W kB #[.int .i64 m] 3) (hp : Hid (pre = List.range m)) (hm : m < rc s 0) (hst : pv = 0 → ¬ (1 ≤ stp ∧ stp ≤ (m : Int))) (h1 : x = m) (h0 : pv = 0) :
    (c2 (rfO (Tryd.f17.body.getD .skip))).wpIn (Fence.wide.inRound lo) (12 - 1 - 1) Tryd.prog (ownPostG W0.heap.size KeepsWalks (In1 stp pv W0 kB) (Ix1 (rc s 0) stp pv W0 kB) (pre ++ [x]) W) { tmps := #[y0, y1, .pointer (some ⟨z, 0, none⟩), .pointer (some ⟨(z + 1), 0, none⟩), .pointer (some ⟨(z + 2), 0, none⟩), .pointer (some ⟨lB, 0, none⟩), .pointer (some ⟨al, 0, none⟩), .pointer (some ⟨p, 0, none⟩), .pointer (some ⟨kB, 0, none⟩), .int .i64 (X1 : Nat), .int .i32 (X2 : Nat), y11, y12, y13, y14, y15, y16, y17, y18, y19, y20, y21, y22, y23, y24, y25, y26, y27, y28, y29, y30, y31, y32, y33, y34, y35, y36, y37, y38, y39, y40, y41, y42, y43, y44, y45, y46, y47, y48, y49, y50, y51, y52, y53, y54, y55, y56, y57, y58, y59, y60, y61, y62, y63, y64, y65, y66, y67, y68, y69, y70, y71, y72, y73, y74, y75, y76, y77, y78, y79, y80, y81, y82, y83, y84, y85, y86, y87, y88, y89, y90, y91, y92, y93, y94, y95, y96, y97, y98, y99, y100, y101, y102, y103, y104, y105, y106, y107, y108], defers := [] } W := by
  subst h0
  have E := hE.kept hg hk
  have hz := hg.size
  have hN : rc s 0 ≤ 200000 := by have := rc_size s; omega
  have hl : Hid (pre.length = m) := hide (by rw [hp.out, List.length_range])
  obtain ⟨v, bR⟩ := E.fr
  have ck := bk.c1
  have cl := E.fl.c1
  have cp := E.pl m (by omega)
  have cs := E.fs.c1
  have HR : CallIs 26 #[.string s, .int .i64 (X1 : Nat)] (.tuple #[.int .i64 (X2 : Nat), .int .i64 (wd s X1)]) := by rw [hX2.out]; exact rune_any s X1 (by rw [hX.out, h1]; exact sk_lt s m 0 (Nat.zero_le _) hm) hs
  have hx1 : X1 = sk s m 0 := by rw [hX.out, h1]
  have x2 : X2 ≤ 1114111 := by rw [hX2.out]; exact nr_le _ _
  replace bR := hide bR
  replace bk := hide bk
  replace hg := hide hg
  replace hr := hide hr
  replace E := hide E
  replace hst := hide hst
  replace h1 := hide h1
  replace hX := hide hX
  replace hX2 := hide hX2
  clear hE
  generalize hL : sk s m 0 = L at *
  generalize hN' : rc s 0 = N at *
  generalize wd s X1 = X3 at *
  replace hL := hide hL
  have hmn : Hid ((m : Int) < N) := hide (by omega)
  have b1 : ¬ (m : Int) ≥ N := by omega
  have b2 : (m : Int) < (N : Int) + 1 := by omega
  have u1 := wf1 N hN
  have u2 := wf2 hm hN
  have u3 := wf3 N hN
  have u4 := wf4 X2 x2
  have t1 : ((X1 : Int) != (L : Int)) = false := by rw [hx1]; simp
  replace hx1 := hide hx1
  replace hm := hide hm
  replace hN := hide hN
  replace hs := hide hs
  replace hz := hide hz
  replace x2 := hide x2
  replace hN' := hide hN'
  dsimp only [Tryd.f17, Option.getD, rfO, c1, c2]
  gi_wp2_with fail
  refine ⟨trivial, (CallsIn.inRound lo (callsIn_wide.2 (HR.out _))).mono ?_⟩
  rintro e w' ⟨rfl, hb⟩
  have bk' := bk.out.keep hb
  have ck' := bk'.c1
  have fk' := bk'.fr 0
  have E' := hide (E.out.keep hb)
  have K' := KeepsFrom.keep (B := W0.heap.size) hb
  have R := grown_below hb (some kB)
  have zw := hide hb.size
  replace hb := hide hb
  clear ck cl cp cs
  obtain ⟨w2, hw2⟩ : ∃ w2, w'.setCell ⟨kB, 0, none⟩ (.int .i64 ((m : Int) + 1)) = w2 := ⟨_, rfl⟩
  have E2 := hide (E'.out.kept (grownBy_setCell' w' kB (.int .i64 ((m : Int) + 1))) hk)
  have b2 := hide (bk'.set (.int .i64 ((m : Int) + 1)))
  have R2 := hide (grown_set R (.int .i64 ((m : Int) + 1)))
  have K2 := hide (K'.trans ((KeepsOthers.setCell w' ⟨kB, 0, none⟩ (.int .i64 ((m : Int) + 1))).from _))
  rw [hw2] at E2 b2 R2 K2
  have c2' := b2.out.c1
  have ep := E2.out.fp.c1
  have et := E2.out.ft.c1
  replace bk' := hide bk'
  clear K' R
  by_cases hq : (m : Int) + 1 = stp
  · have hq' : (((m : Int) + 1) == stp) = true := by simpa using hq
    replace hq := hide hq
    by_cases hm1 : m = 1
    · have t2 : (((m : Int) + 1) == 2) = true := by rw [hm1]; rfl
      replace hm1 := hide hm1
      gi_wp2_with fail
      refine ⟨K2.out, .inr ⟨⟨grown_trans hg.out R2.out, ?_⟩, rfl, rfl, ?_⟩⟩
      · rw [List.length_append, hl.out]; exact b2.out
      · rw [List.length_append, hl.out]; simp only [List.length_singleton]; have := hq.out; clear u1 u2 u3 u4; omega
    · have t2 := ne2 hm1
      replace hm1 := hide hm1
      gi_wp2_with fail
      refine ⟨K2.out, .inr ⟨⟨grown_trans hg.out R2.out, ?_⟩, rfl, rfl, ?_⟩⟩
      · rw [List.length_append, hl.out]; exact b2.out
      · rw [List.length_append, hl.out]; simp only [List.length_singleton]; have := hq.out; clear u1 u2 u3 u4; omega
  · have hq' : (((m : Int) + 1) == stp) = false := by rw [beq_eq_false_iff_ne]; exact hq
    replace hq := hide hq
    by_cases hm1 : m = 1
    · have t2 : (((m : Int) + 1) == 2) = true := by rw [hm1]; rfl
      replace hm1 := hide hm1
      gi_wp2_with fail
      have := hq.out
      refine ⟨K2.out, walks_of R2.out bk.out, ⟨grown_trans hg.out R2.out, ?_⟩, ?_, ?_⟩
      · rw [List.length_append, hl.out]; exact b2.out
      · rw [List.length_append, hl.out]; simp only [List.length_singleton]; rw [List.range_succ, ← hp.out, h1.out]
      · rw [List.length_append, hl.out]; simp only [List.length_singleton]; intro h0; have := hst.out h0; clear u1 u2 u3 u4; omega
    · have t2 := ne2 hm1
      replace hm1 := hide hm1
      gi_wp2_with fail
      have := hq.out
      refine ⟨K2.out, walks_of R2.out bk.out, ⟨grown_trans hg.out R2.out, ?_⟩, ?_, ?_⟩
      · rw [List.length_append, hl.out]; exact b2.out
      · rw [List.length_append, hl.out]; simp only [List.length_singleton]; rw [List.range_succ, ← hp.out, h1.out]
      · rw [List.length_append, hl.out]; simp only [List.length_singleton]; intro h0; have := hst.out h0; clear u1 u2 u3 u4; omega
set_option maxHeartbeats 4000000 in
set_option maxRecDepth 100000 in
theorem outer_1 (lo : Nat) (s : ByteArray) (stp pv : Int) (z g c lB Bn al p lim kB : Nat) (W0 W : World) (pre : List Nat) (x X1 X2 m : Nat) (y0 y1 y11 y12 y13 y14 y15 y16 y17 y18 y19 y20 y21 y22 y23 y24 y25 y26 y27 y28 y29 y30 y31 y32 y33 y34 y35 y36 y37 y38 y39 y40 y41 y42 y43 y44 y45 y46 y47 y48 y49 y50 y51 y52 y53 y54 y55 y56 y57 y58 y59 y60 y61 y62 y63 y64 y65 y66 y67 y68 y69 y70 y71 y72 y73 y74 y75 y76 y77 y78 y79 y80 y81 y82 y83 y84 y85 y86 y87 y88 y89 y90 y91 y92 y93 y94 y95 y96 y97 y98 y99 y100 y101 y102 y103 y104 y105 y106 y107 y108 : Value)
    (hs : s.size ≤ 200000) (hX : Hid (X1 = sk s x 0)) (hX2 : Hid (X2 = nr s X1)) (hE : Env s stp pv z g c lB Bn al p lim W0) (hk : lim ≤ kB) (hkl : kB < W0.heap.size) (hlo : W0.heap.size ≤ lo) (r₀ : Loop) (hr : W.heap[lo]? = some (.loop r₀))
    (hg : W0.grownBy W (some kB)) (bk : Blk W kB #[.int .i64 m] 3) (hp : Hid (pre = List.range m)) (hm : m < rc s 0) (hst : pv = 0 → ¬ (1 ≤ stp ∧ stp ≤ (m : Int))) (h1 : x = m) (h0 : pv = 1) (hm1 : m ≠ 1) :
    (c2 (rfO (Tryd.f17.body.getD .skip))).wpIn (Fence.wide.inRound lo) (12 - 1 - 1) Tryd.prog (ownPostG W0.heap.size KeepsWalks (In1 stp pv W0 kB) (Ix1 (rc s 0) stp pv W0 kB) (pre ++ [x]) W) { tmps := #[y0, y1, .pointer (some ⟨z, 0, none⟩), .pointer (some ⟨(z + 1), 0, none⟩), .pointer (some ⟨(z + 2), 0, none⟩), .pointer (some ⟨lB, 0, none⟩), .pointer (some ⟨al, 0, none⟩), .pointer (some ⟨p, 0, none⟩), .pointer (some ⟨kB, 0, none⟩), .int .i64 (X1 : Nat), .int .i32 (X2 : Nat), y11, y12, y13, y14, y15, y16, y17, y18, y19, y20, y21, y22, y23, y24, y25, y26, y27, y28, y29, y30, y31, y32, y33, y34, y35, y36, y37, y38, y39, y40, y41, y42, y43, y44, y45, y46, y47, y48, y49, y50, y51, y52, y53, y54, y55, y56, y57, y58, y59, y60, y61, y62, y63, y64, y65, y66, y67, y68, y69, y70, y71, y72, y73, y74, y75, y76, y77, y78, y79, y80, y81, y82, y83, y84, y85, y86, y87, y88, y89, y90, y91, y92, y93, y94, y95, y96, y97, y98, y99, y100, y101, y102, y103, y104, y105, y106, y107, y108], defers := [] } W := by
  subst h0
  have t2 := ne2 hm1
  replace hm1 := hide hm1
  have E := hE.kept hg hk
  have hz := hg.size
  have hN : rc s 0 ≤ 200000 := by have := rc_size s; omega
  have hl : Hid (pre.length = m) := hide (by rw [hp.out, List.length_range])
  obtain ⟨v, bR⟩ := E.fr
  have ck := bk.c1
  have cl := E.fl.c1
  have cp := E.pl m (by omega)
  have cs := E.fs.c1
  have HR : CallIs 26 #[.string s, .int .i64 (X1 : Nat)] (.tuple #[.int .i64 (X2 : Nat), .int .i64 (wd s X1)]) := by rw [hX2.out]; exact rune_any s X1 (by rw [hX.out, h1]; exact sk_lt s m 0 (Nat.zero_le _) hm) hs
  have hx1 : X1 = sk s m 0 := by rw [hX.out, h1]
  have x2 : X2 ≤ 1114111 := by rw [hX2.out]; exact nr_le _ _
  replace bR := hide bR
  replace bk := hide bk
  replace hg := hide hg
  replace hr := hide hr
  replace E := hide E
  replace hst := hide hst
  replace h1 := hide h1
  replace hX := hide hX
  replace hX2 := hide hX2
  clear hE
  generalize hL : sk s m 0 = L at *
  generalize hN' : rc s 0 = N at *
  generalize wd s X1 = X3 at *
  replace hL := hide hL
  have hmn : Hid ((m : Int) < N) := hide (by omega)
  have b1 : ¬ (m : Int) ≥ N := by omega
  have b2 : (m : Int) < (N : Int) + 1 := by omega
  have u1 := wf1 N hN
  have u2 := wf2 hm hN
  have u3 := wf3 N hN
  have u4 := wf4 X2 x2
  have t1 : ((X1 : Int) != (L : Int)) = false := by rw [hx1]; simp
  replace hx1 := hide hx1
  replace hm := hide hm
  replace hN := hide hN
  replace hs := hide hs
  replace hz := hide hz
  replace x2 := hide x2
  replace hN' := hide hN'
  dsimp only [Tryd.f17, Option.getD, rfO, c1, c2]
  gi_wp2_with fail
  refine ⟨trivial, (CallsIn.inRound lo (callsIn_wide.2 (HR.out _))).mono ?_⟩
  rintro e w' ⟨rfl, hb⟩
  have bk' := bk.out.keep hb
  have ck' := bk'.c1
  have fk' := bk'.fr 0
  have E' := hide (E.out.keep hb)
  have K' := KeepsFrom.keep (B := W0.heap.size) hb
  have R := grown_below hb (some kB)
  have zw := hide hb.size
  replace hb := hide hb
  clear ck cl cp cs
  obtain ⟨w2, hw2⟩ : ∃ w2, w'.setCell ⟨kB, 0, none⟩ (.int .i64 ((m : Int) + 1)) = w2 := ⟨_, rfl⟩
  have E2 := hide (E'.out.kept (grownBy_setCell' w' kB (.int .i64 ((m : Int) + 1))) hk)
  have b2 := hide (bk'.set (.int .i64 ((m : Int) + 1)))
  have R2 := hide (grown_set R (.int .i64 ((m : Int) + 1)))
  have K2 := hide (K'.trans ((KeepsOthers.setCell w' ⟨kB, 0, none⟩ (.int .i64 ((m : Int) + 1))).from _))
  rw [hw2] at E2 b2 R2 K2
  have c2' := b2.out.c1
  have ep := E2.out.fp.c1
  have et := E2.out.ft.c1
  replace bk' := hide bk'
  clear K' R
  gi_wp2_with fail
  refine ⟨K2.out, walks_of R2.out bk.out, ⟨grown_trans hg.out R2.out, ?_⟩, ?_, ?_⟩
  · rw [List.length_append, hl.out]; exact b2.out
  · rw [List.length_append, hl.out]; simp only [List.length_singleton]; rw [List.range_succ, ← hp.out, h1.out]
  · rw [List.length_append, hl.out]; simp only [List.length_singleton]; intro h0; have := hst.out h0; clear u1 u2 u3 u4; omega
set_option maxHeartbeats 4000000 in
set_option maxRecDepth 100000 in
theorem outer_within (lo : Nat) (s : ByteArray) (stp pv : Int) (z g c lB Bn al p lim kB : Nat) (W0 W : World) (pre : List Nat) (x X1 X2 m : Nat) (y0 y1 y11 y12 y13 y14 y15 y16 y17 y18 y19 y20 y21 y22 y23 y24 y25 y26 y27 y28 y29 y30 y31 y32 y33 y34 y35 y36 y37 y38 y39 y40 y41 y42 y43 y44 y45 y46 y47 y48 y49 y50 y51 y52 y53 y54 y55 y56 y57 y58 y59 y60 y61 y62 y63 y64 y65 y66 y67 y68 y69 y70 y71 y72 y73 y74 y75 y76 y77 y78 y79 y80 y81 y82 y83 y84 y85 y86 y87 y88 y89 y90 y91 y92 y93 y94 y95 y96 y97 y98 y99 y100 y101 y102 y103 y104 y105 y106 y107 y108 : Value)
    (hs : s.size ≤ 200000) (hX : Hid (X1 = sk s x 0)) (hX2 : Hid (X2 = nr s X1)) (hE : Env s stp pv z g c lB Bn al p lim W0) (hk : lim ≤ kB) (hkl : kB < W0.heap.size) (hlo : W0.heap.size ≤ lo) (r₀ : Loop) (hr : W.heap[lo]? = some (.loop r₀))
    (hg : W0.grownBy W (some kB)) (bk : Blk W kB #[.int .i64 m] 3) (hp : Hid (pre = List.range m)) (hm : m < rc s 0) (hst : pv = 0 → ¬ (1 ≤ stp ∧ stp ≤ (m : Int))) (h1 : x = m) (h0 : pv = 1) (hm1 : m = 1) :
    (c2 (rfO (Tryd.f17.body.getD .skip))).wpIn (Fence.wide.inRound lo) (12 - 1 - 1) Tryd.prog (ownPostG W0.heap.size KeepsWalks (In1 stp pv W0 kB) (Ix1 (rc s 0) stp pv W0 kB) (pre ++ [x]) W) { tmps := #[y0, y1, .pointer (some ⟨z, 0, none⟩), .pointer (some ⟨(z + 1), 0, none⟩), .pointer (some ⟨(z + 2), 0, none⟩), .pointer (some ⟨lB, 0, none⟩), .pointer (some ⟨al, 0, none⟩), .pointer (some ⟨p, 0, none⟩), .pointer (some ⟨kB, 0, none⟩), .int .i64 (X1 : Nat), .int .i32 (X2 : Nat), y11, y12, y13, y14, y15, y16, y17, y18, y19, y20, y21, y22, y23, y24, y25, y26, y27, y28, y29, y30, y31, y32, y33, y34, y35, y36, y37, y38, y39, y40, y41, y42, y43, y44, y45, y46, y47, y48, y49, y50, y51, y52, y53, y54, y55, y56, y57, y58, y59, y60, y61, y62, y63, y64, y65, y66, y67, y68, y69, y70, y71, y72, y73, y74, y75, y76, y77, y78, y79, y80, y81, y82, y83, y84, y85, y86, y87, y88, y89, y90, y91, y92, y93, y94, y95, y96, y97, y98, y99, y100, y101, y102, y103, y104, y105, y106, y107, y108], defers := [] } W := by
  subst h0
  have t2 : (((m : Int) + 1) == 2) = true := by rw [hm1]; rfl
  replace hm1 := hide hm1
  have E := hE.kept hg hk
  have hz := hg.size
  have hN : rc s 0 ≤ 200000 := by have := rc_size s; omega
  have hl : Hid (pre.length = m) := hide (by rw [hp.out, List.length_range])
  obtain ⟨v, bR⟩ := E.fr
  have ck := bk.c1
  have cl := E.fl.c1
  have cp := E.pl m (by omega)
  have cs := E.fs.c1
  have HR : CallIs 26 #[.string s, .int .i64 (X1 : Nat)] (.tuple #[.int .i64 (X2 : Nat), .int .i64 (wd s X1)]) := by rw [hX2.out]; exact rune_any s X1 (by rw [hX.out, h1]; exact sk_lt s m 0 (Nat.zero_le _) hm) hs
  have hx1 : X1 = sk s m 0 := by rw [hX.out, h1]
  have x2 : X2 ≤ 1114111 := by rw [hX2.out]; exact nr_le _ _
  replace bR := hide bR
  replace bk := hide bk
  replace hg := hide hg
  replace hr := hide hr
  replace E := hide E
  replace hst := hide hst
  replace h1 := hide h1
  replace hX := hide hX
  replace hX2 := hide hX2
  clear hE
  generalize hL : sk s m 0 = L at *
  generalize hN' : rc s 0 = N at *
  generalize wd s X1 = X3 at *
  replace hL := hide hL
  have hmn : Hid ((m : Int) < N) := hide (by omega)
  have b1 : ¬ (m : Int) ≥ N := by omega
  have b2 : (m : Int) < (N : Int) + 1 := by omega
  have u1 := wf1 N hN
  have u2 := wf2 hm hN
  have u3 := wf3 N hN
  have u4 := wf4 X2 x2
  have t1 : ((X1 : Int) != (L : Int)) = false := by rw [hx1]; simp
  replace hx1 := hide hx1
  replace hm := hide hm
  replace hN := hide hN
  replace hs := hide hs
  replace hz := hide hz
  replace x2 := hide x2
  replace hN' := hide hN'
  dsimp only [Tryd.f17, Option.getD, rfO, c1, c2]
  gi_wp2_with fail
  refine ⟨trivial, (CallsIn.inRound lo (callsIn_wide.2 (HR.out _))).mono ?_⟩
  rintro e w' ⟨rfl, hb⟩
  have bk' := bk.out.keep hb
  have ck' := bk'.c1
  have fk' := bk'.fr 0
  have E' := hide (E.out.keep hb)
  have K' := KeepsFrom.keep (B := W0.heap.size) hb
  have R := grown_below hb (some kB)
  have zw := hide hb.size
  replace hb := hide hb
  clear ck cl cp cs
  obtain ⟨w2, hw2⟩ : ∃ w2, w'.setCell ⟨kB, 0, none⟩ (.int .i64 ((m : Int) + 1)) = w2 := ⟨_, rfl⟩
  have E2 := hide (E'.out.kept (grownBy_setCell' w' kB (.int .i64 ((m : Int) + 1))) hk)
  have b2 := hide (bk'.set (.int .i64 ((m : Int) + 1)))
  have R2 := hide (grown_set R (.int .i64 ((m : Int) + 1)))
  have K2 := hide (K'.trans ((KeepsOthers.setCell w' ⟨kB, 0, none⟩ (.int .i64 ((m : Int) + 1))).from _))
  rw [hw2] at E2 b2 R2 K2
  have c2' := b2.out.c1
  have ep := E2.out.fp.c1
  have et := E2.out.ft.c1
  replace bk' := hide bk'
  clear K' R
  have ea := fun o => (E2.out.alloc o).fa.c1
  gi_wp2_with fail
  have b1' := hide (b2.out.alloc (.cells #[.int .i64 0] 3))
  have k1 := hide (Blk.new w2 #[.int .i64 0] 3)
  have E1 := hide (E2.out.alloc (.cells #[.int .i64 0] 3))
  have R1 := hide (grown_alloc R2.out (.cells #[.int .i64 0] 3))
  have K1 := hide (K2.out.trans ((KeepsOthers.alloc _ (.cells #[.int .i64 0] 3)).from _))
  have z2 := R2.out.size
  have z1 : w2.heap.size < (w2.alloc (.cells #[.int .i64 0] 3)).heap.size := by simp
  obtain ⟨W1, hW1⟩ : ∃ W1, w2.alloc (.cells #[.int .i64 0] 3) = W1 := ⟨_, rfl⟩
  rw [hW1] at b1' k1 E1 R1 K1 z1 ⊢
  clear hW1 hw2
  have hlo1 := K1.out.same lo _ hlo hr.out rfl
  have hlm : lim ≤ w2.heap.size := by have := hg.out.size; clear u1 u2 u3 u4; omega
  clear ea ep et c2' ck' fk'
  refine range_inN (n := 10) (by decide) (fun ts x => ts.setIfInBounds 14 (.int .i64 (plc s x).1)) hlo1 (givesN 9 Bn (by decide) s W1 E1.out.fg.c1) rfl (In2 W1 w2.heap.size W0.heap.size W) (Ix2 (rc s 0))
    (OwnFrom.and (OwnFrom.and (OwnFrom.and (ownFrom_grown W1 _) (Own.from (Blk.own _ _ _) _)) (ownFrom_keepsFrom R1.out.size)) (ownFrom_pure _ _))
    (fun c => ownFrom_pure _ _)
    ⟨⟨⟨grown_refl _ _, k1.out⟩, K1.out⟩, rfl⟩ ?assign ?body ?done ?stop
  case assign =>
    intro lo2 x W K hK
    clear t1 t2 u1 u2 u3 u4 b1
    gi_wp2
    exact hK
  case body =>
    rintro lo2 pre' x' W' hlo2 hr2 ⟨⟨⟨hg2, bk2⟩, hK2⟩, hp2⟩ hlt2
    simp only [fr2, List.setIfInBounds_toArray, List.set_cons_succ, List.set_cons_zero]
    exact inner_round lo lo2 s stp _ z g c lB Bn al p lim w2.heap.size W0.heap.size W1 W W' pre' x' (sk s x' 0) pre'.length _ _ _ _ _ _ _ _ _ _ _ _ _ _ _ _ _ _ _ _ _ _ _ _ _ _ _ _ _ _ _ _ _ _ _ _ _ _ _ _ _ _ _ _ _ _ _ _ _ _ _ _ _ _ _ _ _ _ _ _ _ _ _ _ _ _ _ _ _ _ _ _ _ _ _ _ _ _ _ _ _ _ _ _ _ _ _ _ _ _ _ _ _ _ _ _ _ _ _ _ _ _ _ _ _
      (by rw [hN'.out]; exact hN.out) (hide rfl) E1.out hlm (by clear u1 u2 u3 u4; omega) hg2 bk2 hK2 (hide hp2) hlt2
  case done =>
    rintro W' ⟨⟨⟨hg2, bk2⟩, hK2⟩, hp2⟩
    rw [List.length_range, hN'.out] at bk2
    have R3 := grown_beyond R1.out hg2 (fun k e => by cases e; clear u1 u2 u3 u4; omega)
    have hkk : kB ≠ w2.heap.size := by have := b2.out.lt; clear u1 u2 u3 u4; omega
    have bi3 := b1'.out.kept hg2 (by simp; exact hkk)
    have E3 := E1.out.kept hg2 hlm
    have c3 := bi3.c1
    have ck3 := bk2.c1
    have el3 := E3.fl.c1
    rw [hN'.out] at el3
    have ep3 := E3.fp.c1
    have et3 := E3.ft.c1
    have t3 : ((N : Int) != (N : Int)) = false := by simp
    replace R3 := hide R3
    replace bi3 := hide bi3
    clear bk2 E3 hg2
    gi_wp2_with fail
    refine ⟨hK2, walks_of R3.out bk.out, ⟨grown_trans hg.out R3.out, ?_⟩, ?_, ?_⟩
    · rw [List.length_append, hl.out]; exact bi3.out
    · rw [List.length_append, hl.out]; simp only [List.length_singleton]; rw [List.range_succ, ← hp.out, h1.out]
    · intro h0; clear u1 u2 u3 u4; omega
  case stop =>
    rintro c k W' hk' ⟨_, hn⟩
    exact (hn ⟨k, hk', rfl⟩).elim
end Go.Proofs.YtllbgjeibcaajaaDoor
