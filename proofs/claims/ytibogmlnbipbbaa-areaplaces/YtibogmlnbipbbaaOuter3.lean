/- A round of the range over the places: the law AreaPlaces. Proved of the Go text. -/
import Derived.Test.YtibogmlnbipbbaaInner3
namespace Go.Proofs.Ytibogmlnbipbbaa
open Go.RowKit Go.Shelf Go.Sort
set_option linter.unusedVariables false
attribute [local go_sem] Oper.semAt_some

/-- Between two rounds: i is how many places have come, they are the area's first, fewer than 9000; a first pass has not come to stop. -/
def In1 (t l : Int) (nc : Nat) (stp pv : Int) (W0 : World) (iB : Nat) (pre : List (Int × Int)) (W : World) : Prop :=
  (W0.grownBy W (some iB) ∧ Blk W iB #[.int .i64 pre.length] 3) ∧ (pre = upto t l nc pre.length ∧ pre.length < 9000 ∧ (pv = 0 → ¬ (1 ≤ stp ∧ stp ≤ (pre.length : Int))))
def Broke (stp pv n : Int) : Prop := 1 ≤ n ∧ n ≤ 9000 ∧ (n = 9000 ∨ (pv = 0 ∧ n = stp)) ∧ (pv = 0 → ¬ (1 ≤ stp ∧ stp < n))
/-- A round has left: by a return, that no run comes to; or by a break. -/
def Ix1 (t l : Int) (nc N : Nat) (stp pv : Int) (W0 : World) (iB : Nat) (c : Code) (pre : List (Int × Int)) (W : World) : Prop :=
  (c = .ret ∧ NoFront t l nc N pre) ∨ ((W0.grownBy W (some iB) ∧ Blk W iB #[.int .i64 pre.length] 3) ∧ (c = .exit 2 ∧ Broke stp pv pre.length))
set_option maxHeartbeats 4000000 in
set_option maxRecDepth 100000 in
theorem outer_bad (lo : Nat) (t l b r stp wth : Int) (nc N : Nat) (hN : HasN t l b r nc N) (pv : Int) (z Bn al nb p lim iB Bx : Nat) (W0 W : World) (pre : List (Int × Int)) (x1 x2 q1 q2 : Int) (m : Nat) (y0 y1 y2 y12 y13 y14 y15 y16 y17 y18 y19 y20 y21 y22 y23 y24 y25 y26 y27 y28 y29 y30 y31 y32 y33 y34 y35 y36 y37 y38 y39 y40 y41 y42 y43 y44 y45 y46 y47 y48 y49 y50 y51 y52 y53 y54 y55 y56 y57 y58 y59 y60 y61 y62 y63 y64 y65 y66 y67 y68 y69 y70 y71 y72 y73 y74 y75 y76 y77 y78 y79 y80 y81 y82 y83 y84 y85 y86 : Value)
    (hE : Env t l b r stp wth N pv z Bn al nb p lim W0) (hi : lim ≤ iB) (hil : iB < W0.heap.size) (hBx : W0.heap.size ≤ Bx) (bX : Blk W Bx #[.int .i64 x1, .int .i64 x2] 28)
    (hlo : W0.heap.size ≤ lo) (r₀ : Loop) (hr : W.heap[lo]? = some (.loop r₀)) (hg : W0.grownBy W (some iB)) (bi : Blk W iB #[.int .i64 m] 3) (hp : Hid (pre = upto t l nc m)) (hm : m < N) (hm9 : m < 9000) (hs : pv = 0 → ¬ (1 ≤ stp ∧ stp ≤ (m : Int))) (hq : Hid ((q1, q2) = plc t l nc m)) (HA : AtIs t l b r m q1 q2) (hx : ¬ (x1 = q1 ∧ x2 = q2)) :
    (c2 (rfO (Try.f4.body.getD .skip))).wpIn (Fence.wide.inRound lo) (12 - 1 - 1) Try.prog (ownPostG W0.heap.size (KB Bn) (In1 t l nc stp pv W0 iB) (Ix1 t l nc N stp pv W0 iB) (pre ++ [(x1, x2)]) W) { tmps := #[y0, y1, y2, .pointer (some ⟨z, 0, none⟩), .pointer (some ⟨(z + 1), 0, none⟩), .pointer (some ⟨(z + 2), 0, none⟩), .pointer (some ⟨(z + 3), 0, none⟩), .pointer (some ⟨al, 0, none⟩), .pointer (some ⟨nb, 0, none⟩), .pointer (some ⟨p, 0, none⟩), .pointer (some ⟨iB, 0, none⟩), .pointer (some ⟨Bx, 0, none⟩), y12, y13, y14, y15, y16, y17, y18, y19, y20, y21, y22, y23, y24, y25, y26, y27, y28, y29, y30, y31, y32, y33, y34, y35, y36, y37, y38, y39, y40, y41, y42, y43, y44, y45, y46, y47, y48, y49, y50, y51, y52, y53, y54, y55, y56, y57, y58, y59, y60, y61, y62, y63, y64, y65, y66, y67, y68, y69, y70, y71, y72, y73, y74, y75, y76, y77, y78, y79, y80, y81, y82, y83, y84, y85, y86], defers := [] } W := by
  have E := hE.kept hg hi
  have hlg := hE.lg
  have hlz := hE.lz
  have hz := hg.size
  have hl : Hid (pre.length = m) := hide (by rw [hp.out, upto_len])
  have hN' : (m : Int) < N := by omega
  obtain ⟨a0, a1, a2, a3⟩ := E.fa.c4
  obtain ⟨v, bR⟩ := E.fr
  have ci := bi.c1
  have cn := E.fn.c1
  replace bR := hide bR
  replace bX := hide bX
  replace bi := hide bi
  replace hg := hide hg
  replace hr := hide hr
  replace E := hide E
  replace hs := hide hs
  clear hE
  dsimp only [Try.f4, Option.getD, rfO, c1, c2]
  by_cases h1 : x1 = q1
  · have h2 : ¬ x2 = q2 := fun h => hx ⟨h1, h⟩
    subst h1
    gi_wp2_with fail
    refine ⟨trivial, (CallsIn.inRound lo (callsIn_wide.2 (HA.out _))).mono ?_⟩
    rintro e w' ⟨rfl, hb⟩
    have bi' := bi.out.keep hb
    have ci' := fun o => (bi'.alloc o).c1
    have fi' := fun o => (bi'.alloc o).fr 0
    have sX := bX.out.keep hb
    have s0 := fun o => (sX.alloc o).c2.1
    have s1 := fun o => (sX.alloc o).c2.2
    have rX := bR.out.keep hb
    have r0 := fun o => (rX.alloc o).c1
    have rf := fun o => (rX.alloc o).fr 0
    have E' := hide (E.out.keep hb)
    have KF := fun (B : Nat) {a : Addr} {u : Value} => (KeepsFrom.keep (B := B) hb).trans (((KeepsOthers.alloc w' (spotO x1 q2)).from B).trans ((KeepsOthers.setCell _ a u).from B))
    have R := grown_alloc (grown_below hb (some iB)) (spotO x1 q2)
    have zw := hb.size
    replace hb := hide hb
    clear a0 a1 a2 a3 ci cn sX rX
    gi_wp2_with fail
    refine ⟨KF _, .inl ⟨rfl, ?_⟩⟩
    rw [hp.out]
    exact noFront_of (by rw [← hq.out]; simp; omega)
  · gi_wp2_with fail
    refine ⟨trivial, (CallsIn.inRound lo (callsIn_wide.2 (HA.out _))).mono ?_⟩
    rintro e w' ⟨rfl, hb⟩
    have bi' := bi.out.keep hb
    have ci' := fun o => (bi'.alloc o).c1
    have fi' := fun o => (bi'.alloc o).fr 0
    have sX := bX.out.keep hb
    have s0 := fun o => (sX.alloc o).c2.1
    have s1 := fun o => (sX.alloc o).c2.2
    have rX := bR.out.keep hb
    have r0 := fun o => (rX.alloc o).c1
    have rf := fun o => (rX.alloc o).fr 0
    have E' := hide (E.out.keep hb)
    have KF := fun (B : Nat) {a : Addr} {u : Value} => (KeepsFrom.keep (B := B) hb).trans (((KeepsOthers.alloc w' (spotO q1 q2)).from B).trans ((KeepsOthers.setCell _ a u).from B))
    have R := grown_alloc (grown_below hb (some iB)) (spotO q1 q2)
    have zw := hb.size
    replace hb := hide hb
    clear a0 a1 a2 a3 ci cn sX rX
    gi_wp2_with fail
    refine ⟨KF _, .inl ⟨rfl, ?_⟩⟩
    rw [hp.out]
    exact noFront_of (by rw [← hq.out]; simp; omega)
set_option maxHeartbeats 4000000 in
set_option maxRecDepth 100000 in
theorem outer_skip (lo : Nat) (t l b r stp wth : Int) (nc N : Nat) (hN : HasN t l b r nc N) (pv : Int) (z Bn al nb p lim iB Bx : Nat) (W0 W : World) (pre : List (Int × Int)) (x1 x2 q1 q2 : Int) (m : Nat) (y0 y1 y2 y12 y13 y14 y15 y16 y17 y18 y19 y20 y21 y22 y23 y24 y25 y26 y27 y28 y29 y30 y31 y32 y33 y34 y35 y36 y37 y38 y39 y40 y41 y42 y43 y44 y45 y46 y47 y48 y49 y50 y51 y52 y53 y54 y55 y56 y57 y58 y59 y60 y61 y62 y63 y64 y65 y66 y67 y68 y69 y70 y71 y72 y73 y74 y75 y76 y77 y78 y79 y80 y81 y82 y83 y84 y85 y86 : Value)
    (hE : Env t l b r stp wth N pv z Bn al nb p lim W0) (hi : lim ≤ iB) (hil : iB < W0.heap.size) (hBx : W0.heap.size ≤ Bx) (bX : Blk W Bx #[.int .i64 x1, .int .i64 x2] 28)
    (hlo : W0.heap.size ≤ lo) (r₀ : Loop) (hr : W.heap[lo]? = some (.loop r₀)) (hg : W0.grownBy W (some iB)) (bi : Blk W iB #[.int .i64 m] 3) (hp : Hid (pre = upto t l nc m)) (hm : m < N) (hm9 : m < 9000) (hs : pv = 0 → ¬ (1 ≤ stp ∧ stp ≤ (m : Int))) (hq : Hid ((q1, q2) = plc t l nc m)) (HA : AtIs t l b r m q1 q2) (h1 : x1 = q1) (h2 : x2 = q2) (hw : ¬ (m : Int) + 1 = wth) :
    (c2 (rfO (Try.f4.body.getD .skip))).wpIn (Fence.wide.inRound lo) (12 - 1 - 1) Try.prog (ownPostG W0.heap.size (KB Bn) (In1 t l nc stp pv W0 iB) (Ix1 t l nc N stp pv W0 iB) (pre ++ [(x1, x2)]) W) { tmps := #[y0, y1, y2, .pointer (some ⟨z, 0, none⟩), .pointer (some ⟨(z + 1), 0, none⟩), .pointer (some ⟨(z + 2), 0, none⟩), .pointer (some ⟨(z + 3), 0, none⟩), .pointer (some ⟨al, 0, none⟩), .pointer (some ⟨nb, 0, none⟩), .pointer (some ⟨p, 0, none⟩), .pointer (some ⟨iB, 0, none⟩), .pointer (some ⟨Bx, 0, none⟩), y12, y13, y14, y15, y16, y17, y18, y19, y20, y21, y22, y23, y24, y25, y26, y27, y28, y29, y30, y31, y32, y33, y34, y35, y36, y37, y38, y39, y40, y41, y42, y43, y44, y45, y46, y47, y48, y49, y50, y51, y52, y53, y54, y55, y56, y57, y58, y59, y60, y61, y62, y63, y64, y65, y66, y67, y68, y69, y70, y71, y72, y73, y74, y75, y76, y77, y78, y79, y80, y81, y82, y83, y84, y85, y86], defers := [] } W := by
  have E := hE.kept hg hi
  have hlg := hE.lg
  have hlz := hE.lz
  have hz := hg.size
  have hl : Hid (pre.length = m) := hide (by rw [hp.out, upto_len])
  have hN' : (m : Int) < N := by omega
  obtain ⟨a0, a1, a2, a3⟩ := E.fa.c4
  obtain ⟨v, bR⟩ := E.fr
  have ci := bi.c1
  have cn := E.fn.c1
  replace bR := hide bR
  replace bX := hide bX
  replace bi := hide bi
  replace hg := hide hg
  replace hr := hide hr
  replace E := hide E
  replace hs := hide hs
  clear hE
  dsimp only [Try.f4, Option.getD, rfO, c1, c2]
  subst h1 h2
  gi_wp2_with fail
  refine ⟨trivial, (CallsIn.inRound lo (callsIn_wide.2 (HA.out _))).mono ?_⟩
  rintro e w' ⟨rfl, hb⟩
  have bi' := bi.out.keep hb
  have ci' := fun o => (bi'.alloc o).c1
  have fi' := fun o => (bi'.alloc o).fr 0
  have sX := bX.out.keep hb
  have s0 := fun o => (sX.alloc o).c2.1
  have s1 := fun o => (sX.alloc o).c2.2
  have rX := bR.out.keep hb
  have r0 := fun o => (rX.alloc o).c1
  have rf := fun o => (rX.alloc o).fr 0
  have E' := hide (E.out.keep hb)
  have KF := fun (B : Nat) {a : Addr} {u : Value} => (KeepsFrom.keep (B := B) hb).trans (((KeepsOthers.alloc w' (spotO x1 x2)).from B).trans ((KeepsOthers.setCell _ a u).from B))
  have R := grown_alloc (grown_below hb (some iB)) (spotO x1 x2)
  have zw := hb.size
  replace hb := hide hb
  clear a0 a1 a2 a3 ci cn sX rX
  obtain ⟨w2, hw2⟩ : ∃ w2, (w'.alloc (spotO x1 x2)).setCell ⟨iB, 0, none⟩ (.int .i64 ((m : Int) + 1)) = w2 := ⟨_, rfl⟩
  have E2 := hide ((E'.out.alloc (spotO x1 x2)).kept (grownBy_setCell' (w'.alloc (spotO x1 x2)) iB (.int .i64 ((m : Int) + 1))) hi)
  have b2 := hide ((bi'.alloc (spotO x1 x2)).set (.int .i64 ((m : Int) + 1)))
  have R2 := hide (grown_set R (.int .i64 ((m : Int) + 1)))
  have K2 := hide (KF W0.heap.size (a := ⟨iB, 0, none⟩) (u := .int .i64 ((m : Int) + 1)))
  rw [hw2] at E2 b2 R2 K2
  have c2' := b2.out.c1
  have ew := E2.out.fw.c1
  have en := E2.out.fn.c1
  have ep := E2.out.fp.c1
  have es := E2.out.fs.c1
  clear KF R
  by_cases h9 : (9000 : Int) ≤ (m : Int) + 1
  · gi_wp2_with fail
    refine ⟨K2.out, .inr ⟨⟨grown_trans hg.out R2.out, ?_⟩, rfl, ?_⟩⟩
    · rw [List.length_append, hl.out]; exact b2.out
    · rw [List.length_append, hl.out]; simp only [List.length_singleton]; exact ⟨by omega, by omega, by left; omega, fun h0 => by first | (have := hs.out h0; omega) | (have := hs.out trivial; omega)⟩
  · by_cases hpv : pv = 0
    · subst hpv
      by_cases hst : (m : Int) + 1 = stp
      · subst hst
        gi_wp2_with fail
        refine ⟨K2.out, .inr ⟨⟨grown_trans hg.out R2.out, ?_⟩, rfl, ?_⟩⟩
        · rw [List.length_append, hl.out]; exact b2.out
        · rw [List.length_append, hl.out]; simp only [List.length_singleton]; exact ⟨by omega, by omega, by right; exact ⟨rfl, by omega⟩, fun h0 => by first | (have := hs.out h0; omega) | (have := hs.out trivial; omega)⟩
      · have hst' : (((m : Int) + 1) == stp) = false := by rw [beq_eq_false_iff_ne]; exact hst
        gi_wp2_with fail
        refine ⟨K2.out, KB_of_grown R2.out (by omega) (by omega), ⟨grown_trans hg.out R2.out, ?_⟩, ?_, ?_, ?_⟩
        · rw [List.length_append, hl.out]; exact b2.out
        · rw [List.length_append, hl.out]; simp only [List.length_singleton]; rw [upto_succ, ← hq.out, ← hp.out]
        · rw [List.length_append, hl.out]; simp only [List.length_singleton]; omega
        · rw [List.length_append, hl.out]; simp only [List.length_singleton]; intro h0; first | (have := hs.out h0; omega) | (have := hs.out trivial; omega)
    · have hpv' : (pv == 0) = false := by rw [beq_eq_false_iff_ne]; exact hpv
      gi_wp2_with fail
      refine ⟨K2.out, KB_of_grown R2.out (by omega) (by omega), ⟨grown_trans hg.out R2.out, ?_⟩, ?_, ?_, ?_⟩
      · rw [List.length_append, hl.out]; exact b2.out
      · rw [List.length_append, hl.out]; simp only [List.length_singleton]; rw [upto_succ, ← hq.out, ← hp.out]
      · rw [List.length_append, hl.out]; simp only [List.length_singleton]; omega
      · rw [List.length_append, hl.out]; simp only [List.length_singleton]; intro h0; first | (have := hs.out h0; omega) | (have := hs.out trivial; omega)
set_option maxHeartbeats 4000000 in
set_option maxRecDepth 100000 in
theorem outer_within (lo : Nat) (t l b r stp wth : Int) (nc N : Nat) (hN : HasN t l b r nc N) (pv : Int) (z Bn al nb p lim iB Bx : Nat) (W0 W : World) (pre : List (Int × Int)) (x1 x2 q1 q2 : Int) (m : Nat) (y0 y1 y2 y12 y13 y14 y15 y16 y17 y18 y19 y20 y21 y22 y23 y24 y25 y26 y27 y28 y29 y30 y31 y32 y33 y34 y35 y36 y37 y38 y39 y40 y41 y42 y43 y44 y45 y46 y47 y48 y49 y50 y51 y52 y53 y54 y55 y56 y57 y58 y59 y60 y61 y62 y63 y64 y65 y66 y67 y68 y69 y70 y71 y72 y73 y74 y75 y76 y77 y78 y79 y80 y81 y82 y83 y84 y85 y86 : Value)
    (hE : Env t l b r stp wth N pv z Bn al nb p lim W0) (hi : lim ≤ iB) (hil : iB < W0.heap.size) (hBx : W0.heap.size ≤ Bx) (bX : Blk W Bx #[.int .i64 x1, .int .i64 x2] 28)
    (hlo : W0.heap.size ≤ lo) (r₀ : Loop) (hr : W.heap[lo]? = some (.loop r₀)) (hg : W0.grownBy W (some iB)) (bi : Blk W iB #[.int .i64 m] 3) (hp : Hid (pre = upto t l nc m)) (hm : m < N) (hm9 : m < 9000) (hs : pv = 0 → ¬ (1 ≤ stp ∧ stp ≤ (m : Int))) (hq : Hid ((q1, q2) = plc t l nc m)) (HA : AtIs t l b r m q1 q2) (h1 : x1 = q1) (h2 : x2 = q2) (hw : (m : Int) + 1 = wth) :
    (c2 (rfO (Try.f4.body.getD .skip))).wpIn (Fence.wide.inRound lo) (12 - 1 - 1) Try.prog (ownPostG W0.heap.size (KB Bn) (In1 t l nc stp pv W0 iB) (Ix1 t l nc N stp pv W0 iB) (pre ++ [(x1, x2)]) W) { tmps := #[y0, y1, y2, .pointer (some ⟨z, 0, none⟩), .pointer (some ⟨(z + 1), 0, none⟩), .pointer (some ⟨(z + 2), 0, none⟩), .pointer (some ⟨(z + 3), 0, none⟩), .pointer (some ⟨al, 0, none⟩), .pointer (some ⟨nb, 0, none⟩), .pointer (some ⟨p, 0, none⟩), .pointer (some ⟨iB, 0, none⟩), .pointer (some ⟨Bx, 0, none⟩), y12, y13, y14, y15, y16, y17, y18, y19, y20, y21, y22, y23, y24, y25, y26, y27, y28, y29, y30, y31, y32, y33, y34, y35, y36, y37, y38, y39, y40, y41, y42, y43, y44, y45, y46, y47, y48, y49, y50, y51, y52, y53, y54, y55, y56, y57, y58, y59, y60, y61, y62, y63, y64, y65, y66, y67, y68, y69, y70, y71, y72, y73, y74, y75, y76, y77, y78, y79, y80, y81, y82, y83, y84, y85, y86], defers := [] } W := by
  have E := hE.kept hg hi
  have hlg := hE.lg
  have hlz := hE.lz
  have hz := hg.size
  have hl : Hid (pre.length = m) := hide (by rw [hp.out, upto_len])
  have hN' : (m : Int) < N := by omega
  obtain ⟨a0, a1, a2, a3⟩ := E.fa.c4
  obtain ⟨v, bR⟩ := E.fr
  have ci := bi.c1
  have cn := E.fn.c1
  replace bR := hide bR
  replace bX := hide bX
  replace bi := hide bi
  replace hg := hide hg
  replace hr := hide hr
  replace E := hide E
  replace hs := hide hs
  clear hE
  dsimp only [Try.f4, Option.getD, rfO, c1, c2]
  subst h1 h2 hw
  gi_wp2_with fail
  refine ⟨trivial, (CallsIn.inRound lo (callsIn_wide.2 (HA.out _))).mono ?_⟩
  rintro e w' ⟨rfl, hb⟩
  have bi' := bi.out.keep hb
  have ci' := fun o => (bi'.alloc o).c1
  have fi' := fun o => (bi'.alloc o).fr 0
  have sX := bX.out.keep hb
  have s0 := fun o => (sX.alloc o).c2.1
  have s1 := fun o => (sX.alloc o).c2.2
  have rX := bR.out.keep hb
  have r0 := fun o => (rX.alloc o).c1
  have rf := fun o => (rX.alloc o).fr 0
  have E' := hide (E.out.keep hb)
  have KF := fun (B : Nat) {a : Addr} {u : Value} => (KeepsFrom.keep (B := B) hb).trans (((KeepsOthers.alloc w' (spotO x1 x2)).from B).trans ((KeepsOthers.setCell _ a u).from B))
  have R := grown_alloc (grown_below hb (some iB)) (spotO x1 x2)
  have zw := hb.size
  replace hb := hide hb
  clear a0 a1 a2 a3 ci cn sX rX
  obtain ⟨w2, hw2⟩ : ∃ w2, (w'.alloc (spotO x1 x2)).setCell ⟨iB, 0, none⟩ (.int .i64 ((m : Int) + 1)) = w2 := ⟨_, rfl⟩
  have E2 := hide ((E'.out.alloc (spotO x1 x2)).kept (grownBy_setCell' (w'.alloc (spotO x1 x2)) iB (.int .i64 ((m : Int) + 1))) hi)
  have b2 := hide ((bi'.alloc (spotO x1 x2)).set (.int .i64 ((m : Int) + 1)))
  have R2 := hide (grown_set R (.int .i64 ((m : Int) + 1)))
  have K2 := hide (KF W0.heap.size (a := ⟨iB, 0, none⟩) (u := .int .i64 ((m : Int) + 1)))
  rw [hw2] at E2 b2 R2 K2
  have c2' := b2.out.c1
  have ew := E2.out.fw.c1
  have en := E2.out.fn.c1
  have ep := E2.out.fp.c1
  have es := E2.out.fs.c1
  clear KF R
  have ea := fun o => (E2.out.alloc o).fl.c1
  gi_wp2_with fail
  have b1 := hide (b2.out.alloc (.cells #[.int .i64 0] 3))
  have k1 := hide (Blk.new w2 #[.int .i64 0] 3)
  have E1 := hide (E2.out.alloc (.cells #[.int .i64 0] 3))
  have R1 := hide (grown_alloc R2.out (.cells #[.int .i64 0] 3))
  have K1 := hide (K2.out.trans ((KeepsOthers.alloc _ (.cells #[.int .i64 0] 3)).from _))
  have z2 := R2.out.size
  have z1 : w2.heap.size < (w2.alloc (.cells #[.int .i64 0] 3)).heap.size := by simp
  obtain ⟨W1, hW1⟩ : ∃ W1, w2.alloc (.cells #[.int .i64 0] 3) = W1 := ⟨_, rfl⟩
  rw [hW1] at b1 k1 E1 R1 K1 z1 ⊢
  clear hW1 hw2
  have hlo1 := K1.out.same lo _ hlo hr.out rfl
  clear ea ew en ep es c2' ci' fi' s0 s1 r0 rf
  refine range_in (n := 10) (by decide) 14 hlo1 (gives 9 Bn (by decide) t l b r nc N hN W1 E1.out.fg.c4) rfl E1.out.fg.lt (In2 t l nc W1 w2.heap.size W0.heap.size W) (Ix2 t l nc N W1 w2.heap.size W0.heap.size W)
    (OwnFrom.and (OwnFrom.and (OwnFrom.and (ownFrom_grown W1 _) (Own.from (Blk.own _ _ _) _)) (ownFrom_keepsFrom R1.out.size)) (ownFrom_pure _ _))
    (fun c => OwnFrom.or (ownFrom_pure _ _) (OwnFrom.and (OwnFrom.and (OwnFrom.and (ownFrom_grown W1 _) (Own.from (Blk.own _ _ (fun _ => #[.int .i64 50])) _)) (ownFrom_keepsFrom R1.out.size)) (ownFrom_pure _ _)))
    ⟨⟨⟨grown_refl _ _, k1.out⟩, K1.out⟩, rfl, by decide⟩ (fun pre W h => h.1.1.1.size) ?assign ?body ?done ?stop
  case assign =>
    intro lo2 x W K hK
    gi_wp2
    exact hK
  case body =>
    rintro lo2 pre' ⟨x1', x2'⟩ W' Bx' hlo2 hr2 ⟨⟨⟨hg2, bk2⟩, hK2⟩, hp2, h502⟩ hBx2 bX2 hlt2
    simp only [List.setIfInBounds_toArray, List.set_cons_succ, List.set_cons_zero]
    exact inner_round lo lo2 t l b r stp _ nc N pv z Bn al nb p lim w2.heap.size Bx' W0.heap.size W1 W W' pre' x1' x2' _ _ pre'.length _ _ _ _ _ _ _ _ _ _ _ _ _ _ _ _ _ _ _ _ _ _ _ _ _ _ _ _ _ _ _ _ _ _ _ _ _ _ _ _ _ _ _ _ _ _ _ _ _ _ _ _ _ _ _ _ _ _ _ _ _ _ _ _ _ _ _ _ _ _ _ _ _ _ _ _ _ _ _ _ _ _ _
      E1.out (by omega) (by omega) (by omega) hBx2 bX2 hg2 bk2 hK2 (hide hp2) h502 (hide rfl) (atIs hN hlt2)
  case done =>
    rintro W' ⟨⟨⟨hg2, bk2⟩, hK2⟩, hp2, h502⟩
    rw [upto_len] at bk2 h502
    have R3 := grown_beyond R1.out hg2 (fun k e => by cases e; omega)
    have bi3 := b1.out.kept hg2 (by simp; omega)
    have E3 := E1.out.kept hg2 (by omega)
    have c3 := bi3.c1
    have ck3 := bk2.c1
    have en3 := E3.fn.c1
    have ep3 := E3.fp.c1
    have es3 := E3.fs.c1
    clear bk2 E3 hg2
    have hmn := ite_min
    have hmin : min (N : Int) 50 = N := by omega
    by_cases h9 : (9000 : Int) ≤ (m : Int) + 1
    · exfalso; omega
    · by_cases hpv : pv = 0
      · subst hpv
        by_cases hst : (m : Int) + 1 = stp
        · subst hst
          gi_wp2_with fail
          refine ⟨hK2, .inr ⟨⟨grown_trans hg.out R3, ?_⟩, rfl, ?_⟩⟩
          · rw [List.length_append, hl.out]; exact bi3
          · rw [List.length_append, hl.out]; simp only [List.length_singleton]; exact ⟨by omega, by omega, by right; exact ⟨rfl, by omega⟩, fun h0 => by first | (have := hs.out h0; omega) | (have := hs.out trivial; omega)⟩
        · have hst' : (((m : Int) + 1) == stp) = false := by rw [beq_eq_false_iff_ne]; exact hst
          gi_wp2_with fail
          refine ⟨hK2, KB_of_grown R3 (by omega) (by omega), ⟨grown_trans hg.out R3, ?_⟩, ?_, ?_, ?_⟩
          · rw [List.length_append, hl.out]; exact bi3
          · rw [List.length_append, hl.out]; simp only [List.length_singleton]; rw [upto_succ, ← hq.out, ← hp.out]
          · rw [List.length_append, hl.out]; simp only [List.length_singleton]; omega
          · rw [List.length_append, hl.out]; simp only [List.length_singleton]; intro h0; first | (have := hs.out h0; omega) | (have := hs.out trivial; omega)
      · have hpv' : (pv == 0) = false := by rw [beq_eq_false_iff_ne]; exact hpv
        gi_wp2_with fail
        refine ⟨hK2, KB_of_grown R3 (by omega) (by omega), ⟨grown_trans hg.out R3, ?_⟩, ?_, ?_, ?_⟩
        · rw [List.length_append, hl.out]; exact bi3
        · rw [List.length_append, hl.out]; simp only [List.length_singleton]; rw [upto_succ, ← hq.out, ← hp.out]
        · rw [List.length_append, hl.out]; simp only [List.length_singleton]; omega
        · rw [List.length_append, hl.out]; simp only [List.length_singleton]; intro h0; first | (have := hs.out h0; omega) | (have := hs.out trivial; omega)
  case stop =>
    rintro c k W' hk (⟨_, hn⟩ | ⟨⟨⟨hg2, bk2⟩, hK2⟩, rfl, h502⟩)
    · exact (hn ⟨k, hk, rfl⟩).elim
    rw [upto_len] at h502
    have R3 := grown_beyond R1.out hg2 (fun k e => by cases e; omega)
    have bi3 := b1.out.kept hg2 (by simp; omega)
    have E3 := E1.out.kept hg2 (by omega)
    have c3 := bi3.c1
    have ck3 := bk2.c1
    have en3 := E3.fn.c1
    have ep3 := E3.fp.c1
    have es3 := E3.fs.c1
    clear bk2 E3 hg2
    have hmn := ite_min
    have hmin : min (N : Int) 50 = 50 := by omega
    by_cases h9 : (9000 : Int) ≤ (m : Int) + 1
    · gi_wp2_with fail
      refine ⟨hK2, .inr ⟨⟨grown_trans hg.out R3, ?_⟩, rfl, ?_⟩⟩
      · rw [List.length_append, hl.out]; exact bi3
      · rw [List.length_append, hl.out]; simp only [List.length_singleton]; exact ⟨by omega, by omega, by left; omega, fun h0 => by first | (have := hs.out h0; omega) | (have := hs.out trivial; omega)⟩
    · by_cases hpv : pv = 0
      · subst hpv
        by_cases hst : (m : Int) + 1 = stp
        · subst hst
          gi_wp2_with fail
          refine ⟨hK2, .inr ⟨⟨grown_trans hg.out R3, ?_⟩, rfl, ?_⟩⟩
          · rw [List.length_append, hl.out]; exact bi3
          · rw [List.length_append, hl.out]; simp only [List.length_singleton]; exact ⟨by omega, by omega, by right; exact ⟨rfl, by omega⟩, fun h0 => by first | (have := hs.out h0; omega) | (have := hs.out trivial; omega)⟩
        · have hst' : (((m : Int) + 1) == stp) = false := by rw [beq_eq_false_iff_ne]; exact hst
          gi_wp2_with fail
          refine ⟨hK2, KB_of_grown R3 (by omega) (by omega), ⟨grown_trans hg.out R3, ?_⟩, ?_, ?_, ?_⟩
          · rw [List.length_append, hl.out]; exact bi3
          · rw [List.length_append, hl.out]; simp only [List.length_singleton]; rw [upto_succ, ← hq.out, ← hp.out]
          · rw [List.length_append, hl.out]; simp only [List.length_singleton]; omega
          · rw [List.length_append, hl.out]; simp only [List.length_singleton]; intro h0; first | (have := hs.out h0; omega) | (have := hs.out trivial; omega)
      · have hpv' : (pv == 0) = false := by rw [beq_eq_false_iff_ne]; exact hpv
        gi_wp2_with fail
        refine ⟨hK2, KB_of_grown R3 (by omega) (by omega), ⟨grown_trans hg.out R3, ?_⟩, ?_, ?_, ?_⟩
        · rw [List.length_append, hl.out]; exact bi3
        · rw [List.length_append, hl.out]; simp only [List.length_singleton]; rw [upto_succ, ← hq.out, ← hp.out]
        · rw [List.length_append, hl.out]; simp only [List.length_singleton]; omega
        · rw [List.length_append, hl.out]; simp only [List.length_singleton]; intro h0; first | (have := hs.out h0; omega) | (have := hs.out trivial; omega)
end Go.Proofs.Ytibogmlnbipbbaa
