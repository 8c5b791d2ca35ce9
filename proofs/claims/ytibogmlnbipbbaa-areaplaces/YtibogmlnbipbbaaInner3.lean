/- A round of the range within the range: the law AreaPlaces. Proved of the Go text. -/
import Derived.Test.YtibogmlnbipbbaaEnv3
namespace Go.Proofs.Ytibogmlnbipbbaa
open Go.RowKit Go.Shelf Go.Sort
set_option linter.unusedVariables false
attribute [local go_sem] Oper.semAt_some

/-- Between two rounds: k is how many places have come, they are the area's first, fewer than 50. -/
def In2 (t l : Int) (nc : Nat) (W1 : World) (kB B0 : Nat) (Ws : World) (pre : List (Int × Int)) (W : World) : Prop :=
  ((W1.grownBy W (some kB) ∧ Blk W kB #[.int .i64 pre.length] 3) ∧ KeepsFrom B0 Ws W) ∧ (pre = upto t l nc pre.length ∧ pre.length < 50)
/-- A round has left: by a return, that no run comes to; or by a break at the fiftieth place. -/
def Ix2 (t l : Int) (nc N : Nat) (W1 : World) (kB B0 : Nat) (Ws : World) (c : Code) (pre : List (Int × Int)) (W : World) : Prop :=
  (c = .ret ∧ NoFront t l nc N pre) ∨ (((W1.grownBy W (some kB) ∧ Blk W kB #[.int .i64 50] 3) ∧ KeepsFrom B0 Ws W) ∧ (c = .exit 4 ∧ pre.length = 50))
set_option maxHeartbeats 4000000 in
set_option maxRecDepth 100000 in
theorem inner_round (l₀ lo : Nat) (t l b r stp wth : Int) (nc N : Nat) (pv : Int) (z Bn al nb p lim kB Bx B0 : Nat) (W1 Ws W : World) (pre : List (Int × Int)) (x1 x2 q1 q2 : Int) (m : Nat) (y0 y1 y2 y4 y5 y7 y8 y9 y10 y11 y12 y15 y16 y17 y18 y19 y20 y21 y22 y23 y24 y25 y26 y27 y28 y29 y30 y31 y32 y33 y34 y35 y36 y37 y38 y39 y40 y41 y42 y43 y44 y45 y46 y47 y48 y49 y50 y51 y52 y53 y54 y55 y56 y57 y58 y59 y60 y61 y62 y63 y64 y65 y66 y67 y68 y69 y70 y71 y72 y73 y74 y75 y76 y77 y78 y79 y80 y81 y82 y83 y84 y85 y86 : Value)
    (hE : Env t l b r stp wth N pv z Bn al nb p lim W1) (hk : lim ≤ kB) (hB0 : B0 ≤ W1.heap.size) (hkl : kB < W1.heap.size) (hBx : W1.heap.size ≤ Bx) (bX : Blk W Bx #[.int .i64 x1, .int .i64 x2] 28)
    (hg : W1.grownBy W (some kB)) (bk : Blk W kB #[.int .i64 m] 3) (hK : KeepsFrom B0 Ws W) (hp : Hid (pre = upto t l nc m)) (hm : m < 50) (hq : Hid ((q1, q2) = plc t l nc m)) (HA : AtIs t l b r m q1 q2) :
    (c2 (rfI (Try.f4.body.getD .skip))).wpIn ((Fence.wide.inRound l₀).inRound lo) (10 - 1 - 1) Try.prog (ownPostG W1.heap.size (KB Bn) (In2 t l nc W1 kB B0 Ws) (Ix2 t l nc N W1 kB B0 Ws) (pre ++ [(x1, x2)]) W) { tmps := #[y0, y1, y2, .pointer (some ⟨z, 0, none⟩), y4, y5, .pointer (some ⟨(z + 3), 0, none⟩), y7, y8, y9, y10, y11, y12, .pointer (some ⟨kB, 0, none⟩), .pointer (some ⟨Bx, 0, none⟩), y15, y16, y17, y18, y19, y20, y21, y22, y23, y24, y25, y26, y27, y28, y29, y30, y31, y32, y33, y34, y35, y36, y37, y38, y39, y40, y41, y42, y43, y44, y45, y46, y47, y48, y49, y50, y51, y52, y53, y54, y55, y56, y57, y58, y59, y60, y61, y62, y63, y64, y65, y66, y67, y68, y69, y70, y71, y72, y73, y74, y75, y76, y77, y78, y79, y80, y81, y82, y83, y84, y85, y86], defers := [] } W := by
  have E := hE.kept hg hk
  have hlg := hE.lg
  have hlz := hE.lz
  have hz := hg.size
  have hl : Hid (pre.length = m) := hide (by rw [hp.out, upto_len])
  obtain ⟨a0, a1, a2, a3⟩ := E.fa.c4
  obtain ⟨v, bR⟩ := E.fr
  have ck := bk.c1
  replace bR := hide bR
  replace bX := hide bX
  replace bk := hide bk
  replace hg := hide hg
  replace hK := hide hK
  clear E hE
  dsimp only [Try.f4, Option.getD, rfI, rfO, c1, c2]
  by_cases h1 : x1 = q1
  · by_cases h2 : x2 = q2
    · subst h1 h2
      by_cases h50 : (50 : Int) ≤ (m : Int) + 1
      · gi_wp2_with fail
        refine ⟨trivial, (CallsIn.inRound lo (CallsIn.inRound l₀ (callsIn_wide.2 (HA.out _)))).mono ?_⟩
        rintro e w' ⟨rfl, hb⟩
        have bk' := bk.out.keep hb
        have ck' := fun o => (bk'.alloc o).c1
        have fk' := fun o => (bk'.alloc o).fr 0
        have sX := bX.out.keep hb
        have s0 := fun o => (sX.alloc o).c2.1
        have s1 := fun o => (sX.alloc o).c2.2
        have rX := bR.out.keep hb
        have r0 := fun o => (rX.alloc o).c1
        have rf := fun o => (rX.alloc o).fr 0
        have KF := fun (B : Nat) {a : Addr} {u : Value} => (KeepsFrom.keep (B := B) hb).trans (((KeepsOthers.alloc w' (spotO x1 x2)).from B).trans ((KeepsOthers.setCell _ a u).from B))
        have R := grown_alloc (grown_below hb (some kB)) (spotO x1 x2)
        replace hb := hide hb
        clear a0 a1 a2 a3 ck sX rX
        gi_wp2_with fail
        refine ⟨KF _, .inr ⟨⟨⟨grown_trans hg.out (grown_set R _), ?_⟩, hK.out.trans (KF _)⟩, rfl, ?_⟩⟩
        · rw [show (50 : Int) = (m : Int) + 1 by omega]; exact (bk'.alloc _).set _
        · rw [List.length_append, hl.out]; simp only [List.length_singleton]; omega
      · gi_wp2_with fail
        refine ⟨trivial, (CallsIn.inRound lo (CallsIn.inRound l₀ (callsIn_wide.2 (HA.out _)))).mono ?_⟩
        rintro e w' ⟨rfl, hb⟩
        have bk' := bk.out.keep hb
        have ck' := fun o => (bk'.alloc o).c1
        have fk' := fun o => (bk'.alloc o).fr 0
        have sX := bX.out.keep hb
        have s0 := fun o => (sX.alloc o).c2.1
        have s1 := fun o => (sX.alloc o).c2.2
        have rX := bR.out.keep hb
        have r0 := fun o => (rX.alloc o).c1
        have rf := fun o => (rX.alloc o).fr 0
        have KF := fun (B : Nat) {a : Addr} {u : Value} => (KeepsFrom.keep (B := B) hb).trans (((KeepsOthers.alloc w' (spotO x1 x2)).from B).trans ((KeepsOthers.setCell _ a u).from B))
        have R := grown_alloc (grown_below hb (some kB)) (spotO x1 x2)
        replace hb := hide hb
        clear a0 a1 a2 a3 ck sX rX
        gi_wp2_with fail
        refine ⟨KF _, KB_of_grown (grown_set R _) (by omega) (by omega), ⟨⟨grown_trans hg.out (grown_set R _), ?_⟩, hK.out.trans (KF _)⟩, ?_, ?_⟩
        · rw [List.length_append, hl.out]; exact (bk'.alloc _).set _
        · rw [List.length_append, hl.out]; simp only [List.length_singleton]; rw [upto_succ, ← hq.out, ← hp.out]
        · rw [List.length_append, hl.out]; simp only [List.length_singleton]; omega
    · subst h1
      gi_wp2_with fail
      refine ⟨trivial, (CallsIn.inRound lo (CallsIn.inRound l₀ (callsIn_wide.2 (HA.out _)))).mono ?_⟩
      rintro e w' ⟨rfl, hb⟩
      have bk' := bk.out.keep hb
      have ck' := fun o => (bk'.alloc o).c1
      have fk' := fun o => (bk'.alloc o).fr 0
      have sX := bX.out.keep hb
      have s0 := fun o => (sX.alloc o).c2.1
      have s1 := fun o => (sX.alloc o).c2.2
      have rX := bR.out.keep hb
      have r0 := fun o => (rX.alloc o).c1
      have rf := fun o => (rX.alloc o).fr 0
      have KF := fun (B : Nat) {a : Addr} {u : Value} => (KeepsFrom.keep (B := B) hb).trans (((KeepsOthers.alloc w' (spotO x1 q2)).from B).trans ((KeepsOthers.setCell _ a u).from B))
      have R := grown_alloc (grown_below hb (some kB)) (spotO x1 q2)
      replace hb := hide hb
      clear a0 a1 a2 a3 ck sX rX
      gi_wp2_with fail
      refine ⟨KF _, .inl ⟨rfl, ?_⟩⟩
      rw [hp.out]
      exact noFront_of (by rw [← hq.out]; simp; omega)
  · gi_wp2_with fail
    refine ⟨trivial, (CallsIn.inRound lo (CallsIn.inRound l₀ (callsIn_wide.2 (HA.out _)))).mono ?_⟩
    rintro e w' ⟨rfl, hb⟩
    have bk' := bk.out.keep hb
    have ck' := fun o => (bk'.alloc o).c1
    have fk' := fun o => (bk'.alloc o).fr 0
    have sX := bX.out.keep hb
    have s0 := fun o => (sX.alloc o).c2.1
    have s1 := fun o => (sX.alloc o).c2.2
    have rX := bR.out.keep hb
    have r0 := fun o => (rX.alloc o).c1
    have rf := fun o => (rX.alloc o).fr 0
    have KF := fun (B : Nat) {a : Addr} {u : Value} => (KeepsFrom.keep (B := B) hb).trans (((KeepsOthers.alloc w' (spotO q1 q2)).from B).trans ((KeepsOthers.setCell _ a u).from B))
    have R := grown_alloc (grown_below hb (some kB)) (spotO q1 q2)
    replace hb := hide hb
    clear a0 a1 a2 a3 ck sX rX
    gi_wp2_with fail
    refine ⟨KF _, .inl ⟨rfl, ?_⟩⟩
    rw [hp.out]
    exact noFront_of (by rw [← hq.out]; simp; omega)
end Go.Proofs.Ytibogmlnbipbbaa
