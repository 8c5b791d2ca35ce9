/- One pass of the law AreaPlaces: behind the range i is as many as are asked. Proved of the Go text. -/
import Derived.Test.YtibogmlnbipbbaaOuter3
namespace Go.Proofs.Ytibogmlnbipbbaa
open Go.RowKit Go.Shelf Go.Sort
set_option linter.unusedVariables false
attribute [local go_sem] Oper.semAt_some

/-- How many places a pass comes to. -/
def Full (N : Nat) (stp pv : Int) : Int := if pv = 0 ∧ 1 ≤ stp then min (min (N : Int) 9000) stp else min (N : Int) 9000
theorem full_done {N : Nat} {stp pv : Int} (h : N < 9000) (hs : pv = 0 → ¬ (1 ≤ stp ∧ stp ≤ (N : Int))) : (N : Int) = Full N stp pv := by
  unfold Full
  split
  · rename_i k; have := hs k.1; omega
  · omega
theorem full_broke {N k : Nat} {stp pv : Int} (hk : k ≤ N) (h : Broke stp pv k) : (k : Int) = Full N stp pv := by
  unfold Full
  obtain ⟨h1, h2, h3, h4⟩ := h
  split
  · rename_i e; have := h4 e.1; omega
  · rename_i e; omega
set_option maxHeartbeats 4000000 in
set_option maxRecDepth 100000 in
theorem pass_range (t l b r stp wth : Int) (nc N : Nat) (hN : HasN t l b r nc N) (pv : Int) (z Bn al nb p lim iB : Nat) (W0 : World) (Q : Exit → Act → World → Prop) (dd : List Deferred) (y0 y1 y2 y11 y12 y13 y14 y15 y16 y17 y18 y19 y20 y21 y22 y23 y24 y25 y26 y27 y28 y30 y31 y32 y33 y34 y35 y36 y37 y38 y39 y40 y41 y42 y43 y44 y45 y46 y47 y48 y49 y50 y51 y52 y53 y54 y55 y56 y57 y58 y59 y60 y61 y62 y63 y64 y65 y66 y67 y68 y69 y70 y71 y72 y73 y74 y75 y76 y77 y78 y79 y80 y81 y82 y83 y84 y85 y86 : Value)
    (hE : Env t l b r stp wth N pv z Bn al nb p lim W0) (hi : lim ≤ iB) (bi : Blk W0 iB #[.int .i64 0] 3)
    (hQ : ∀ (D : Nat) (W : World), W0.heap.size ≤ D → W.heap[D]? = some (.deferred (some [])) → W0.grownBy W (some iB) → Blk W iB #[.int .i64 (Full N stp pv)] 3 → Q .normal { tmps := #[y0, y1, y2, .pointer (some ⟨z, 0, none⟩), .pointer (some ⟨(z + 1), 0, none⟩), .pointer (some ⟨(z + 2), 0, none⟩), .pointer (some ⟨(z + 3), 0, none⟩), .pointer (some ⟨al, 0, none⟩), .pointer (some ⟨nb, 0, none⟩), .pointer (some ⟨p, 0, none⟩), .pointer (some ⟨iB, 0, none⟩), y11, y12, y13, y14, y15, y16, y17, y18, y19, y20, y21, y22, y23, y24, y25, y26, y27, y28, .func (.func 26) #[] #[.pointer (some ⟨Bn, 0, none⟩)], y30, y31, y32, y33, y34, y35, y36, y37, y38, y39, y40, y41, y42, y43, y44, y45, y46, y47, y48, y49, y50, y51, y52, y53, y54, y55, y56, y57, y58, y59, y60, y61, y62, y63, y64, y65, y66, y67, y68, y69, y70, y71, y72, y73, y74, y75, y76, y77, y78, y79, y80, y81, y82, y83, y84, y85, y86], defers := { target := .collected D, args := #[] } :: dd } W) :
    (rfO (Try.f4.body.getD .skip)).wp Try.prog (Exit.inBlock 2 Q) { tmps := #[y0, y1, y2, .pointer (some ⟨z, 0, none⟩), .pointer (some ⟨(z + 1), 0, none⟩), .pointer (some ⟨(z + 2), 0, none⟩), .pointer (some ⟨(z + 3), 0, none⟩), .pointer (some ⟨al, 0, none⟩), .pointer (some ⟨nb, 0, none⟩), .pointer (some ⟨p, 0, none⟩), .pointer (some ⟨iB, 0, none⟩), y11, y12, y13, y14, y15, y16, y17, y18, y19, y20, y21, y22, y23, y24, y25, y26, y27, y28, .func (.func 26) #[] #[.pointer (some ⟨Bn, 0, none⟩)], y30, y31, y32, y33, y34, y35, y36, y37, y38, y39, y40, y41, y42, y43, y44, y45, y46, y47, y48, y49, y50, y51, y52, y53, y54, y55, y56, y57, y58, y59, y60, y61, y62, y63, y64, y65, y66, y67, y68, y69, y70, y71, y72, y73, y74, y75, y76, y77, y78, y79, y80, y81, y82, y83, y84, y85, y86], defers := dd } W0 := by
  have E0 := hE
  have hil := bi.lt
  refine range_out (n := 12) (by decide) 11 (gives 11 Bn (by decide) t l b r nc N hN W0 E0.fg.c4) rfl E0.fg.lt (In1 t l nc stp pv W0 iB) (Ix1 t l nc N stp pv W0 iB)
    (OwnFrom.and (OwnFrom.and (ownFrom_grown W0 _) (Own.from (Blk.own _ _ _) _)) (ownFrom_pure _ _))
    (fun c => OwnFrom.or (ownFrom_pure _ _) (OwnFrom.and (OwnFrom.and (ownFrom_grown W0 _) (Own.from (Blk.own _ _ _) _)) (ownFrom_pure _ _)))
    ⟨⟨grown_refl _ _, bi⟩, rfl, by decide, fun _ => by simp; omega⟩ (fun pre W h => h.1.1.size) ?assign ?body ?done ?stop
  case assign =>
    intro lo x W K hK
    gi_wp2
    exact hK
  case body =>
    rintro lo pre ⟨x1, x2⟩ W Bx hlo ⟨r₀, hr⟩ ⟨⟨hg, bi'⟩, hp, h9, hs⟩ hBx bX hlt
    simp only [List.setIfInBounds_toArray, List.set_cons_succ, List.set_cons_zero]
    by_cases hx : x1 = (plc t l nc pre.length).1 ∧ x2 = (plc t l nc pre.length).2
    · by_cases hw : (pre.length : Int) + 1 = wth
      · exact outer_within lo t l b r stp wth nc N hN pv z Bn al nb p lim iB Bx W0 W pre x1 x2 _ _ pre.length _ _ _ _ _ _ _ _ _ _ _ _ _ _ _ _ _ _ _ _ _ _ _ _ _ _ _ _ _ _ _ _ _ _ _ _ _ _ _ _ _ _ _ _ _ _ _ _ _ _ _ _ _ _ _ _ _ _ _ _ _ _ _ _ _ _ _ _ _ _ _ _ _ _ _ _ _ _ hE hi hil hBx bX hlo r₀ hr hg bi' (hide hp) hlt h9 hs (hide rfl) (atIs hN hlt) hx.1 hx.2 hw
      · exact outer_skip lo t l b r stp wth nc N hN pv z Bn al nb p lim iB Bx W0 W pre x1 x2 _ _ pre.length _ _ _ _ _ _ _ _ _ _ _ _ _ _ _ _ _ _ _ _ _ _ _ _ _ _ _ _ _ _ _ _ _ _ _ _ _ _ _ _ _ _ _ _ _ _ _ _ _ _ _ _ _ _ _ _ _ _ _ _ _ _ _ _ _ _ _ _ _ _ _ _ _ _ _ _ _ _ hE hi hil hBx bX hlo r₀ hr hg bi' (hide hp) hlt h9 hs (hide rfl) (atIs hN hlt) hx.1 hx.2 hw
    · exact outer_bad lo t l b r stp wth nc N hN pv z Bn al nb p lim iB Bx W0 W pre x1 x2 _ _ pre.length _ _ _ _ _ _ _ _ _ _ _ _ _ _ _ _ _ _ _ _ _ _ _ _ _ _ _ _ _ _ _ _ _ _ _ _ _ _ _ _ _ _ _ _ _ _ _ _ _ _ _ _ _ _ _ _ _ _ _ _ _ _ _ _ _ _ _ _ _ _ _ _ _ _ _ _ _ _ hE hi hil hBx bX hlo r₀ hr hg bi' (hide hp) hlt h9 hs (hide rfl) (atIs hN hlt) hx
  case done =>
    rintro D W hD ⟨⟨hg, bi'⟩, hp, h9, hs⟩ hK
    rw [upto_len] at bi' h9 hs
    rw [full_done h9 hs] at bi'
    exact hQ D W hD hK hg bi'
  case stop =>
    rintro D c k W hD hk (⟨_, hn⟩ | ⟨⟨hg, bi'⟩, rfl, hb⟩) hK
    · exact (hn ⟨k, hk, rfl⟩).elim
    rw [upto_len] at bi' hb
    rw [full_broke hk hb] at bi'
    go_wp2_with fail
    exact hQ D W hD hK hg bi'
end Go.Proofs.Ytibogmlnbipbbaa
