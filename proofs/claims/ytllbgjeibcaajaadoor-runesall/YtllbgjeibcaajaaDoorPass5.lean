/- One pass of the law's own goes: behind the range k is as many as are asked. Proved of the Go text. -/
import Derived.Test.YtllbgjeibcaajaaDoorOuter5
namespace Go.Proofs.YtllbgjeibcaajaaDoor
open Go.RowKit Go.Shelf Go.Sort
set_option linter.unusedVariables false
attribute [local go_sem] Oper.semAt_some

/-- How many runes a pass comes to. -/
def Full (N : Nat) (stp pv : Int) : Int := if pv = 0 ∧ 1 ≤ stp ∧ stp < (N : Int) then stp else N
theorem full_done {N : Nat} {stp pv : Int} (hs : pv = 0 → ¬ (1 ≤ stp ∧ stp ≤ (N : Int))) : (N : Int) = Full N stp pv := by
  unfold Full
  split
  · rename_i k; have := hs k.1; omega
  · rfl
theorem full_broke {N k : Nat} {stp pv : Int} (hk : k ≤ N) (h0 : pv = 0) (h : 1 ≤ stp ∧ (k : Int) = stp) : (k : Int) = Full N stp pv := by
  unfold Full
  split
  · omega
  · omega
set_option maxHeartbeats 4000000 in
set_option maxRecDepth 100000 in
theorem pass_range (s : ByteArray) (hs : s.size ≤ 200000) (stp pv : Int) (hpv : pv = 0 ∨ pv = 1) (z g c lB Bn al p lim kB : Nat) (W0 : World) (Q : Exit → Act → World → Prop) (dd : List Deferred) (y0 y1 y9 y10 y11 y12 y13 y14 y15 y16 y17 y18 y19 y20 y21 y22 y23 y24 y25 y27 y28 y29 y30 y31 y32 y33 y34 y35 y36 y37 y38 y39 y40 y41 y42 y43 y44 y45 y46 y47 y48 y49 y50 y51 y52 y53 y54 y55 y56 y57 y58 y59 y60 y61 y62 y63 y64 y65 y66 y67 y68 y69 y70 y71 y72 y73 y74 y75 y76 y77 y78 y79 y80 y81 y82 y83 y84 y85 y86 y87 y88 y89 y90 y91 y92 y93 y94 y95 y96 y97 y98 y99 y100 y101 y102 y103 y104 y105 y106 y107 y108 : Value)
    (hE : Env s stp pv z g c lB Bn al p lim W0) (hk : lim ≤ kB) (bk : Blk W0 kB #[.int .i64 0] 3)
    (hQ : ∀ (D : Nat) (W : World), W0.heap.size ≤ D → W.heap[D]? = some (.deferred (some [])) → W0.grownBy W (some kB) → Blk W kB #[.int .i64 (Full (rc s 0) stp pv)] 3 → Q .normal { tmps := #[y0, y1, .pointer (some ⟨z, 0, none⟩), .pointer (some ⟨(z + 1), 0, none⟩), .pointer (some ⟨(z + 2), 0, none⟩), .pointer (some ⟨lB, 0, none⟩), .pointer (some ⟨al, 0, none⟩), .pointer (some ⟨p, 0, none⟩), .pointer (some ⟨kB, 0, none⟩), y9, y10, y11, y12, y13, y14, y15, y16, y17, y18, y19, y20, y21, y22, y23, y24, y25, .func (.func 23) #[] #[.pointer (some ⟨Bn, 0, none⟩)], y27, y28, y29, y30, y31, y32, y33, y34, y35, y36, y37, y38, y39, y40, y41, y42, y43, y44, y45, y46, y47, y48, y49, y50, y51, y52, y53, y54, y55, y56, y57, y58, y59, y60, y61, y62, y63, y64, y65, y66, y67, y68, y69, y70, y71, y72, y73, y74, y75, y76, y77, y78, y79, y80, y81, y82, y83, y84, y85, y86, y87, y88, y89, y90, y91, y92, y93, y94, y95, y96, y97, y98, y99, y100, y101, y102, y103, y104, y105, y106, y107, y108], defers := { target := .collected D, args := #[] } :: dd } W) :
    (rfO (Tryd.f17.body.getD .skip)).wp Tryd.prog (Exit.inBlock 2 Q) { tmps := #[y0, y1, .pointer (some ⟨z, 0, none⟩), .pointer (some ⟨(z + 1), 0, none⟩), .pointer (some ⟨(z + 2), 0, none⟩), .pointer (some ⟨lB, 0, none⟩), .pointer (some ⟨al, 0, none⟩), .pointer (some ⟨p, 0, none⟩), .pointer (some ⟨kB, 0, none⟩), y9, y10, y11, y12, y13, y14, y15, y16, y17, y18, y19, y20, y21, y22, y23, y24, y25, .func (.func 23) #[] #[.pointer (some ⟨Bn, 0, none⟩)], y27, y28, y29, y30, y31, y32, y33, y34, y35, y36, y37, y38, y39, y40, y41, y42, y43, y44, y45, y46, y47, y48, y49, y50, y51, y52, y53, y54, y55, y56, y57, y58, y59, y60, y61, y62, y63, y64, y65, y66, y67, y68, y69, y70, y71, y72, y73, y74, y75, y76, y77, y78, y79, y80, y81, y82, y83, y84, y85, y86, y87, y88, y89, y90, y91, y92, y93, y94, y95, y96, y97, y98, y99, y100, y101, y102, y103, y104, y105, y106, y107, y108], defers := dd } W0 := by
  have hil := bk.lt
  refine range_outN (n := 12) (by decide) (fun ts x => (ts.setIfInBounds 9 (.int .i64 (plc s x).1)).setIfInBounds 10 (.int .i32 (plc s x).2)) (givesN 11 Bn (by decide) s W0 hE.fg.c1) rfl (In1 stp pv W0 kB) (Ix1 (rc s 0) stp pv W0 kB)
    (OwnFrom.and (OwnFrom.and (ownFrom_grown W0 _) (Own.from (Blk.own _ _ _) _)) (ownFrom_pure _ _))
    (fun c => OwnFrom.or (ownFrom_pure _ _) (OwnFrom.and (OwnFrom.and (ownFrom_grown W0 _) (Own.from (Blk.own _ _ _) _)) (ownFrom_pure _ _)))
    ⟨⟨grown_refl _ _, bk⟩, rfl, fun _ => by simp; omega⟩ ?assign ?body ?done ?stop
  case assign =>
    intro lo x W K hK
    gi_wp2
    exact hK
  case body =>
    rintro lo pre x W hlo ⟨r₀, hr⟩ ⟨⟨hg, bk'⟩, hp, hst⟩ hlt
    simp only [fr2, List.setIfInBounds_toArray, List.set_cons_succ, List.set_cons_zero]
    by_cases hx : x = pre.length
    · rcases hpv with h0 | h0
      · exact outer_0 lo s stp pv z g c lB Bn al p lim kB W0 W pre x (sk s x 0) (nr s (sk s x 0)) pre.length _ _ _ _ _ _ _ _ _ _ _ _ _ _ _ _ _ _ _ _ _ _ _ _ _ _ _ _ _ _ _ _ _ _ _ _ _ _ _ _ _ _ _ _ _ _ _ _ _ _ _ _ _ _ _ _ _ _ _ _ _ _ _ _ _ _ _ _ _ _ _ _ _ _ _ _ _ _ _ _ _ _ _ _ _ _ _ _ _ _ _ _ _ _ _ _ _ _ _ _ hs (hide rfl) (hide rfl) hE hk hil hlo r₀ hr hg bk' (hide hp) hlt hst hx h0
      · by_cases hm1 : pre.length = 1
        · exact outer_within lo s stp pv z g c lB Bn al p lim kB W0 W pre x (sk s x 0) (nr s (sk s x 0)) pre.length _ _ _ _ _ _ _ _ _ _ _ _ _ _ _ _ _ _ _ _ _ _ _ _ _ _ _ _ _ _ _ _ _ _ _ _ _ _ _ _ _ _ _ _ _ _ _ _ _ _ _ _ _ _ _ _ _ _ _ _ _ _ _ _ _ _ _ _ _ _ _ _ _ _ _ _ _ _ _ _ _ _ _ _ _ _ _ _ _ _ _ _ _ _ _ _ _ _ _ _ hs (hide rfl) (hide rfl) hE hk hil hlo r₀ hr hg bk' (hide hp) hlt hst hx h0 hm1
        · exact outer_1 lo s stp pv z g c lB Bn al p lim kB W0 W pre x (sk s x 0) (nr s (sk s x 0)) pre.length _ _ _ _ _ _ _ _ _ _ _ _ _ _ _ _ _ _ _ _ _ _ _ _ _ _ _ _ _ _ _ _ _ _ _ _ _ _ _ _ _ _ _ _ _ _ _ _ _ _ _ _ _ _ _ _ _ _ _ _ _ _ _ _ _ _ _ _ _ _ _ _ _ _ _ _ _ _ _ _ _ _ _ _ _ _ _ _ _ _ _ _ _ _ _ _ _ _ _ _ hs (hide rfl) (hide rfl) hE hk hil hlo r₀ hr hg bk' (hide hp) hlt hst hx h0 hm1
    · exact outer_bad lo s stp pv z g c lB Bn al p lim kB W0 W pre x (sk s x 0) (nr s (sk s x 0)) pre.length _ _ _ _ _ _ _ _ _ _ _ _ _ _ _ _ _ _ _ _ _ _ _ _ _ _ _ _ _ _ _ _ _ _ _ _ _ _ _ _ _ _ _ _ _ _ _ _ _ _ _ _ _ _ _ _ _ _ _ _ _ _ _ _ _ _ _ _ _ _ _ _ _ _ _ _ _ _ _ _ _ _ _ _ _ _ _ _ _ _ _ _ _ _ _ _ _ _ _ _ hs (hide rfl) (hide rfl) hE hk hil hlo r₀ hr hg bk' (hide hp) hlt hst hx
  case done =>
    rintro D W hD ⟨⟨hg, bk'⟩, hp, hst⟩ hK
    rw [List.length_range] at bk' hst
    rw [full_done hst] at bk'
    exact hQ D W hD hK hg bk'
  case stop =>
    rintro D c k W hD hk' (⟨_, hn⟩ | ⟨⟨hg, bk'⟩, rfl, h0, hb⟩) hK
    · exact (hn ⟨k, hk', rfl⟩).elim
    rw [List.length_range] at bk' hb
    rw [full_broke hk' h0 hb] at bk'
    go_wp2_with fail
    exact hQ D W hD hK hg bk'
end Go.Proofs.YtllbgjeibcaajaaDoor
