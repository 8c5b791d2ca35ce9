/- tree.Size's closure: nodes, depth and bytes are counted in three blocks. -/
import Derived.Test.YtiajoppbgebnpaaOv9
namespace Go.Proofs.Ytiajoppbgebnpaa
open Go.RowKit Go.Sort
set_option linter.unusedVariables false

abbrev S3 := Int × Int × Int
/-- One node is counted. -/
def cnt (s : S3) (nd : Nd) (len : Nat) (d : Int) : Bool × S3 :=
  let n := wrap64 (s.1 + 1)
  let e := max s.2.1 d
  let b := if nd.kind = 2 then wrap64 (s.2.2 + nd.text.size) else s.2.2
  (decide (n ≤ 512) && decide (e ≤ 64) && decide (b ≤ 16384), (n, e, b))
/-- Where the three lie. -/
structure Cn (Bn Bd Bb : Nat) (s : S3) (w : World) : Prop where
  n : Blk w Bn #[.int .i64 s.1] 3
  d : Blk w Bd #[.int .i64 s.2.1] 3
  b : Blk w Bb #[.int .i64 s.2.2] 3
def Is3 (Bn Bd Bb k : Nat) : Prop := k = Bn ∨ k = Bd ∨ k = Bb
theorem Cn.same {Bn Bd Bb : Nat} {s : S3} {w w' : World} (h : Cn Bn Bd Bb s w) (e : ∀ k, Is3 Bn Bd Bb k → k < w.heap.size → w'.heap[k]? = w.heap[k]?) : Cn Bn Bd Bb s w' :=
  ⟨(e _ (.inl rfl) h.n.lt).trans h.n, (e _ (.inr (.inl rfl)) h.d.lt).trans h.d, (e _ (.inr (.inr rfl)) h.b.lt).trans h.b⟩
theorem Cn.lt {Bn Bd Bb : Nat} {s : S3} {w : World} (h : Cn Bn Bd Bb s w) : ∀ k, Is3 Bn Bd Bb k → k < w.heap.size := by
  rintro k (rfl | rfl | rfl)
  exact h.n.lt
  exact h.d.lt
  exact h.b.lt
theorem blk_other {w : World} {B g j : Nat} {vs : Array Value} {t : TypeId} {u : Value} (h : Blk w B vs t) (hne : B ≠ g) : Blk (w.setCell ⟨g, j, none⟩ u) B vs t := (Below.heap_setCell _ _ _ B hne).trans h
theorem Cn.setn {Bn Bd Bb : Nat} {s : S3} {w : World} (h : Cn Bn Bd Bb s w) (h1 : Bn ≠ Bd) (h2 : Bn ≠ Bb) (x : Int) : Cn Bn Bd Bb (x, s.2) (w.setCell ⟨Bn, 0, none⟩ (.int .i64 x)) := ⟨h.n.set 0 _, blk_other h.d (Ne.symm h1), blk_other h.b (Ne.symm h2)⟩
theorem Cn.setd {Bn Bd Bb : Nat} {s : S3} {w : World} (h : Cn Bn Bd Bb s w) (h1 : Bn ≠ Bd) (h2 : Bd ≠ Bb) (x : Int) : Cn Bn Bd Bb (s.1, x, s.2.2) (w.setCell ⟨Bd, 0, none⟩ (.int .i64 x)) := ⟨blk_other h.n h1, h.d.set 0 _, blk_other h.b (Ne.symm h2)⟩
theorem Cn.setb {Bn Bd Bb : Nat} {s : S3} {w : World} (h : Cn Bn Bd Bb s w) (h1 : Bn ≠ Bb) (h2 : Bd ≠ Bb) (x : Int) : Cn Bn Bd Bb (s.1, s.2.1, x) (w.setCell ⟨Bb, 0, none⟩ (.int .i64 x)) := ⟨blk_other h.n h1, blk_other h.d h2, h.b.set 0 _⟩
set_option maxHeartbeats 1000000 in
set_option maxRecDepth 100000 in
theorem count_any (Bn Bd Bb : Nat) (h1 : Bn ≠ Bd) (h2 : Bn ≠ Bb) (h3 : Bd ≠ Bb) (s : S3) (nd : Nd) (a : Option Addr) (len cap : Nat) (d : Int) (w : World) (hC : Cn Bn Bd Bb s w) :
    Calls Try.prog 62 #[exV nd (.slice a len cap), .int .i64 d, .pointer (some ⟨Bn, 0, none⟩), .pointer (some ⟨Bd, 0, none⟩), .pointer (some ⟨Bb, 0, none⟩)] w fun e w' =>
      e = .returned (.bool (cnt s nd len d).1) ∧ Cn Bn Bd Bb (cnt s nd len d).2 w' ∧ Chg (Is3 Bn Bd Bb) w w' := by
  obtain ⟨n, e, b⟩ := s
  have A := at14 nd (.slice a len cap)
  have hC0 := hC
  have c0 := A.c0
  have c3 := A.c3
  have hm := ite_max e d
  have cn := hC.n.one
  have cd := hC.d.one
  have cb := hC.b.one
  have fn := hC.n.fr 0
  have fd := hC.d.fr 0
  have fb := hC.b.fr 0
  have l1 := hC.n.lt
  have l2 := hC.d.lt
  have l3 := hC.b.lt
  have h1' := Ne.symm h1
  have h2' := Ne.symm h2
  have h3' := Ne.symm h3
  have HC := hide hC
  clear A hC hC0
  have hch := hide ((Chg.refl (Is3 Bn Bd Bb) w).alloc (exO nd (.slice a len cap)))
  by_cases hk : nd.kind = 2
  · have fin : Cn Bn Bd Bb (cnt (n, e, b) nd len d).2 ((((w.setCell ⟨Bn, 0, none⟩ (.int .i64 (wrap64 (n + 1)))).setCell ⟨Bd, 0, none⟩ (.int .i64 (max e d))).setCell ⟨Bb, 0, none⟩ (.int .i64 (wrap64 (b + nd.text.size)))).alloc (exO nd (.slice a len cap))) ∧ Chg (Is3 Bn Bd Bb) w ((((w.setCell ⟨Bn, 0, none⟩ (.int .i64 (wrap64 (n + 1)))).setCell ⟨Bd, 0, none⟩ (.int .i64 (max e d))).setCell ⟨Bb, 0, none⟩ (.int .i64 (wrap64 (b + nd.text.size)))).alloc (exO nd (.slice a len cap))) := by
      refine ⟨?_, ((((Chg.refl _ w).set Bn 0 _ (.inl rfl)).set Bd 0 _ (.inr (.inl rfl))).set Bb 0 _ (.inr (.inr rfl))).alloc _⟩
      have := (((HC.out.setn h1 h2 (wrap64 (n + 1))).setd h1 h3 (max e d)).setb h2 h3 (wrap64 (b + nd.text.size)))
      simp only [cnt, hk, if_true]
      exact this.same (fun k hk hlt => Below.heap_alloc _ _ k hlt)
    have fin := hide fin
    have hkb : (nd.kind == 2) = true := by simp [hk]
    have hcnt : (cnt (n, e, b) nd len d).1 = (decide (wrap64 (n + 1) ≤ 512) && decide (max e d ≤ 64) && decide (wrap64 (b + nd.text.size) ≤ 16384)) := by simp only [cnt, hk, if_true]
    have hcnt := hide hcnt
    go_enter Try.func62, Try.ntmps62
    go_wp2_with fail
    all_goals go_ret
    all_goals refine ⟨ret_bool ?_, fin.out⟩
    all_goals try rw [hcnt.out]
    all_goals simp [*]
    all_goals (intros; omega)
  · have fin : Cn Bn Bd Bb (cnt (n, e, b) nd len d).2 (((w.setCell ⟨Bn, 0, none⟩ (.int .i64 (wrap64 (n + 1)))).setCell ⟨Bd, 0, none⟩ (.int .i64 (max e d))).alloc (exO nd (.slice a len cap))) ∧ Chg (Is3 Bn Bd Bb) w (((w.setCell ⟨Bn, 0, none⟩ (.int .i64 (wrap64 (n + 1)))).setCell ⟨Bd, 0, none⟩ (.int .i64 (max e d))).alloc (exO nd (.slice a len cap))) := by
      refine ⟨?_, (((Chg.refl _ w).set Bn 0 _ (.inl rfl)).set Bd 0 _ (.inr (.inl rfl))).alloc _⟩
      have := ((HC.out.setn h1 h2 (wrap64 (n + 1))).setd h1 h3 (max e d))
      simp only [cnt, hk, if_false]
      exact this.same (fun k hk hlt => Below.heap_alloc _ _ k hlt)
    have fin := hide fin
    have hkb : (nd.kind == 2) = false := by simp [hk]
    have hcnt : (cnt (n, e, b) nd len d).1 = (decide (wrap64 (n + 1) ≤ 512) && decide (max e d ≤ 64) && decide (b ≤ 16384)) := by simp only [cnt, hk, if_false]
    have hcnt := hide hcnt
    go_enter Try.func62, Try.ntmps62
    go_wp2_with fail
    all_goals go_ret
    all_goals refine ⟨ret_bool ?_, fin.out⟩
    all_goals try rw [hcnt.out]
    all_goals simp [*]
    all_goals (intros; omega)
theorem cnt_see (Bn Bd Bb : Nat) (h1 : Bn ≠ Bd) (h2 : Bn ≠ Bb) (h3 : Bd ≠ Bb) : See (Cn Bn Bd Bb) (Is3 Bn Bd Bb) cnt 62 #[.pointer (some ⟨Bn, 0, none⟩), .pointer (some ⟨Bd, 0, none⟩), .pointer (some ⟨Bb, 0, none⟩)] where
  call s nd a len cap d w h := count_any Bn Bd Bb h1 h2 h3 s nd a len cap d w h
  ent := enters Try.func62 (by kernel_rfl) (by kernel_rfl)
  lt s w h := h.lt
  same s w w' h e := h.same e
end Go.Proofs.Ytiajoppbgebnpaa
