/- How a list of calls, and a list of trees, that is handed in is opened. -/
import Derived.Test.YtgopolelpckjcaaOpens9
import Derived.Test.YtgopolelpckjcaaOpM9
namespace Go.Proofs.Ytgopolelpckjcaa
open Go.ChangeShapes Go.WideShapes Go.ChangeAt Go.RowKit
set_option linter.unusedVariables false

theorem cellsO : Try.prog.cellsOf 31 = 29 := by kernel_rfl
/-- A row of calls lies in memory. -/
def OpsAt (w : World) (a : Option Addr) (len : Nat) : Prop :=
  len ≤ 4611686018427387904 ∧ (len = 0 ∨ ∃ b o, a = some ⟨b, o, none⟩ ∧ b < w.heap.size ∧ ∀ j, j < len → ∃ (k : Int) (n1 : Nd) (ks : List Ex) (a1 : Option Addr) (l1 c1 : Nat) (n2 : Nd) (ls : List Ex) (a2 : Option Addr) (l2 c2 : Nat),
    w.rangeAt b (o + j * 29) (opC k n1 (.slice a1 l1 c1) n2 (.slice a2 l2 c2)).toList ∧ Tree w (exV n1 (.slice a1 l1 c1)) (.mk n1 ks) ∧ Tree w (exV n2 (.slice a2 l2 c2)) (.mk n2 ls))
theorem ex_len {H : Type} {enc : TypeId × Value → H} {w : World} {base : Nat} {spare : Nat → Bool} {held : Bool} {fuel : Nat} {cs : List Value} {x : DataW H × List MemPlace} (hf : DataW.trod enc Try.prog w base spare held fuel 29 cs = some x) : cs.length = 14 := by
  obtain ⟨xs, n, _, _, hl, _, _⟩ := DataW.trod_struct Try.underlying29 hf
  rw [cellsX] at hl; exact hl
set_option maxRecDepth 100000 in
set_option maxHeartbeats 1000000 in
theorem open_op {H : Type} {enc : TypeId × Value → H} {w : World} {base : Nat} {spare : Nat → Bool} {held : Bool} (fuel : Nat) (cs : List Value) (x : DataW H × List MemPlace) (hf : DataW.trod enc Try.prog w base spare held fuel 31 cs = some x)
    (hw : ∀ y ∈ x.1.weights Try.prog 31, y ≤ reachBytes) : ∃ (k : Int) (n1 : Nd) (ks : List Ex) (a1 : Option Addr) (l1 c1 : Nat) (n2 : Nd) (ls : List Ex) (a2 : Option Addr) (l2 c2 : Nat),
    cs = (opC k n1 (.slice a1 l1 c1) n2 (.slice a2 l2 c2)).toList ∧ Tree w (exV n1 (.slice a1 l1 c1)) (.mk n1 ks) ∧ Tree w (exV n2 (.slice a2 l2 c2)) (.mk n2 ls) := by
  obtain ⟨xs, n, rfl, rfl, hl, hlen, hfs⟩ := DataW.trod_struct Try.underlying31 hf
  rw [cellsO] at hl
  match xs, hlen with
  | [y0, y1, y2], _ =>
    have t0 := hfs 0 _ rfl
    have t1 := hfs 1 _ rfl
    have t2 := hfs 2 _ rfl
    have hin : ∀ (j : Nat) (ty : TypeId) (d : DataW H), ([y0, y1, y2].map (·.1))[j]? = some d → [3, 29, 29][j]? = some ty → ∀ y ∈ d.weights Try.prog ty, y ≤ reachBytes := fun j ty d hd hty y hy => hw y (by
      have := DataW.weights_mem_each (P := Try.prog) hty hd y hy
      simp only [DataW.weights, Try.underlying31]
      exact this)
    obtain ⟨k, e0, _, _⟩ := DataW.trod_int Try.underlying3 t0
    obtain ⟨u1, ht1⟩ := open_ex _ _ _ t1 (hin 1 29 y1.1 rfl rfl)
    obtain ⟨u2, ht2⟩ := open_ex _ _ _ t2 (hin 2 29 y2.1 rfl rfl)
    obtain ⟨n1, ks⟩ := u1
    obtain ⟨n2, ls⟩ := u2
    obtain ⟨a1, l1, c1, hc1⟩ := ht1.cs
    obtain ⟨a2, l2, c2, hc2⟩ := ht2.cs
    rw [hc1] at ht1
    rw [hc2] at ht2
    refine ⟨k, n1, ks, a1, l1, c1, n2, ls, a2, l2, c2, ?_, ht1, ht2⟩
    have e0' : cs.take 1 = [.int .i64 k] := by simpa [cellsI] using e0
    have e1 : (cs.drop 1).take 14 = (exC n1 (.slice a1 l1 c1)).toList := by
      have := congrArg Array.toList hc1
      simpa [cellsX, Ex.nd] using this
    have e2 : (cs.drop 15).take 14 = (exC n2 (.slice a2 l2 c2)).toList := by
      have := congrArg Array.toList hc2
      simpa [cellsX, Ex.nd] using this
    have h3 : (cs.drop 15).take 14 = cs.drop 15 := List.take_of_length_le (by rw [List.length_drop]; omega)
    have h4 : cs = cs.take 1 ++ ((cs.drop 1).take 14 ++ (cs.drop 15).take 14) := by
      rw [h3, show cs.drop 15 = (cs.drop 1).drop 14 by rw [List.drop_drop], List.take_append_drop, List.take_append_drop]
    rw [h4, e0', e1, e2]
    unfold opC
    simp
theorem ops_of {H : Type} {enc : TypeId × Value → H} {w : World} {base : Nat} {spare : Nat → Bool} {held : Bool} {a0 : Option Addr} {len0 cap0 : Nat} {d : DataW H} {ps : List MemPlace} (h : DataW.Trod enc Try.prog w base spare held 22 (.slice a0 len0 cap0) d ps)
    (hw : ∀ y ∈ d.weights Try.prog 22, y ≤ reachBytes) : OpsAt w a0 len0 := by
  obtain ⟨fuel, hf⟩ := h
  rcases DataW.trod_slice Try.underlying22 hf with ⟨hc, _⟩ | ⟨a, len, cap, elems, rest, n', _, hc, hy7, hbase, hlc, hcm, hel, hget, _, _⟩
  · obtain ⟨rfl, rfl, rfl⟩ : a0 = none ∧ len0 = 0 ∧ cap0 = 0 := by simpa [Value.cells] using hc
    exact ⟨by omega, .inl rfl⟩
  · obtain ⟨rfl, hq1, hq2⟩ : a0 = some a ∧ len0 = len ∧ cap0 = cap := by simpa [Value.cells] using hc
    obtain rfl : len = len0 := hq1.symm
    obtain rfl : cap = cap0 := hq2.symm
    obtain ⟨hdd, _⟩ := Prod.mk.inj hy7
    rw [cellsO] at hget
    have hs7 := hw
    rw [hdd] at hs7
    simp only [DataW.weights, Try.underlying22] at hs7
    have hbl : len ≤ 4611686018427387904 := by
      have := hs7 ((elems.length + rest.length) * Try.prog.bytesOf 31) (by simp)
      have hb : Try.prog.bytesOf 31 = 248 := by kernel_rfl
      rw [hb] at this
      simp [reachBytes] at this
      omega
    refine ⟨hbl, ?_⟩
    by_cases hz : len = 0
    · exact .inl hz
    · obtain ⟨b, off, spot⟩ := a
      have hel' : ∀ j, j < len → ∃ cs', w.cells? base ((⟨b, off, spot⟩ : Addr).add (j * 29)) 29 = some cs' ∧ ∃ (k : Int) (n1 : Nd) (ks : List Ex) (a1 : Option Addr) (l1 c1 : Nat) (n2 : Nd) (ls : List Ex) (a2 : Option Addr) (l2 c2 : Nat), cs' = (opC k n1 (.slice a1 l1 c1) n2 (.slice a2 l2 c2)).toList ∧ Tree w (exV n1 (.slice a1 l1 c1)) (.mk n1 ks) ∧ Tree w (exV n2 (.slice a2 l2 c2)) (.mk n2 ls) := by
        intro j hj
        have hg := hget j hj
        rw [List.getElem?_eq_getElem (by omega)] at hg
        obtain ⟨cs', hc1, hc2⟩ := Option.bind_eq_some_iff.1 hg
        exact ⟨cs', hc1, open_op n' cs' _ hc2 (fun y hy => hs7 y (List.mem_cons_of_mem _ (List.mem_append_left _ (all_mem (i := j) (by rw [List.getElem?_map, List.getElem?_eq_getElem (by omega)]; rfl) y hy))))⟩
      have hcell : ∀ j, j < len → ∀ cs', w.cells? base ((⟨b, off, spot⟩ : Addr).add (j * 29)) 29 = some cs' → ∀ i v, cs'[i]? = some v → w.cell? (((⟨b, off, spot⟩ : Addr).add (j * 29)).add i) = some v := fun j hj cs' hcs i v hv => by
        obtain ⟨_, hl3, hc3⟩ := World.cells?_some hcs
        have hi : i < 29 := by rw [← hl3]; exact (List.getElem?_eq_some_iff.1 hv).1
        exact (hc3 i hi).trans hv
      obtain ⟨cs0, hcs0, _⟩ := hel' 0 (by omega)
      have hl0 : cs0.length = 29 := (World.cells?_some hcs0).2.1
      obtain ⟨v0, hv0⟩ : ∃ v, cs0[0]? = some v := ⟨_, List.getElem?_eq_getElem (by rw [hl0]; omega)⟩
      have h00 := hcell 0 (by omega) cs0 hcs0 0 v0 hv0
      have hspot : spot = none := by simpa [Addr.add] using World.cell?_spot h00
      subst hspot
      have hblt : b < w.heap.size := by
        have := World.block_lt_of_cell? w _ h00
        simpa [Addr.add] using this
      refine .inr ⟨b, off, rfl, hblt, fun j hj => ?_⟩
      obtain ⟨cs', hcs', k, n1, ks, a1, l1, c1, n2, ls, a2, l2, c2, he, ht1, ht2⟩ := hel' j hj
      have hR : w.rangeAt b (off + j * 29) cs' := fun i v hv => by
        have := hcell j hj cs' hcs' i v hv
        rwa [Addr.add_mid, Addr.add_mid] at this
      rw [he] at hR
      exact ⟨k, n1, ks, a1, l1, c1, n2, ls, a2, l2, c2, hR, ht1, ht2⟩
theorem OpsAt.get {w : World} {a : Option Addr} {len : Nat} (h : OpsAt w a len) {j : Nat} (hj : j < len) : ∃ b o, a = some ⟨b, o, none⟩ ∧ ∃ (k : Int) (n1 : Nd) (ks : List Ex) (a1 : Option Addr) (l1 c1 : Nat) (n2 : Nd) (ls : List Ex) (a2 : Option Addr) (l2 c2 : Nat),
    w.rangeAt b (o + j * 29) (opC k n1 (.slice a1 l1 c1) n2 (.slice a2 l2 c2)).toList ∧ Tree w (exV n1 (.slice a1 l1 c1)) (.mk n1 ks) ∧ Tree w (exV n2 (.slice a2 l2 c2)) (.mk n2 ls) ∧ b < w.heap.size := by
  rcases h.2 with h0 | ⟨b, o, ha, hb, hk⟩
  · omega
  · obtain ⟨k, n1, ks, a1, l1, c1, n2, ls, a2, l2, c2, h1, h2, h3⟩ := hk j hj
    exact ⟨b, o, ha, k, n1, ks, a1, l1, c1, n2, ls, a2, l2, c2, h1, h2, h3, hb⟩
end Go.Proofs.Ytgopolelpckjcaa
