/- How a list of trees that is handed in is opened; their numbers have 64 bits. -/
import Derived.Test.YtbpogngnhhkjbaaDoorOnJ
namespace Go.Proofs.YtbpogngnhhkjbaaDoor.T9
open Go.ChangeShapes Go.WideShapes Go.ChangeAt Go.RowKit
set_option linter.unusedVariables false

/-- A row of trees lies in memory. -/
def ExsN (w : World) (a : Option Addr) (len : Nat) : Prop :=
  len ≤ 4611686018427387904 ∧ (len = 0 ∨ ∃ b o, a = some ⟨b, o, none⟩ ∧ b < w.heap.size ∧ ∀ j, j < len → ∃ (n1 : Nd) (ks : List Ex) (a1 : Option Addr) (l1 c1 : Nat),
    w.rangeAt b (o + j * 14) (exC n1 (.slice a1 l1 c1)).toList ∧ Tree w (exV n1 (.slice a1 l1 c1)) (.mk n1 ks) ∧ NumE (.mk n1 ks))
theorem ExsN.get {w : World} {a : Option Addr} {len : Nat} (h : ExsN w a len) {j : Nat} (hj : j < len) : ∃ b o, a = some ⟨b, o, none⟩ ∧ ∃ (n1 : Nd) (ks : List Ex) (a1 : Option Addr) (l1 c1 : Nat),
    w.rangeAt b (o + j * 14) (exC n1 (.slice a1 l1 c1)).toList ∧ Tree w (exV n1 (.slice a1 l1 c1)) (.mk n1 ks) ∧ NumE (.mk n1 ks) ∧ b < w.heap.size := by
  rcases h.2 with h0 | ⟨b, o, ha, hb, hk⟩
  · omega
  · obtain ⟨n1, ks, a1, l1, c1, h1, h2, h3⟩ := hk j hj
    exact ⟨b, o, ha, n1, ks, a1, l1, c1, h1, h2, h3, hb⟩
set_option maxHeartbeats 1000000 in
theorem exs_ofN {H : Type} {enc : TypeId × Value → H} {w : World} {base : Nat} {spare : Nat → Bool} {held : Bool} {a0 : Option Addr} {len0 cap0 : Nat} {d : DataW H} {ps : List MemPlace} (h : DataW.Trod enc Tryd.prog w base spare held 22 (.slice a0 len0 cap0) d ps)
    (hw : ∀ y ∈ d.weights Tryd.prog 22, y ≤ reachBytes) : ExsN w a0 len0 := by
  obtain ⟨fuel, hf⟩ := h
  rcases DataW.trod_slice Tryd.underlying22 hf with ⟨hc, _⟩ | ⟨a, len, cap, elems, rest, n', _, hc, hy7, hbase, hlc, hcm, hel, hget, _, _⟩
  · obtain ⟨rfl, rfl, rfl⟩ : a0 = none ∧ len0 = 0 ∧ cap0 = 0 := by simpa [Value.cells] using hc
    exact ⟨by omega, .inl rfl⟩
  · obtain ⟨rfl, hq1, hq2⟩ : a0 = some a ∧ len0 = len ∧ cap0 = cap := by simpa [Value.cells] using hc
    obtain rfl : len = len0 := hq1.symm
    obtain rfl : cap = cap0 := hq2.symm
    obtain ⟨hdd, _⟩ := Prod.mk.inj hy7
    rw [cellsX] at hget
    have hs7 := hw
    rw [hdd] at hs7
    simp only [DataW.weights, Tryd.underlying22] at hs7
    have hbl : len ≤ 4611686018427387904 := by
      have := hs7 ((elems.length + rest.length) * Tryd.prog.bytesOf 30) (by simp)
      have hb : Tryd.prog.bytesOf 30 = 120 := by kernel_rfl
      rw [hb] at this
      simp [reachBytes] at this
      omega
    refine ⟨hbl, ?_⟩
    by_cases hz : len = 0
    · exact .inl hz
    · obtain ⟨b, off, spot⟩ := a
      have hel' : ∀ j, j < len → ∃ cs', w.cells? base ((⟨b, off, spot⟩ : Addr).add (j * 14)) 14 = some cs' ∧ ∃ (n1 : Nd) (ks : List Ex) (a1 : Option Addr) (l1 c1 : Nat), cs' = (exC n1 (.slice a1 l1 c1)).toList ∧ Tree w (exV n1 (.slice a1 l1 c1)) (.mk n1 ks) ∧ NumE (.mk n1 ks) := by
        intro j hj
        have hg := hget j hj
        rw [List.getElem?_eq_getElem (by omega)] at hg
        obtain ⟨cs', hc1, hc2⟩ := Option.bind_eq_some_iff.1 hg
        obtain ⟨u, ht, hN⟩ := open_exN n' cs' _ hc2 (fun y hy => hs7 y (List.mem_cons_of_mem _ (List.mem_append_left _ (all_mem (i := j) (by rw [List.getElem?_map, List.getElem?_eq_getElem (by omega)]; rfl) y hy))))
        obtain ⟨n1, ks⟩ := u
        obtain ⟨a1, l1, c1, hcs⟩ := ht.cs
        rw [hcs] at ht
        exact ⟨cs', hc1, n1, ks, a1, l1, c1, by have := congrArg Array.toList hcs; simpa [Ex.nd] using this, ht, hN⟩
      have hcell : ∀ j, j < len → ∀ cs', w.cells? base ((⟨b, off, spot⟩ : Addr).add (j * 14)) 14 = some cs' → ∀ i v, cs'[i]? = some v → w.cell? (((⟨b, off, spot⟩ : Addr).add (j * 14)).add i) = some v := fun j hj cs' hcs i v hv => by
        obtain ⟨_, hl3, hc3⟩ := World.cells?_some hcs
        have hi : i < 14 := by rw [← hl3]; exact (List.getElem?_eq_some_iff.1 hv).1
        exact (hc3 i hi).trans hv
      obtain ⟨cs0, hcs0, _⟩ := hel' 0 (by omega)
      have hl0 : cs0.length = 14 := (World.cells?_some hcs0).2.1
      obtain ⟨v0, hv0⟩ : ∃ v, cs0[0]? = some v := ⟨_, List.getElem?_eq_getElem (by rw [hl0]; omega)⟩
      have h00 := hcell 0 (by omega) cs0 hcs0 0 v0 hv0
      have hspot : spot = none := by simpa [Addr.add] using World.cell?_spot h00
      subst hspot
      have hblt : b < w.heap.size := by
        have := World.block_lt_of_cell? w _ h00
        simpa [Addr.add] using this
      refine .inr ⟨b, off, rfl, hblt, fun j hj => ?_⟩
      obtain ⟨cs', hcs', n1, ks, a1, l1, c1, he, ht1, hN1⟩ := hel' j hj
      have hR : w.rangeAt b (off + j * 14) cs' := fun i v hv => by
        have := hcell j hj cs' hcs' i v hv
        rwa [Addr.add_mid, Addr.add_mid] at this
      rw [he] at hR
      exact ⟨n1, ks, a1, l1, c1, hR, ht1, hN1⟩
end Go.Proofs.YtbpogngnhhkjbaaDoor.T9
