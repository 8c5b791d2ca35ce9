/- A tree that is handed in: what its reading says of it. A reference that is handed in; bounds of a number that is. (Beside CfG12.) How a list of calls that is handed in is opened. -/
import Derived.Test.YtiajoppbgebnpaaSz9
import Derived.ProofKit
import Derived.OpenShut
import Derived.ChangeOld
import Derived.Below
import Derived.SizedLaws
import Derived.Deep.Slices
import Derived.Test.YtiajoppbgebnpaaCfJ
namespace Go.Proofs.Ytiajoppbgebnpaa
open Go.ChangeShapes Go.WideShapes Go.ChangeAt Go.RowKit
open Go.Deep (choose_lt)
set_option linter.unusedVariables false

theorem own : ownKnob Try.prog.godebug = none := by kernel_rfl
theorem cellsX : Try.prog.cellsOf 37 = 14 := by kernel_rfl
theorem cellsR : Try.prog.cellsOf 35 = 4 := by kernel_rfl
theorem cellsI : Try.prog.cellsOf 3 = 1 := by kernel_rfl
theorem cellsI6 : Try.prog.cellsOf 2 = 1 := by kernel_rfl
theorem cellsB : Try.prog.cellsOf 4 = 1 := by kernel_rfl
theorem cellsS : Try.prog.cellsOf 9 = 1 := by kernel_rfl
theorem cellsL : Try.prog.cellsOf 30 = 1 := by kernel_rfl
theorem laidOut : laidOutB Try.prog = true := by kernel_rfl
instance : Inhabited Ex := ⟨.mk ⟨0, 0, 0, no, ⟨0, 0, false, false⟩, ⟨0, 0, false, false⟩, 0⟩ []⟩
theorem agg_of {v : Value} {cs : List Value} (h : v.cells.toList = cs) (hl : cs.length ≠ 1) : v = .agg cs.toArray := by
  cases v
  case agg xs => simp only [Value.cells] at h; rw [← h]
  all_goals (simp only [Value.cells] at h; subst h; simp at hl)
set_option maxRecDepth 100000 in
theorem ref_cells {H : Type} {enc : TypeId × Value → H} {w : World} {base : Nat} {spare : Nat → Bool} {held : Bool} {fuel : Nat} {cs : List Value} {x : DataW H × List MemPlace} (hf : DataW.trod enc Try.prog w base spare held fuel 35 cs = some x) :
    ∃ r : Rf, cs = [.int .i64 r.row, .int .i64 r.col, .bool r.pr, .bool r.pc] := by
  obtain ⟨xs, n, _, _, hl, hlen, hfs⟩ := DataW.trod_struct Try.underlying35 hf
  rw [cellsR] at hl
  obtain ⟨c0, c1, c2, c3, rfl⟩ : ∃ c0 c1 c2 c3, cs = [c0, c1, c2, c3] := by
    match cs, hl with
    | [c0, c1, c2, c3], _ => exact ⟨c0, c1, c2, c3, rfl⟩
  match xs, hlen with
  | [y0, y1, y2, y3], _ =>
    have t0 := hfs 0 _ rfl
    have t1 := hfs 1 _ rfl
    have t2 := hfs 2 _ rfl
    have t3 := hfs 3 _ rfl
    obtain ⟨a, e0, _, _⟩ := DataW.trod_int Try.underlying3 t0
    obtain ⟨b, e1, _, _⟩ := DataW.trod_int Try.underlying3 t1
    obtain ⟨c, e2, _⟩ := DataW.trod_bool Try.underlying4 t2
    obtain ⟨d, e3, _⟩ := DataW.trod_bool Try.underlying4 t3
    simp [cellsI] at e0
    simp [cellsI] at e1
    simp [cellsB] at e2
    simp [cellsB] at e3
    subst e0 e1 e2 e3
    exact ⟨⟨a, b, c, d⟩, rfl⟩
theorem all_mem {H : Type} {P : Program} {e : TypeId} : ∀ {l : List (DataW H)} {i : Nat} {d : DataW H}, l[i]? = some d → ∀ y ∈ d.weights P e, y ∈ DataW.weightsAll P e l
  | [], i, d, h, y, hy => by cases h
  | a :: l, 0, d, h, y, hy => by
    have : a = d := by simpa using h
    subst this
    rw [DataW.weightsAll]
    exact List.mem_append_left _ hy
  | a :: l, i + 1, d, h, y, hy => by
    rw [DataW.weightsAll]
    exact List.mem_append_right _ (all_mem (l := l) (i := i) (by simpa using h) y hy)
set_option maxRecDepth 100000 in
set_option maxHeartbeats 1000000 in
theorem open_ex {H : Type} {enc : TypeId × Value → H} {w : World} {base : Nat} {spare : Nat → Bool} {held : Bool} : ∀ (fuel : Nat) (cs : List Value) (x : DataW H × List MemPlace), DataW.trod enc Try.prog w base spare held fuel 37 cs = some x →
    (∀ y ∈ x.1.weights Try.prog 37, y ≤ reachBytes) → ∃ t : Ex, In (· < w.heap.size) w (.agg cs.toArray) t := by
  intro fuel
  induction fuel using Nat.strongRecOn with
  | _ fuel ih =>
    intro cs x hf hw
    obtain ⟨xs, n, rfl, rfl, hl, hlen, hfs⟩ := DataW.trod_struct Try.underlying37 hf
    rw [cellsX] at hl
    obtain ⟨c0, c1, c2, c3, c4, c5, c6, c7, c8, c9, c10, c11, c12, c13, rfl⟩ : ∃ c0 c1 c2 c3 c4 c5 c6 c7 c8 c9 c10 c11 c12 c13, cs = [c0, c1, c2, c3, c4, c5, c6, c7, c8, c9, c10, c11, c12, c13] := by
      match cs, hl with
      | [c0, c1, c2, c3, c4, c5, c6, c7, c8, c9, c10, c11, c12, c13], _ => exact ⟨c0, c1, c2, c3, c4, c5, c6, c7, c8, c9, c10, c11, c12, c13, rfl⟩
    match xs, hlen with
    | [y0, y1, y2, y3, y4, y5, y6, y7], _ =>
      have t0 := hfs 0 _ rfl
      have t1 := hfs 1 _ rfl
      have t2 := hfs 2 _ rfl
      have t3 := hfs 3 _ rfl
      have t4 := hfs 4 _ rfl
      have t5 := hfs 5 _ rfl
      have t6 := hfs 6 _ rfl
      have t7 := hfs 7 _ rfl
      obtain ⟨k, e0, _, _⟩ := DataW.trod_int Try.underlying3 t0
      obtain ⟨o, e1, _, _⟩ := DataW.trod_int Try.underlying3 t1
      obtain ⟨i, e2, _, _⟩ := DataW.trod_int Try.underlying2 t2
      obtain ⟨s, e3, hs, _⟩ := DataW.trod_string Try.underlying9 t3
      obtain ⟨r, e4⟩ := ref_cells t4
      obtain ⟨q, e5⟩ := ref_cells t5
      obtain ⟨f, e6, _, _⟩ := DataW.trod_int Try.underlying3 t6
      simp [cellsI] at e0
      simp [cellsI] at e1
      simp [cellsI6] at e2
      simp [cellsS] at e3
      simp [cellsR] at e4
      simp [cellsR] at e5
      simp [cellsI] at e6
      obtain ⟨rfl, rfl, rfl, rfl⟩ := e4
      obtain ⟨rfl, rfl, rfl, rfl⟩ := e5
      subst e0 e1 e2 e3 e6
      have hin : ∀ (j : Nat) (ty : TypeId) (d : DataW H), ([y0, y1, y2, y3, y4, y5, y6, y7].map (·.1))[j]? = some d → [3, 3, 2, 9, 35, 35, 3, 30][j]? = some ty → ∀ y ∈ d.weights Try.prog ty, y ≤ reachBytes := fun j ty d hd hty y hy => hw y (by
        have := DataW.weights_mem_each (P := Try.prog) hty hd y hy
        simp only [DataW.weights, Try.underlying37]
        exact this)
      have hs7 := hin 7 30 y7.1 rfl rfl
      have hs3 := hin 3 9 y3.1 rfl rfl
      rw [hs] at hs3
      have htx : s.size ≤ 4611686018427387904 := by
        have := hs3 s.data.toList.length (by simp [DataW.weights])
        simp [reachBytes] at this
        have h2 : s.size = s.data.size := rfl
        omega
      have t7' : DataW.trod enc Try.prog w base spare held n 30 [c13] = some y7 := by simpa [cellsL] using t7
      rcases DataW.trod_slice Try.underlying30 t7' with ⟨hc, _⟩ | ⟨a, len, cap, elems, rest, n', rfl, hc, hy7, hbase, hlc, hcm, hel, hget, _, _⟩
      · obtain rfl : c13 = .slice none 0 0 := by simpa using hc
        refine ⟨.mk ⟨k, o, i, s, r, q, f⟩ [], ?_⟩
        unfold In
        exact ⟨none, 0, 0, rfl, rfl, by omega, htx, .inl rfl⟩
      · obtain rfl : c13 = .slice (some a) len cap := by simpa using hc
        rw [cellsX] at hget
        rw [hy7] at hs7
        simp only [DataW.weights, Try.underlying30] at hs7
        have hkid : ∀ j, j < len → ∃ p : Ex × List Value, w.cells? base (a.add (j * 14)) 14 = some p.2 ∧ In (· < w.heap.size) w (.agg p.2.toArray) p.1 := by
          intro j hj
          have hg := hget j hj
          rw [List.getElem?_eq_getElem (by omega)] at hg
          obtain ⟨cs', hc1, hc2⟩ := Option.bind_eq_some_iff.1 hg
          obtain ⟨t, ht⟩ := ih n' (by omega) cs' _ hc2 (fun y hy => hs7 y (List.mem_cons_of_mem _ (List.mem_append_left _ (all_mem (i := j) (by rw [List.getElem?_map, List.getElem?_eq_getElem (by omega)]; rfl) y hy))))
          exact ⟨(t, cs'), hc1, ht⟩
        obtain ⟨T, hT⟩ := choose_lt (α := Ex × List Value) hkid
        refine ⟨.mk ⟨k, o, i, s, r, q, f⟩ ((List.range len).map fun j => (T j).1), ?_⟩
        unfold In
        have hbl : len ≤ 4611686018427387904 := by
          have := hs7 ((elems.length + rest.length) * Try.prog.bytesOf 37) (by simp)
          have hb : Try.prog.bytesOf 37 = 120 := by kernel_rfl
          rw [hb] at this
          simp [reachBytes] at this
          omega
        refine ⟨_, len, cap, rfl, by simp, hbl, htx, ?_⟩
        by_cases hz : len = 0
        · exact .inl hz
        · obtain ⟨b, off, spot⟩ := a
          have hcell : ∀ j, j < len → ∀ i v, (T j).2[i]? = some v → w.cell? (((⟨b, off, spot⟩ : Addr).add (j * 14)).add i) = some v := fun j hj i v hv => by
            obtain ⟨_, hl3, hc3⟩ := World.cells?_some (hT j hj).1
            have hi : i < 14 := by rw [← hl3]; exact (List.getElem?_eq_some_iff.1 hv).1
            exact (hc3 i hi).trans hv
          have hlen0 : ∀ j, j < len → (T j).2.length = 14 := fun j hj => (World.cells?_some (hT j hj).1).2.1
          obtain ⟨v0, hv0⟩ : ∃ v, (T 0).2[0]? = some v := ⟨_, List.getElem?_eq_getElem (by rw [hlen0 0 (by omega)]; omega)⟩
          have h00 := hcell 0 (by omega) 0 v0 hv0
          have hspot : spot = none := by simpa [Addr.add] using World.cell?_spot h00
          subst hspot
          have hblt : b < w.heap.size := by
            have := World.block_lt_of_cell? w _ h00
            simpa [Addr.add] using this
          refine .inr ⟨b, off, rfl, hblt, Kids.of fun j hj => ?_⟩
          have hj' : j < len := by simpa using hj
          refine ⟨(T j).2.toArray, ?_, fun i v hv => ?_⟩
          · simpa using (hT j hj').2
          · have := hcell j hj' i v (by simpa using hv)
            rwa [Addr.add_mid, Addr.add_mid] at this
theorem tree_of {H : Type} {enc : TypeId × Value → H} {w : World} {base : Nat} {spare : Nat → Bool} {held : Bool} {v : Value} {d : DataW H} {ps : List MemPlace} (h : DataW.Trod enc Try.prog w base spare held 37 v d ps)
    (hw : ∀ y ∈ d.weights Try.prog 37, y ≤ reachBytes) : ∃ t : Ex, Tree w v t := by
  obtain ⟨fuel, hf⟩ := h
  obtain ⟨t, ht⟩ := open_ex fuel _ _ hf hw
  obtain ⟨xs, n, _, _, hl, _, _⟩ := DataW.trod_struct Try.underlying37 hf
  rw [cellsX] at hl
  have : v = .agg v.cells.toList.toArray := agg_of rfl (by rw [hl]; decide)
  exact ⟨t, by rw [this]; exact ht⟩
end Go.Proofs.Ytiajoppbgebnpaa
namespace Go.Proofs.Ytiajoppbgebnpaa
open Go.ChangeShapes Go.WideShapes Go.ChangeAt Go.RowKit
set_option linter.unusedVariables false

theorem open_refT {H : Type} {enc : TypeId × Value → H} {w : World} {base : Nat} {spare : Nat → Bool} {held : Bool} {v : Value} {d : DataW H} {ps : List MemPlace} (h : DataW.Trod enc Try.prog w base spare held 35 v d ps) : ∃ r : Rf, v = .agg #[.int .i64 r.row, .int .i64 r.col, .bool r.pr, .bool r.pc] := by
  obtain ⟨fuel, hf⟩ := h
  obtain ⟨r, hr⟩ := ref_cells hf
  exact ⟨r, agg_of hr (by simp)⟩
end Go.Proofs.Ytiajoppbgebnpaa
namespace Go.Proofs.Ytiajoppbgebnpaa
open Go.ChangeShapes Go.WideShapes Go.ChangeAt Go.RowKit
set_option linter.unusedVariables false

theorem cellsO : Try.prog.cellsOf 39 = 17 := by kernel_rfl
/-- A row of calls lies in memory. -/
def OpsAt (w : World) (a : Option Addr) (len : Nat) : Prop :=
  len ≤ 4611686018427387904 ∧ (len = 0 ∨ ∃ b o, a = some ⟨b, o, none⟩ ∧ b < w.heap.size ∧ ∀ j, j < len → ∃ (k m n : Int) (n1 : Nd) (ks : List Ex) (a1 : Option Addr) (l1 c1 : Nat),
    w.rangeAt b (o + j * 17) (opX k m n n1 (.slice a1 l1 c1)).toList ∧ Tree w (exV n1 (.slice a1 l1 c1)) (.mk n1 ks))
theorem ex_len {H : Type} {enc : TypeId × Value → H} {w : World} {base : Nat} {spare : Nat → Bool} {held : Bool} {fuel : Nat} {cs : List Value} {x : DataW H × List MemPlace} (hf : DataW.trod enc Try.prog w base spare held fuel 37 cs = some x) : cs.length = 14 := by
  obtain ⟨xs, n, _, _, hl, _, _⟩ := DataW.trod_struct Try.underlying37 hf
  rw [cellsX] at hl; exact hl
set_option maxRecDepth 100000 in
set_option maxHeartbeats 1000000 in
theorem open_op {H : Type} {enc : TypeId × Value → H} {w : World} {base : Nat} {spare : Nat → Bool} {held : Bool} (fuel : Nat) (cs : List Value) (x : DataW H × List MemPlace) (hf : DataW.trod enc Try.prog w base spare held fuel 39 cs = some x)
    (hw : ∀ y ∈ x.1.weights Try.prog 39, y ≤ reachBytes) : ∃ (k m n : Int) (n1 : Nd) (ks : List Ex) (a1 : Option Addr) (l1 c1 : Nat),
    cs = (opX k m n n1 (.slice a1 l1 c1)).toList ∧ Tree w (exV n1 (.slice a1 l1 c1)) (.mk n1 ks) := by
  obtain ⟨xs, n, rfl, rfl, hl, hlen, hfs⟩ := DataW.trod_struct Try.underlying39 hf
  rw [cellsO] at hl
  match xs, hlen with
  | [y0, y1, y2, y3], _ =>
    have t0 := hfs 0 _ rfl
    have t1 := hfs 1 _ rfl
    have t2 := hfs 2 _ rfl
    have t3 := hfs 3 _ rfl
    have hin : ∀ (j : Nat) (ty : TypeId) (d : DataW H), ([y0, y1, y2, y3].map (·.1))[j]? = some d → [3, 37, 2, 2][j]? = some ty → ∀ y ∈ d.weights Try.prog ty, y ≤ reachBytes := fun j ty d hd hty y hy => hw y (by
      have := DataW.weights_mem_each (P := Try.prog) hty hd y hy
      simp only [DataW.weights, Try.underlying39]
      exact this)
    obtain ⟨k, e0, _, _⟩ := DataW.trod_int Try.underlying3 t0
    obtain ⟨u1, ht1⟩ := open_ex _ _ _ t1 (hin 1 37 y1.1 rfl rfl)
    obtain ⟨m, e2, _, _⟩ := DataW.trod_int Try.underlying2 t2
    obtain ⟨nn, e3, _, _⟩ := DataW.trod_int Try.underlying2 t3
    obtain ⟨n1, ks⟩ := u1
    obtain ⟨a1, l1, c1, hc1⟩ := ht1.cs
    rw [hc1] at ht1
    refine ⟨k, m, nn, n1, ks, a1, l1, c1, ?_, ht1⟩
    have hI64 : Try.prog.cellsOf 2 = 1 := by kernel_rfl
    have e0' : cs.take 1 = [.int .i64 k] := by simpa [cellsI] using e0
    have e1 : (cs.drop 1).take 14 = (exC n1 (.slice a1 l1 c1)).toList := by
      have := congrArg Array.toList hc1
      simpa [cellsX, Ex.nd] using this
    have e2' : (cs.drop 15).take 1 = [.int .i64 m] := by simpa [cellsX, cellsI, hI64] using e2
    have e3' : (cs.drop 16).take 1 = [.int .i64 nn] := by simpa [cellsX, cellsI, hI64] using e3
    have h3 : (cs.drop 16).take 1 = cs.drop 16 := List.take_of_length_le (by rw [List.length_drop]; omega)
    have h4 : cs = cs.take 1 ++ ((cs.drop 1).take 14 ++ ((cs.drop 15).take 1 ++ (cs.drop 16).take 1)) := by
      rw [h3, show cs.drop 16 = (cs.drop 15).drop 1 by rw [List.drop_drop], List.take_append_drop, show cs.drop 15 = (cs.drop 1).drop 14 by rw [List.drop_drop], List.take_append_drop, List.take_append_drop]
    rw [h4, e0', e1, e2', e3']
    unfold opX exC
    rfl
theorem ops_of {H : Type} {enc : TypeId × Value → H} {w : World} {base : Nat} {spare : Nat → Bool} {held : Bool} {a0 : Option Addr} {len0 cap0 : Nat} {d : DataW H} {ps : List MemPlace} (h : DataW.Trod enc Try.prog w base spare held 22 (.slice a0 len0 cap0) d ps)
    (hw : ∀ y ∈ d.weights Try.prog 22, y ≤ reachBytes) : OpsAt w a0 len0 := by
  obtain ⟨fuel, hf⟩ := h
  rcases DataW.trod_slice Try.underlying22 hf with ⟨hc, _⟩ | ⟨a, len, cap, elems, rest, n', _, hc, hy7, hbase, hlc, hcm, hel, hget, _, _⟩
  · obtain ⟨rfl, rfl, rfl⟩ : a0 = none ∧ len0 = 0 ∧ cap0 = 0 := by simpa [Value.cells] using hc
    exact ⟨by omega, .inl rfl⟩
  · obtain ⟨rfl, hq1, hq2⟩ : a0 = some a ∧ len0 = len ∧ cap0 = cap := by simpa [Value.cells] using hc
    obtain rfl : len = len0 := hq1.symm
    obtain rfl : cap = cap0 := hq2.symm
    obtain ⟨hdd, _⟩ := Prod.mk.inj hy7
    rw [cellsO] at hget
    have hs7 := hw
    rw [hdd] at hs7
    simp only [DataW.weights, Try.underlying22] at hs7
    have hbl : len ≤ 4611686018427387904 := by
      have := hs7 ((elems.length + rest.length) * Try.prog.bytesOf 39) (by simp)
      have hb : Try.prog.bytesOf 39 = 144 := by kernel_rfl
      rw [hb] at this
      simp [reachBytes] at this
      omega
    refine ⟨hbl, ?_⟩
    by_cases hz : len = 0
    · exact .inl hz
    · obtain ⟨b, off, spot⟩ := a
      have hel' : ∀ j, j < len → ∃ cs', w.cells? base ((⟨b, off, spot⟩ : Addr).add (j * 17)) 17 = some cs' ∧ ∃ (k m n : Int) (n1 : Nd) (ks : List Ex) (a1 : Option Addr) (l1 c1 : Nat), cs' = (opX k m n n1 (.slice a1 l1 c1)).toList ∧ Tree w (exV n1 (.slice a1 l1 c1)) (.mk n1 ks) := by
        intro j hj
        have hg := hget j hj
        rw [List.getElem?_eq_getElem (by omega)] at hg
        obtain ⟨cs', hc1, hc2⟩ := Option.bind_eq_some_iff.1 hg
        exact ⟨cs', hc1, open_op n' cs' _ hc2 (fun y hy => hs7 y (List.mem_cons_of_mem _ (List.mem_append_left _ (all_mem (i := j) (by rw [List.getElem?_map, List.getElem?_eq_getElem (by omega)]; rfl) y hy))))⟩
      have hcell : ∀ j, j < len → ∀ cs', w.cells? base ((⟨b, off, spot⟩ : Addr).add (j * 17)) 17 = some cs' → ∀ i v, cs'[i]? = some v → w.cell? (((⟨b, off, spot⟩ : Addr).add (j * 17)).add i) = some v := fun j hj cs' hcs i v hv => by
        obtain ⟨_, hl3, hc3⟩ := World.cells?_some hcs
        have hi : i < 17 := by rw [← hl3]; exact (List.getElem?_eq_some_iff.1 hv).1
        exact (hc3 i hi).trans hv
      obtain ⟨cs0, hcs0, _⟩ := hel' 0 (by omega)
      have hl0 : cs0.length = 17 := (World.cells?_some hcs0).2.1
      obtain ⟨v0, hv0⟩ : ∃ v, cs0[0]? = some v := ⟨_, List.getElem?_eq_getElem (by rw [hl0]; omega)⟩
      have h00 := hcell 0 (by omega) cs0 hcs0 0 v0 hv0
      have hspot : spot = none := by simpa [Addr.add] using World.cell?_spot h00
      subst hspot
      have hblt : b < w.heap.size := by
        have := World.block_lt_of_cell? w _ h00
        simpa [Addr.add] using this
      refine .inr ⟨b, off, rfl, hblt, fun j hj => ?_⟩
      obtain ⟨cs', hcs', k, m, n, n1, ks, a1, l1, c1, he, ht1⟩ := hel' j hj
      have hR : w.rangeAt b (off + j * 17) cs' := fun i v hv => by
        have := hcell j hj cs' hcs' i v hv
        rwa [Addr.add_mid, Addr.add_mid] at this
      rw [he] at hR
      exact ⟨k, m, n, n1, ks, a1, l1, c1, hR, ht1⟩
theorem OpsAt.get {w : World} {a : Option Addr} {len : Nat} (h : OpsAt w a len) {j : Nat} (hj : j < len) : ∃ b o, a = some ⟨b, o, none⟩ ∧ ∃ (k m n : Int) (n1 : Nd) (ks : List Ex) (a1 : Option Addr) (l1 c1 : Nat),
    w.rangeAt b (o + j * 17) (opX k m n n1 (.slice a1 l1 c1)).toList ∧ Tree w (exV n1 (.slice a1 l1 c1)) (.mk n1 ks) ∧ b < w.heap.size := by
  rcases h.2 with h0 | ⟨b, o, ha, hb, hk⟩
  · omega
  · obtain ⟨k, m, n, n1, ks, a1, l1, c1, h1, h2⟩ := hk j hj
    exact ⟨b, o, ha, k, m, n, n1, ks, a1, l1, c1, h1, h2, hb⟩
end Go.Proofs.Ytiajoppbgebnpaa
