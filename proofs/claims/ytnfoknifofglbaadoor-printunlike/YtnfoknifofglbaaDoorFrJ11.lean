/- A tree that is handed in: what its reading says of it. A tree that is handed in: what its reading says of it; its numbers have 64 bits. What every card's proof of this seat shares: the start that fits; the listed tables and the world's shape give what the walks ask. -/
import Derived.Test.YtnfoknifofglbaaDoorSz9
import Derived.ProofKit
import Derived.OpenShut
import Derived.ChangeOld
import Derived.Below
import Derived.SizedLaws
import Derived.Deep.Slices
import Derived.Test.YtnfoknifofglbaaDoorTxt11
import Derived.Test.YtnfoknifofglbaaDoorRows
import Derived.Test.YtnfoknifofglbaaDoorCards
import Derived.Test.YtnfoknifofglbaaDoorTie
import Derived.Test.YtnfoknifofglbaaDoorPrt11
import Derived.HandedShaped
import Derived.ShutString
import Derived.LaidMore
import Derived.Lay
import Derived.Lib.LaidTab
import Derived.Stop.Joined
import Derived.SevenTiedAt
namespace Go.Proofs.YtnfoknifofglbaaDoor.T9
open Go.ChangeShapes Go.WideShapes Go.ChangeAt Go.RowKit
open Go.Deep (choose_lt)
set_option linter.unusedVariables false

theorem own : ownKnob Tryd.prog.godebug = none := by kernel_rfl
theorem cellsX : Tryd.prog.cellsOf 26 = 14 := by kernel_rfl
theorem cellsR : Tryd.prog.cellsOf 23 = 4 := by kernel_rfl
theorem cellsI : Tryd.prog.cellsOf 3 = 1 := by kernel_rfl
theorem cellsI6 : Tryd.prog.cellsOf 2 = 1 := by kernel_rfl
theorem cellsB : Tryd.prog.cellsOf 4 = 1 := by kernel_rfl
theorem cellsS : Tryd.prog.cellsOf 9 = 1 := by kernel_rfl
theorem cellsL : Tryd.prog.cellsOf 24 = 1 := by kernel_rfl
theorem laidOut : laidOutB Tryd.prog = true := by kernel_rfl
instance : Inhabited Ex := ⟨.mk ⟨0, 0, 0, no, ⟨0, 0, false, false⟩, ⟨0, 0, false, false⟩, 0⟩ []⟩
theorem agg_of {v : Value} {cs : List Value} (h : v.cells.toList = cs) (hl : cs.length ≠ 1) : v = .agg cs.toArray := by
  cases v
  case agg xs => simp only [Value.cells] at h; rw [← h]
  all_goals (simp only [Value.cells] at h; subst h; simp at hl)
set_option maxRecDepth 100000 in
theorem ref_cells {H : Type} {enc : TypeId × Value → H} {w : World} {base : Nat} {spare : Nat → Bool} {held : Bool} {fuel : Nat} {cs : List Value} {x : DataW H × List MemPlace} (hf : DataW.trod enc Tryd.prog w base spare held fuel 23 cs = some x) :
    ∃ r : Rf, cs = [.int .i64 r.row, .int .i64 r.col, .bool r.pr, .bool r.pc] := by
  obtain ⟨xs, n, _, _, hl, hlen, hfs⟩ := DataW.trod_struct Tryd.underlying23 hf
  rw [cellsR] at hl
  obtain ⟨c0, c1, c2, c3, rfl⟩ : ∃ c0 c1 c2 c3, cs = [c0, c1, c2, c3] := by
    match cs, hl with
    | [c0, c1, c2, c3], _ => exact ⟨c0, c1, c2, c3, rfl⟩
  match xs, hlen with
  | [y0, y1, y2, y3], _ =>
    have t0 := hfs 0 _ rfl
    have t1 := hfs 1 _ rfl
    have t2 := hfs 2 _ rfl
    have t3 := hfs 3 _ rfl
    obtain ⟨a, e0, _, _⟩ := DataW.trod_int Tryd.underlying3 t0
    obtain ⟨b, e1, _, _⟩ := DataW.trod_int Tryd.underlying3 t1
    obtain ⟨c, e2, _⟩ := DataW.trod_bool Tryd.underlying4 t2
    obtain ⟨d, e3, _⟩ := DataW.trod_bool Tryd.underlying4 t3
    simp [cellsI] at e0
    simp [cellsI] at e1
    simp [cellsB] at e2
    simp [cellsB] at e3
    subst e0 e1 e2 e3
    exact ⟨⟨a, b, c, d⟩, rfl⟩
theorem all_mem {H : Type} {P : Program} {e : TypeId} : ∀ {l : List (DataW H)} {i : Nat} {d : DataW H}, l[i]? = some d → ∀ y ∈ d.weights P e, y ∈ DataW.weightsAll P e l
  | [], i, d, h, y, hy => by cases h
  | a :: l, 0, d, h, y, hy => by
    have : a = d := by simpa using h
    subst this
    rw [DataW.weightsAll]
    exact List.mem_append_left _ hy
  | a :: l, i + 1, d, h, y, hy => by
    rw [DataW.weightsAll]
    exact List.mem_append_right _ (all_mem (l := l) (i := i) (by simpa using h) y hy)
set_option maxRecDepth 100000 in
set_option maxHeartbeats 1000000 in
theorem open_ex {H : Type} {enc : TypeId × Value → H} {w : World} {base : Nat} {spare : Nat → Bool} {held : Bool} : ∀ (fuel : Nat) (cs : List Value) (x : DataW H × List MemPlace), DataW.trod enc Tryd.prog w base spare held fuel 26 cs = some x →
    (∀ y ∈ x.1.weights Tryd.prog 26, y ≤ reachBytes) → ∃ t : Ex, In (· < w.heap.size) w (.agg cs.toArray) t := by
  intro fuel
  induction fuel using Nat.strongRecOn with
  | _ fuel ih =>
    intro cs x hf hw
    obtain ⟨xs, n, rfl, rfl, hl, hlen, hfs⟩ := DataW.trod_struct Tryd.underlying26 hf
    rw [cellsX] at hl
    obtain ⟨c0, c1, c2, c3, c4, c5, c6, c7, c8, c9, c10, c11, c12, c13, rfl⟩ : ∃ c0 c1 c2 c3 c4 c5 c6 c7 c8 c9 c10 c11 c12 c13, cs = [c0, c1, c2, c3, c4, c5, c6, c7, c8, c9, c10, c11, c12, c13] := by
      match cs, hl with
      | [c0, c1, c2, c3, c4, c5, c6, c7, c8, c9, c10, c11, c12, c13], _ => exact ⟨c0, c1, c2, c3, c4, c5, c6, c7, c8, c9, c10, c11, c12, c13, rfl⟩
    match xs, hlen with
    | [y0, y1, y2, y3, y4, y5, y6, y7], _ =>
      have t0 := hfs 0 _ rfl
      have t1 := hfs 1 _ rfl
      have t2 := hfs 2 _ rfl
      have t3 := hfs 3 _ rfl
      have t4 := hfs 4 _ rfl
      have t5 := hfs 5 _ rfl
      have t6 := hfs 6 _ rfl
      have t7 := hfs 7 _ rfl
      obtain ⟨k, e0, _, _⟩ := DataW.trod_int Tryd.underlying3 t0
      obtain ⟨o, e1, _, _⟩ := DataW.trod_int Tryd.underlying3 t1
      obtain ⟨i, e2, _, _⟩ := DataW.trod_int Tryd.underlying2 t2
      obtain ⟨s, e3, hs, _⟩ := DataW.trod_string Tryd.underlying9 t3
      obtain ⟨r, e4⟩ := ref_cells t4
      obtain ⟨q, e5⟩ := ref_cells t5
      obtain ⟨f, e6, _, _⟩ := DataW.trod_int Tryd.underlying3 t6
      simp [cellsI] at e0
      simp [cellsI] at e1
      simp [cellsI6] at e2
      simp [cellsS] at e3
      simp [cellsR] at e4
      simp [cellsR] at e5
      simp [cellsI] at e6
      obtain ⟨rfl, rfl, rfl, rfl⟩ := e4
      obtain ⟨rfl, rfl, rfl, rfl⟩ := e5
      subst e0 e1 e2 e3 e6
      have hin : ∀ (j : Nat) (ty : TypeId) (d : DataW H), ([y0, y1, y2, y3, y4, y5, y6, y7].map (·.1))[j]? = some d → [3, 3, 2, 9, 23, 23, 3, 24][j]? = some ty → ∀ y ∈ d.weights Tryd.prog ty, y ≤ reachBytes := fun j ty d hd hty y hy => hw y (by
        have := DataW.weights_mem_each (P := Tryd.prog) hty hd y hy
        simp only [DataW.weights, Tryd.underlying26]
        exact this)
      have hs7 := hin 7 24 y7.1 rfl rfl
      have hs3 := hin 3 9 y3.1 rfl rfl
      rw [hs] at hs3
      have htx : s.size ≤ 4611686018427387904 := by
        have := hs3 s.data.toList.length (by simp [DataW.weights])
        simp [reachBytes] at this
        have h2 : s.size = s.data.size := rfl
        omega
      have t7' : DataW.trod enc Tryd.prog w base spare held n 24 [c13] = some y7 := by simpa [cellsL] using t7
      rcases DataW.trod_slice Tryd.underlying24 t7' with ⟨hc, _⟩ | ⟨a, len, cap, elems, rest, n', rfl, hc, hy7, hbase, hlc, hcm, hel, hget, _, _⟩
      · obtain rfl : c13 = .slice none 0 0 := by simpa using hc
        refine ⟨.mk ⟨k, o, i, s, r, q, f⟩ [], ?_⟩
        unfold In
        exact ⟨none, 0, 0, rfl, rfl, by omega, htx, .inl rfl⟩
      · obtain rfl : c13 = .slice (some a) len cap := by simpa using hc
        rw [cellsX] at hget
        rw [hy7] at hs7
        simp only [DataW.weights, Tryd.underlying24] at hs7
        have hkid : ∀ j, j < len → ∃ p : Ex × List Value, w.cells? base (a.add (j * 14)) 14 = some p.2 ∧ In (· < w.heap.size) w (.agg p.2.toArray) p.1 := by
          intro j hj
          have hg := hget j hj
          rw [List.getElem?_eq_getElem (by omega)] at hg
          obtain ⟨cs', hc1, hc2⟩ := Option.bind_eq_some_iff.1 hg
          obtain ⟨t, ht⟩ := ih n' (by omega) cs' _ hc2 (fun y hy => hs7 y (List.mem_cons_of_mem _ (List.mem_append_left _ (all_mem (i := j) (by rw [List.getElem?_map, List.getElem?_eq_getElem (by omega)]; rfl) y hy))))
          exact ⟨(t, cs'), hc1, ht⟩
        obtain ⟨T, hT⟩ := choose_lt (α := Ex × List Value) hkid
        refine ⟨.mk ⟨k, o, i, s, r, q, f⟩ ((List.range len).map fun j => (T j).1), ?_⟩
        unfold In
        have hbl : len ≤ 4611686018427387904 := by
          have := hs7 ((elems.length + rest.length) * Tryd.prog.bytesOf 26) (by simp)
          have hb : Tryd.prog.bytesOf 26 = 120 := by kernel_rfl
          rw [hb] at this
          simp [reachBytes] at this
          omega
        refine ⟨_, len, cap, rfl, by simp, hbl, htx, ?_⟩
        by_cases hz : len = 0
        · exact .inl hz
        · obtain ⟨b, off, spot⟩ := a
          have hcell : ∀ j, j < len → ∀ i v, (T j).2[i]? = some v → w.cell? (((⟨b, off, spot⟩ : Addr).add (j * 14)).add i) = some v := fun j hj i v hv => by
            obtain ⟨_, hl3, hc3⟩ := World.cells?_some (hT j hj).1
            have hi : i < 14 := by rw [← hl3]; exact (List.getElem?_eq_some_iff.1 hv).1
            exact (hc3 i hi).trans hv
          have hlen0 : ∀ j, j < len → (T j).2.length = 14 := fun j hj => (World.cells?_some (hT j hj).1).2.1
          obtain ⟨v0, hv0⟩ : ∃ v, (T 0).2[0]? = some v := ⟨_, List.getElem?_eq_getElem (by rw [hlen0 0 (by omega)]; omega)⟩
          have h00 := hcell 0 (by omega) 0 v0 hv0
          have hspot : spot = none := by simpa [Addr.add] using World.cell?_spot h00
          subst hspot
          have hblt : b < w.heap.size := by
            have := World.block_lt_of_cell? w _ h00
            simpa [Addr.add] using this
          refine .inr ⟨b, off, rfl, hblt, Kids.of fun j hj => ?_⟩
          have hj' : j < len := by simpa using hj
          refine ⟨(T j).2.toArray, ?_, fun i v hv => ?_⟩
          · simpa using (hT j hj').2
          · have := hcell j hj' i v (by simpa using hv)
            rwa [Addr.add_mid, Addr.add_mid] at this
theorem tree_of {H : Type} {enc : TypeId × Value → H} {w : World} {base : Nat} {spare : Nat → Bool} {held : Bool} {v : Value} {d : DataW H} {ps : List MemPlace} (h : DataW.Trod enc Tryd.prog w base spare held 26 v d ps)
    (hw : ∀ y ∈ d.weights Tryd.prog 26, y ≤ reachBytes) : ∃ t : Ex, Tree w v t := by
  obtain ⟨fuel, hf⟩ := h
  obtain ⟨t, ht⟩ := open_ex fuel _ _ hf hw
  obtain ⟨xs, n, _, _, hl, _, _⟩ := DataW.trod_struct Tryd.underlying26 hf
  rw [cellsX] at hl
  have : v = .agg v.cells.toList.toArray := agg_of rfl (by rw [hl]; decide)
  exact ⟨t, by rw [this]; exact ht⟩
end Go.Proofs.YtnfoknifofglbaaDoor.T9
namespace Go.Proofs.YtnfoknifofglbaaDoor.T9
open Go.ChangeShapes Go.WideShapes Go.ChangeAt Go.RowKit
open Go.Deep (choose_lt)
set_option linter.unusedVariables false

theorem lit_le {n : Int} (h : (Lit.int .i64 n).wf = true) : n ≤ 9223372036854775807 := by
  exact (bounds_i64 h).2
theorem NumL_of : ∀ {ks : List Ex}, (∀ k ∈ ks, NumE k) → NumL ks
  | [], _ => trivial
  | k :: r, h => ⟨h k (by simp), NumL_of fun x hx => h x (List.mem_cons_of_mem _ hx)⟩
set_option maxRecDepth 100000 in
set_option maxHeartbeats 1000000 in
theorem open_exN {H : Type} {enc : TypeId × Value → H} {w : World} {base : Nat} {spare : Nat → Bool} {held : Bool} : ∀ (fuel : Nat) (cs : List Value) (x : DataW H × List MemPlace), DataW.trod enc Tryd.prog w base spare held fuel 26 cs = some x →
    (∀ y ∈ x.1.weights Tryd.prog 26, y ≤ reachBytes) → ∃ t : Ex, In (· < w.heap.size) w (.agg cs.toArray) t ∧ NumE t := by
  intro fuel
  induction fuel using Nat.strongRecOn with
  | _ fuel ih =>
    intro cs x hf hw
    obtain ⟨xs, n, rfl, rfl, hl, hlen, hfs⟩ := DataW.trod_struct Tryd.underlying26 hf
    rw [cellsX] at hl
    obtain ⟨c0, c1, c2, c3, c4, c5, c6, c7, c8, c9, c10, c11, c12, c13, rfl⟩ : ∃ c0 c1 c2 c3 c4 c5 c6 c7 c8 c9 c10 c11 c12 c13, cs = [c0, c1, c2, c3, c4, c5, c6, c7, c8, c9, c10, c11, c12, c13] := by
      match cs, hl with
      | [c0, c1, c2, c3, c4, c5, c6, c7, c8, c9, c10, c11, c12, c13], _ => exact ⟨c0, c1, c2, c3, c4, c5, c6, c7, c8, c9, c10, c11, c12, c13, rfl⟩
    match xs, hlen with
    | [y0, y1, y2, y3, y4, y5, y6, y7], _ =>
      have t0 := hfs 0 _ rfl
      have t1 := hfs 1 _ rfl
      have t2 := hfs 2 _ rfl
      have t3 := hfs 3 _ rfl
      have t4 := hfs 4 _ rfl
      have t5 := hfs 5 _ rfl
      have t6 := hfs 6 _ rfl
      have t7 := hfs 7 _ rfl
      obtain ⟨k, e0, _, _⟩ := DataW.trod_int Tryd.underlying3 t0
      obtain ⟨o, e1, _, _⟩ := DataW.trod_int Tryd.underlying3 t1
      obtain ⟨i, e2, _, w2⟩ := DataW.trod_int Tryd.underlying2 t2
      have hnum := lit_le w2
      obtain ⟨s, e3, hs, _⟩ := DataW.trod_string Tryd.underlying9 t3
      obtain ⟨r, e4⟩ := ref_cells t4
      obtain ⟨q, e5⟩ := ref_cells t5
      obtain ⟨f, e6, _, _⟩ := DataW.trod_int Tryd.underlying3 t6
      simp [cellsI] at e0
      simp [cellsI] at e1
      simp [cellsI6] at e2
      simp [cellsS] at e3
      simp [cellsR] at e4
      simp [cellsR] at e5
      simp [cellsI] at e6
      obtain ⟨rfl, rfl, rfl, rfl⟩ := e4
      obtain ⟨rfl, rfl, rfl, rfl⟩ := e5
      subst e0 e1 e2 e3 e6
      have hin : ∀ (j : Nat) (ty : TypeId) (d : DataW H), ([y0, y1, y2, y3, y4, y5, y6, y7].map (·.1))[j]? = some d → [3, 3, 2, 9, 23, 23, 3, 24][j]? = some ty → ∀ y ∈ d.weights Tryd.prog ty, y ≤ reachBytes := fun j ty d hd hty y hy => hw y (by
        have := DataW.weights_mem_each (P := Tryd.prog) hty hd y hy
        simp only [DataW.weights, Tryd.underlying26]
        exact this)
      have hs7 := hin 7 24 y7.1 rfl rfl
      have hs3 := hin 3 9 y3.1 rfl rfl
      rw [hs] at hs3
      have htx : s.size ≤ 4611686018427387904 := by
        have := hs3 s.data.toList.length (by simp [DataW.weights])
        simp [reachBytes] at this
        have h2 : s.size = s.data.size := rfl
        omega
      have t7' : DataW.trod enc Tryd.prog w base spare held n 24 [c13] = some y7 := by simpa [cellsL] using t7
      rcases DataW.trod_slice Tryd.underlying24 t7' with ⟨hc, _⟩ | ⟨a, len, cap, elems, rest, n', rfl, hc, hy7, hbase, hlc, hcm, hel, hget, _, _⟩
      · obtain rfl : c13 = .slice none 0 0 := by simpa using hc
        refine ⟨.mk ⟨k, o, i, s, r, q, f⟩ [], ?_, ⟨hnum, trivial⟩⟩
        unfold In
        exact ⟨none, 0, 0, rfl, rfl, by omega, htx, .inl rfl⟩
      · obtain rfl : c13 = .slice (some a) len cap := by simpa using hc
        rw [cellsX] at hget
        rw [hy7] at hs7
        simp only [DataW.weights, Tryd.underlying24] at hs7
        have hkid : ∀ j, j < len → ∃ p : Ex × List Value, w.cells? base (a.add (j * 14)) 14 = some p.2 ∧ In (· < w.heap.size) w (.agg p.2.toArray) p.1 ∧ NumE p.1 := by
          intro j hj
          have hg := hget j hj
          rw [List.getElem?_eq_getElem (by omega)] at hg
          obtain ⟨cs', hc1, hc2⟩ := Option.bind_eq_some_iff.1 hg
          obtain ⟨t, ht⟩ := ih n' (by omega) cs' _ hc2 (fun y hy => hs7 y (List.mem_cons_of_mem _ (List.mem_append_left _ (all_mem (i := j) (by rw [List.getElem?_map, List.getElem?_eq_getElem (by omega)]; rfl) y hy))))
          exact ⟨(t, cs'), hc1, ht⟩
        obtain ⟨T, hT⟩ := choose_lt (α := Ex × List Value) hkid
        refine ⟨.mk ⟨k, o, i, s, r, q, f⟩ ((List.range len).map fun j => (T j).1), ?_, ⟨hnum, NumL_of (fun x hx => by obtain ⟨j, hj, rfl⟩ := List.mem_map.1 hx; exact (hT j (List.mem_range.1 hj)).2.2)⟩⟩
        unfold In
        have hbl : len ≤ 4611686018427387904 := by
          have := hs7 ((elems.length + rest.length) * Tryd.prog.bytesOf 26) (by simp)
          have hb : Tryd.prog.bytesOf 26 = 120 := by kernel_rfl
          rw [hb] at this
          simp [reachBytes] at this
          omega
        refine ⟨_, len, cap, rfl, by simp, hbl, htx, ?_⟩
        by_cases hz : len = 0
        · exact .inl hz
        · obtain ⟨b, off, spot⟩ := a
          have hcell : ∀ j, j < len → ∀ i v, (T j).2[i]? = some v → w.cell? (((⟨b, off, spot⟩ : Addr).add (j * 14)).add i) = some v := fun j hj i v hv => by
            obtain ⟨_, hl3, hc3⟩ := World.cells?_some (hT j hj).1
            have hi : i < 14 := by rw [← hl3]; exact (List.getElem?_eq_some_iff.1 hv).1
            exact (hc3 i hi).trans hv
          have hlen0 : ∀ j, j < len → (T j).2.length = 14 := fun j hj => (World.cells?_some (hT j hj).1).2.1
          obtain ⟨v0, hv0⟩ : ∃ v, (T 0).2[0]? = some v := ⟨_, List.getElem?_eq_getElem (by rw [hlen0 0 (by omega)]; omega)⟩
          have h00 := hcell 0 (by omega) 0 v0 hv0
          have hspot : spot = none := by simpa [Addr.add] using World.cell?_spot h00
          subst hspot
          have hblt : b < w.heap.size := by
            have := World.block_lt_of_cell? w _ h00
            simpa [Addr.add] using this
          refine .inr ⟨b, off, rfl, hblt, Kids.of fun j hj => ?_⟩
          have hj' : j < len := by simpa using hj
          refine ⟨(T j).2.toArray, ?_, fun i v hv => ?_⟩
          · simpa using (hT j hj').2.1
          · have := hcell j hj' i v (by simpa using hv)
            rwa [Addr.add_mid, Addr.add_mid] at this
theorem tree_ofN {H : Type} {enc : TypeId × Value → H} {w : World} {base : Nat} {spare : Nat → Bool} {held : Bool} {v : Value} {d : DataW H} {ps : List MemPlace} (h : DataW.Trod enc Tryd.prog w base spare held 26 v d ps)
    (hw : ∀ y ∈ d.weights Tryd.prog 26, y ≤ reachBytes) : ∃ t : Ex, Tree w v t ∧ NumE t := by
  obtain ⟨fuel, hf⟩ := h
  obtain ⟨t, ht, hN⟩ := open_exN fuel _ _ hf hw
  obtain ⟨xs, n, _, _, hl, _, _⟩ := DataW.trod_struct Tryd.underlying26 hf
  rw [cellsX] at hl
  have : v = .agg v.cells.toList.toArray := agg_of rfl (by rw [hl]; decide)
  exact ⟨t, by rw [this]; exact ht, hN⟩
end Go.Proofs.YtnfoknifofglbaaDoor.T9
namespace Go.Proofs.YtnfoknifofglbaaDoor.T9
open Go.ChangeShapes Go.WideShapes Go.ChangeAt Go.RowKit
set_option linter.unusedVariables false

abbrev laid6 : List (String × DataW Unit) := [("math/bits.deBruijn32tab", Rows.laid_math_bits_deBruijn32tab), ("math/bits.deBruijn64tab", Rows.laid_math_bits_deBruijn64tab), ("internal/strconv.uint64pow10", Rows.laid_internal_strconv_uint64pow10), ("unicode/utf8.acceptRanges", Rows.laid_unicode_utf8_acceptRanges), ("quadrille/print.operations", Rows.laid_quadrille_print_operations), ("unicode/utf8.first", Rows.laid_unicode_utf8_first)]
theorem met (os : Os) (args : Array Value) : laidMetH Tryd.prog laid6 ((World.laidAll Tryd.prog os laid6).forCall (fun _ _ => 0) ⟨#[], args, []⟩).memory := by
  rw [MakeChecks.laidMetH_plain _ _ _ (by kernel_rfl)]
  exact laidMet_laidAll _ (by kernel_rfl) (by kernel_rfl)
theorem tTab : (Tryd.prog.globals[1]?).map (·.type) = some 111 := by kernel_rfl
theorem pow10_is {H : Type} : (Rows.laid_internal_strconv_uint64pow10 : DataW H) = Lib.tabData .u64 Lib.pow10Tab := by kernel_rfl
theorem gOp : Tryd.prog.globalNamed "quadrille/print.operations" = some 0 := by kernel_rfl
theorem tOp : (Tryd.prog.globals[0]?).map (·.type) = some 62 := by kernel_rfl
theorem op_is {H : Type} : (Rows.laid_quadrille_print_operations : DataW H) = .agg (opTab.map fun p => .agg [.lit (.string p.1), .lit (.int .i64 p.2)]) := by kernel_rfl
theorem flat2 : ∀ (l : List (List UInt8 × Int)) (i : Nat) (hi : i < l.length), (l.flatMap fun p => [Value.string (ba p.1), .int .i64 p.2])[i * 2]? = some (.string (ba l[i].1)) ∧ (l.flatMap fun p => [Value.string (ba p.1), .int .i64 p.2])[i * 2 + 1]? = some (.int .i64 l[i].2)
  | [], i, hi => absurd hi (Nat.not_lt_zero i)
  | a :: r, 0, _ => ⟨rfl, rfl⟩
  | a :: r, i + 1, hi => by
    have := flat2 r i (by simpa using hi)
    rw [show (i + 1) * 2 = i * 2 + 1 + 1 by omega]
    simpa only [List.flatMap_cons, List.cons_append, List.nil_append, List.getElem?_cons_succ, List.getElem_cons_succ] using this
theorem cells_of_ops {H : Type} {enc : TypeId × Value → H} {w : World} {base : Nat} {sp : Nat → Bool} {held : Bool} {fuel : Nat} {cs : List Value} {p : List MemPlace}
    (h : DataW.trod enc Tryd.prog w base sp held fuel 62 cs = some (.agg (opTab.map fun p => .agg [.lit (.string p.1), .lit (.int .i64 p.2)]), p)) : cs = opC.toList := by
  have hce : Tryd.prog.cellsOf 61 = 2 := by kernel_rfl
  have hct : Tryd.prog.cellsOf 62 = 26 := by kernel_rfl
  have c9 : Tryd.prog.cellsOf 9 = 1 := by kernel_rfl
  have c3 : Tryd.prog.cellsOf 3 = 1 := by kernel_rfl
  cases fuel with
  | zero => simp [DataW.trod] at h
  | succ fuel =>
    simp only [DataW.trod, Tryd.underlying62, hce, hct] at h
    split at h
    · rename_i hl
      obtain ⟨xs, hm, hx⟩ := Option.map_eq_some_iff.1 h
      have hxs : xs.map (·.1) = opTab.map fun p => (DataW.agg [.lit (.string p.1), .lit (.int .i64 p.2)] : DataW H) := by
        have := congrArg Prod.fst hx
        simpa using this
      have two : ∀ i, (hi : i < opTab.length) → cs[i * 2]? = some (.string (ba (opTab[i]'hi).1)) ∧ cs[i * 2 + 1]? = some (.int .i64 (opTab[i]'hi).2) := by
        intro i hi
        have hi13 : i < 13 := hi
        obtain ⟨b, hb, hf⟩ := Lib.mapM_at hm i i (by simp [hi13])
        obtain ⟨ys, n, hn, hbe, hl2, hlen, hfs⟩ := DataW.trod_struct Tryd.underlying61 hf
        have h2 : (xs.map (·.1))[i]? = some b.1 := by simp [hb]
        rw [hxs, List.getElem?_map, List.getElem?_eq_getElem (show i < opTab.length from hi)] at h2
        have h3 := Option.some.inj h2
        match ys, hlen with
        | [y0, y1], _ =>
          have t0 := hfs 0 _ rfl
          have t1 := hfs 1 _ rfl
          obtain ⟨s, e0, hs, _⟩ := DataW.trod_string Tryd.underlying9 t0
          obtain ⟨k, e1, hk, _⟩ := DataW.trod_int Tryd.underlying3 t1
          rw [hbe] at h3
          simp only [List.map_cons, List.map_nil, DataW.agg.injEq, List.cons.injEq, and_true, hs, hk, DataW.lit.injEq, Lit.string.injEq, Lit.int.injEq, true_and] at h3
          have e0 : List.take (Tryd.prog.cellsOf 9) (List.drop 0 (List.take 2 (List.drop (i * 2) cs))) = [.string s] := e0
          have e1 : List.take (Tryd.prog.cellsOf 3) (List.drop 1 (List.take 2 (List.drop (i * 2) cs))) = [.int .i64 k] := e1
          rw [c9] at e0
          rw [c3] at e1
          have a0 : cs[i * 2]? = some (.string s) := by
            have := congrArg (·[0]?) e0
            simpa [List.getElem?_take, List.getElem?_drop] using this
          have a1 : cs[i * 2 + 1]? = some (.int .i64 k) := by
            have := congrArg (·[0]?) e1
            simpa [List.getElem?_take, List.getElem?_drop] using this
          rw [a0, a1, h3.1, h3.2]
          exact ⟨rfl, rfl⟩
      apply List.ext_getElem?
      intro j
      by_cases hj : j < 26
      · obtain ⟨e0, e1⟩ := two (j / 2) (show j / 2 < opTab.length from (by have : opTab.length = 13 := rfl; omega))
        obtain ⟨f0, f1⟩ := flat2 opTab (j / 2) (show j / 2 < opTab.length from (by have : opTab.length = 13 := rfl; omega))
        have ho : opC.toList = opTab.flatMap fun p => [Value.string (ba p.1), .int .i64 p.2] := rfl
        rw [ho]
        rcases (show j = j / 2 * 2 ∨ j = j / 2 * 2 + 1 by omega) with hj2 | hj2
        · rw [hj2, e0, f0]
        · rw [hj2, e1, f1]
      · have : opC.toList.length = 26 := rfl
        rw [List.getElem?_eq_none (by omega), List.getElem?_eq_none (by omega)]
    · cases h
/-- What the row's condition and the world's shape give the walks. -/
theorem lay_of {W : World} (h : laidMetH Tryd.prog laid6 W) (hs : W.ShapedOpen Tryd.prog) : Lay11 W := by
  rw [MakeChecks.laidMetH_plain _ _ _ (by kernel_rfl)] at h
  obtain ⟨ps, ⟨g0, t0, cs0, f0, p0, q0, hg0, ht0, hv0, hd0, ⟨g1, t1, cs1, f1, p1, q1, hg1, ht1, hv1, hd1, ⟨g2, t2, cs2, f2, p2, q2, hg2, ht2, hv2, hd2, ⟨g3, t3, cs3, f3, p3, q3, hg3, ht3, hv3, hd3, ⟨g4, t4, cs4, f4, p4, q4, hg4, ht4, hv4, hd4, _, _⟩, _⟩, _⟩, _⟩, _⟩, _⟩ := h
  obtain rfl := Option.some.inj (gTab.symm.trans hg2)
  obtain rfl := Option.some.inj (tTab.symm.trans ht2)
  obtain rfl := Option.some.inj (gOp.symm.trans hg4)
  obtain rfl := Option.some.inj (tOp.symm.trans ht4)
  rw [op_is] at hd4
  rw [pow10_is] at hd2
  have hcs := cells_of_ops hd4
  refine ⟨?_, ?_, ?_⟩
  · unfold Tab Lib.TabIs
    rw [hv2, ← Lib.cells_of_tab Tryd.underlying111 Tryd.underlying80 (by kernel_rfl) (by kernel_rfl) hd2]
  · exact Go.Proofs.cell_of_shapedOpen_int (zero := #[.int .i64 0]) (t := 3) hs (of_decide_eq_true (by kernel_rfl)) (by kernel_rfl) rfl (by kernel_rfl) (by kernel_rfl) Tryd.underlying3
  · unfold World.var? at hv4
    rw [gOp] at hv4
    simp only [Option.bind_some] at hv4
    cases hh : W.heap[0]? with
    | none => rw [hh] at hv4; cases hv4
    | some o =>
      rw [hh] at hv4
      cases o with
      | cells c t fr =>
        simp only [Option.some.injEq] at hv4
        subst hv4
        exact ⟨t, fr, by rw [show c = opC from Array.ext' hcs]⟩
      | _ => cases hv4
end Go.Proofs.YtnfoknifofglbaaDoor.T9
