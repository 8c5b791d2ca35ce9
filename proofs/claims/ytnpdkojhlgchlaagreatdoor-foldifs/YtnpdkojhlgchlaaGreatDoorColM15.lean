/- What run answers of a fold over a column, for whatever rule: mathematics. -/
import Derived.Test.YtnpdkojhlgchlaaGreatDoorBgn15
import Derived.Test.YtnpdkojhlgchlaaGreatDoorCol15
namespace Go.Proofs.YtnpdkojhlgchlaaGreatDoor
open Go.RowKit Go.Sort
open T9 (Blk Chg)
set_option linter.unusedVariables false
set_option linter.unusedSimpArgs false

/-- What a rule makes of a column's values: what it ends with, how many it takes. -/
def colR {σ : Type} (stC : σ → Va → Stp × σ) (last : σ → Va) : List Va → σ → Va × Nat
  | [], s => (last s, 0)
  | x :: r, s => match stC s x with
    | (.ends y, _) => (y, 1)
    | (.on, s') => ((colR stC last r s').1, (colR stC last r s').2 + 1)
    | (.bes, s') => ((colR stC last r s').1, (colR stC last r s').2 + 1)
theorem agC_manyG (m : Nat) (h1 : 1 ≤ m) : (agC m).many = m ∧ (agC m).cols = 1 := by
  unfold Ag.many Ag.cols
  refine ⟨?_, rfl⟩
  show ((m : Int) - 1 - 0 + 1).toNat * 1 = m
  omega
theorem goOn_colG {σ : Type} (stG : σ → Va → Stp × σ) (last : σ → Va) (m : Nat) (h1 : 1 ≤ m) (k : Nat) (s : σ) : goOn stG last [agC m] k s = if k < m then .wait [agC m] (k + 1) (k : Int) 0 false s else .over (last s) := by
  obtain ⟨e1, e2⟩ := agC_manyG m h1
  rw [goOn, e1, e2, if_pos rfl, Nat.div_one, Nat.mod_one]
  split
  · simp
  · simp only [goOn]
theorem rn_colG {σ : Type} (stG stC : σ → Va → Stp × σ) (last : σ → Va) (vs : List Va) (h1 : 1 ≤ vs.length) : ∀ (d i f : Nat) (s : σ), vs.length - i = d + 1 → d + 2 ≤ f →
    rnS stG stC last vs f i (.wait [agC (vs.length : Nat)] (i + 1) (i : Int) 0 false s) = some ((colR stC last (vs.drop i) s).1, (List.range' i (colR stC last (vs.drop i) s).2).map fun j : Nat => ((j : Int), (0 : Int)))
  | d, i, 0, s, hd, hf => by omega
  | d, i, f + 1, s, hd, hf => by
    have hi : i < vs.length := by omega
    have hv : (vs[i]?).getD ⟨1, 0, no⟩ = vs[i] := by rw [List.getElem?_eq_getElem hi]; rfl
    have next : ∀ s', (rnS stG stC last vs f (i + 1) (goOn stG last [agC (vs.length : Nat)] (i + 1) s')).map (fun p => (p.1, ((i : Int), (0 : Int)) :: p.2)) = some ((colR stC last (vs.drop (i + 1)) s').1, (List.range' i ((colR stC last (vs.drop (i + 1)) s').2 + 1)).map fun j : Nat => ((j : Int), (0 : Int))) := by
      intro s'
      rw [goOn_colG _ _ _ h1]
      by_cases hl : i + 1 < vs.length
      · rw [if_pos hl]
        obtain ⟨d', rfl⟩ : ∃ d', d = d' + 1 := ⟨d - 1, by omega⟩
        rw [rn_colG stG stC last vs h1 d' (i + 1) f s' (by omega) (by omega), List.range'_succ]
        rfl
      · rw [if_neg hl, List.drop_eq_nil_of_le (by omega : vs.length ≤ i + 1), colR]
        obtain ⟨f', rfl⟩ : ∃ f', f = f' + 1 := ⟨f - 1, by omega⟩
        rw [rnS]
        simp [List.range'_succ]
    rw [rnS, hv, List.drop_eq_getElem_cons hi, colR]
    generalize stC s vs[i] = p
    obtain ⟨p, s'⟩ := p
    cases p with
    | on => exact next s'
    | bes => exact next s'
    | ends y =>
      obtain ⟨f', rfl⟩ : ∃ f', f = f' + 1 := ⟨f - 1, by omega⟩
      rw [giv, rnS]
      simp [List.range'_succ]
theorem rn_column {σ : Type} (stG stC : σ → Va → Stp × σ) (last : σ → Va) (s0 : σ) (vs : List Va) (h1 : 1 ≤ vs.length) (h3 : vs.length ≤ 300) : rnS stG stC last vs 70000 0 (goOn stG last [agC (vs.length : Nat)] 0 s0) = some ((colR stC last vs s0).1, (List.range (colR stC last vs s0).2).map fun j : Nat => ((j : Int), (0 : Int))) := by
  rw [goOn_colG _ _ _ h1, if_pos (by omega)]
  have := rn_colG stG stC last vs h1 (vs.length - 1) 0 70000 s0 (by omega) (by omega)
  rw [List.drop_zero, ← List.range_eq_range'] at this
  exact this
/-- The law's run over one column, for whatever rule. -/
theorem run_col {σ : Type} (fI : Int) (fn : Nat) (s0 : σ) (stG stC : σ → Va → Stp × σ) (last : σ → Va) (MK : MkIs fn s0 stG stC last) (nm : ByteArray) (mx : Int) (HI : CallIs 20 #[.int .i64 fI] (.tuple #[.agg #[.string nm, .int .i64 6, .int .i64 1, .int .i64 mx], .int .i64 0])) (HX : ∀ w, (Instr.index 76 (.agg fcatC) (.int .i64 fI)).run Tryz.prog w = .ok (.func (.func fn) #[] #[]) w) (hmx : 1 ≤ mx ∨ mx = -1)
    (vs : List Va) (h1 : 1 ≤ vs.length) (h3 : vs.length ≤ 300) (hok : ∀ x ∈ vs, VaOk x) (w : World) (aa : Option Addr) (capa : Nat) (ha : ArgsAt w (· < w.heap.size) aa [agC (vs.length : Nat)]) (av : Option Addr) (capv : Nat) (hv : ValsAt w av vs) :
    Calls Tryz.prog 9 #[.int .i64 fI, .slice aa 1 capa, .slice av vs.length capv] w fun e w' => ∃ v, e = .returned (.tuple #[(colR stC last vs s0).1.v, v, .bool true]) ∧ RowP w' (w.heap.size + 1) v ((List.range (colR stC last vs s0).2).map fun j : Nat => ((j : Int), (0 : Int))) ∧ Below w.heap.size w w' := by
  have hao : AgOk (agC (vs.length : Nat)) := agC_ok _ (by omega) (by omega)
  have hb1 := begin_ok fI fn s0 stG stC last MK nm 1 mx HI HX [agC (vs.length : Nat)] (by simp) (by simp) (by simp) (by simpa using hmx) (fun a ha => by rcases List.mem_cons.1 ha with rfl | ha; exact hao; cases ha) aa capa (w.alloc (vO 0 0 no)) (args_below ha (step (Below.refl _ _) _))
  exact run_any fI (goOn stG last [agC (vs.length : Nat)] 0 s0) (goOn_plain _ _ _ _ _) stG stC last MK.nbG MK.nbC aa 1 capa w hb1 vs hok (by omega) av capv hv _ _ (rn_column stG stC last s0 vs h1 h3)
end Go.Proofs.YtnpdkojhlgchlaaGreatDoor
