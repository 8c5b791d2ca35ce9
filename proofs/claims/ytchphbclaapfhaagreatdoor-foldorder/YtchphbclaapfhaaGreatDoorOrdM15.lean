/- COUNTA and COUNTBLANK over any arguments, each cell's value 0: what run answers, as mathematics. -/
import Derived.Test.YtchphbclaapfhaaGreatDoorCnt15
import Derived.Test.YtchphbclaapfhaaGreatDoorColM15
namespace Go.Proofs.YtchphbclaapfhaaGreatDoor
open Go.RowKit Go.Sort
open T9 (Blk Chg)
set_option linter.unusedVariables false
set_option linter.unusedSimpArgs false

/-- An area's place by its number in row order. -/
def plc (a : Ag) (k : Nat) : Int × Int := (a.t + (k / a.cols : Nat), a.l + (k % a.cols : Nat))
/-- The places of all areas from the left, each in row order. -/
def wantL : List Ag → List (Int × Int)
  | [] => []
  | a :: r => (if a.is then (List.range a.many).map (plc a) else []) ++ wantL r
/-- How many of the given values count. -/
def cntG (pf : Va → Bool) : List Ag → Nat
  | [] => 0
  | a :: r => (if a.is then 0 else if pf a.v then 1 else 0) + cntG pf r
abbrev lastN (n : Int) : Va := ⟨1, n, no⟩
theorem rn_area (pf : Va → Bool) (c0 : Bool) (hc : pf ⟨1, 0, no⟩ = c0) (a : Ag) (ha : a.is = true) (r : List Ag) (X L N : Nat) (W : List (Int × Int))
    (hr : ∀ (s : Int) (f i : Nat), 0 ≤ s → s + N ≤ 1000000000 → L < f → rnS (cntT pf) (cntT pf) lastN [] f i (goOn (cntT pf) lastN r 0 s) = some (⟨1, s + X, no⟩, W)) :
    ∀ (d k f i : Nat) (s : Int), a.many - k = d → 0 ≤ s → s + d + N ≤ 1000000000 → d + L < f → rnS (cntT pf) (cntT pf) lastN [] f i (goOn (cntT pf) lastN (a :: r) k s) = some (⟨1, s + (if c0 then d else 0) + X, no⟩, (List.range' k d).map (plc a) ++ W)
  | 0, k, f, i, s, hd, hs, hb, hf => by
    have hg : goOn (cntT pf) lastN (a :: r) k s = goOn (cntT pf) lastN r 0 s := by rw [goOn, if_pos ha, if_neg (by omega)]
    rw [hg, hr s f i hs (by omega) (by omega)]
    cases c0 <;> simp
  | d + 1, k, 0, i, s, hd, hs, hb, hf => by omega
  | d + 1, k, f + 1, i, s, hd, hs, hb, hf => by
    have hg : goOn (cntT pf) lastN (a :: r) k s = .wait (a :: r) (k + 1) (plc a k).1 (plc a k).2 false s := by rw [goOn, if_pos ha, if_pos (by omega)]; rfl
    have hv : (([] : List Va)[i]?).getD ⟨1, 0, no⟩ = ⟨1, 0, no⟩ := rfl
    rw [hg, rnS, hv, List.range'_succ]
    unfold cntT
    rw [hc]
    have hw : wrap64 (s + 1) = s + 1 := IntWalk.wrap64_in (s + 1) ⟨by omega, by omega⟩
    cases c0 with
    | true =>
      rw [if_pos rfl, hw, giv]
      have ih := rn_area pf true hc a ha r X L N W hr d (k + 1) f (i + 1) (s + 1) (by omega) (by omega) (by omega) (by omega)
      unfold cntT at ih
      rw [ih]
      simp
      omega
    | false =>
      rw [if_neg (by decide), giv]
      have ih := rn_area pf false hc a ha r X L N W hr d (k + 1) f (i + 1) s (by omega) (by omega) (by omega) (by omega)
      unfold cntT at ih
      rw [ih]
      simp
theorem rn_args (pf : Va → Bool) (c0 : Bool) (hc : pf ⟨1, 0, no⟩ = c0) : ∀ (xs : List Ag) (s : Int) (f i : Nat), 0 ≤ s → s + ((wantL xs).length + xs.length : Nat) ≤ 1000000000 → (wantL xs).length < f →
    rnS (cntT pf) (cntT pf) lastN [] f i (goOn (cntT pf) lastN xs 0 s) = some (⟨1, s + ((if c0 then (wantL xs).length else 0) + cntG pf xs : Nat), no⟩, wantL xs)
  | [], s, f, i, hs, hb, hf => by
    obtain ⟨f', rfl⟩ : ∃ f', f = f' + 1 := ⟨f - 1, by simp [wantL] at hf; omega⟩
    rw [goOn, rnS]
    cases c0 <;> simp [wantL, cntG]
  | a :: r, s, f, i, hs, hb, hf => by
    cases ha : a.is with
    | true =>
      have hl : (wantL (a :: r)).length = a.many + (wantL r).length := by simp [wantL, ha]
      rw [hl] at hb hf
      simp only [List.length_cons] at hb
      have := rn_area pf c0 hc a ha r ((if c0 then (wantL r).length else 0) + cntG pf r) (wantL r).length ((wantL r).length + r.length) (wantL r) (fun s f i h1 h2 h3 => rn_args pf c0 hc r s f i h1 h2 h3) a.many 0 f i s (by omega) hs (by omega) (by omega)
      rw [this, hl, ← List.range_eq_range']
      refine congrArg some (Prod.ext ?_ ?_)
      · simp only [cntG, ha, if_true]
        cases c0 <;> simp <;> omega
      · simp [wantL, ha]
    | false =>
      have hl : (wantL (a :: r)).length = (wantL r).length := by simp [wantL, ha]
      rw [hl] at hb hf
      simp only [List.length_cons] at hb
      have hw : wrap64 (s + 1) = s + 1 := IntWalk.wrap64_in (s + 1) ⟨by omega, by omega⟩
      have hg : goOn (cntT pf) lastN (a :: r) 0 s = goOn (cntT pf) lastN r 0 (if pf a.v then s + 1 else s) := by
        rw [goOn, if_neg (by simp [ha])]
        unfold cntT
        rw [hw]
      rw [hg, hl]
      cases hp : pf a.v with
      | true =>
        rw [if_pos rfl, rn_args pf c0 hc r (s + 1) f i (by omega) (by omega) hf]
        refine congrArg some (Prod.ext ?_ ?_)
        · simp only [cntG, ha, hp]
          simp
          omega
        · simp [wantL, ha]
      | false =>
        rw [if_neg (by decide), rn_args pf c0 hc r s f i hs (by omega) hf]
        refine congrArg some (Prod.ext ?_ ?_)
        · simp only [cntG, ha, hp]
          simp
        · simp [wantL, ha]
end Go.Proofs.YtchphbclaapfhaaGreatDoor
