/- FoldSums: what run answers of a column, as mathematics. -/
import Derived.Test.YtmcpckmkehojjaaGreatDoorBgn15
import Derived.Test.YtmcpckmkehojjaaGreatDoorCol15
namespace Go.Proofs.YtmcpckmkehojjaaGreatDoor
open Go.RowKit Go.Sort
open T9 (Blk Chg)
set_option linter.unusedVariables false
set_option linter.unusedSimpArgs false

def Fit (s x : Int) : Prop := -9223372036854775808 ≤ s + x ∧ s + x ≤ 9223372036854775807
instance (s x : Int) : Decidable (Fit s x) := by unfold Fit; infer_instance
/-- Numbers added up one behind the other: the sum, whether it fits, how many were taken. -/
def addU : List Int → Int → Nat → Int × Bool × Nat
  | [], s, n => (s, true, n)
  | x :: r, s, n => if Fit s x then addU r (s + x) (n + 1) else (0, false, n + 1)
theorem addU_ge : ∀ (l : List Int) (s : Int) (n : Nat), n ≤ (addU l s n).2.2 ∧ (addU l s n).2.2 ≤ n + l.length
  | [], s, n => ⟨Nat.le_refl _, Nat.le_refl _⟩
  | x :: r, s, n => by
    rw [addU]
    split
    · have := addU_ge r (s + x) (n + 1)
      simp only [List.length_cons]
      omega
    · simp only [List.length_cons]
      omega
def endU (p : Int × Bool × Nat) : Va := if p.2.1 then ⟨1, p.1, no⟩ else ⟨4, 2, no⟩
theorem agC_many (m : Nat) (h1 : 1 ≤ m) : (agC m).many = m ∧ (agC m).cols = 1 := by
  unfold Ag.many Ag.cols
  refine ⟨?_, rfl⟩
  show ((m : Int) - 1 - 0 + 1).toNat * 1 = m
  omega
theorem goOn_col (stG : Int → Va → Stp × Int) (m : Nat) (h1 : 1 ≤ m) (k : Nat) (s : Int) : goOn stG lastS [agC m] k s = if k < m then .wait [agC m] (k + 1) (k : Int) 0 false s else .over (lastS s) := by
  obtain ⟨e1, e2⟩ := agC_many m h1
  rw [goOn, e1, e2, if_pos rfl, Nat.div_one, Nat.mod_one]
  split
  · simp
  · simp only [goOn]
theorem rn_col (nm : Va → Int × Int) (ns : List Int) (h1 : 1 ≤ ns.length) : ∀ (d i f : Nat) (s : Int), ns.length - i = d + 1 → d + 2 ≤ f →
    rnS (givN nm sumT) (celN sumT) lastS (ns.map nmV) f i (.wait [agC (ns.length : Nat)] (i + 1) (i : Int) 0 false s) = some (endU (addU (ns.drop i) s i), (List.range' i ((addU (ns.drop i) s i).2.2 - i)).map fun j : Nat => ((j : Int), (0 : Int)))
  | d, i, 0, s, hd, hf => by omega
  | d, i, f + 1, s, hd, hf => by
    have hi : i < ns.length := by omega
    have hv : ((ns.map nmV)[i]?).getD ⟨1, 0, no⟩ = nmV ns[i] := by rw [List.getElem?_map, List.getElem?_eq_getElem hi]; rfl
    rw [rnS, hv, List.drop_eq_getElem_cons hi, addU]
    have hc : celN sumT s (nmV ns[i]) = sumT s ns[i] := rfl
    rw [hc]
    by_cases hF : Fit s ns[i]
    · have hs : sumT s ns[i] = (.on, s + ns[i]) := if_pos hF
      rw [hs, if_pos hF, giv, goOn_col _ _ h1]
      by_cases hl : i + 1 < ns.length
      · rw [if_pos hl]
        obtain ⟨d', rfl⟩ : ∃ d', d = d' + 1 := ⟨d - 1, by omega⟩
        have ih := rn_col nm ns h1 d' (i + 1) f (s + ns[i]) (by omega) (by omega)
        rw [show (((i + 1 : Nat) : Int)) = ((i + 1 : Nat) : Int) from rfl, ih]
        have hg := (addU_ge (ns.drop (i + 1)) (s + ns[i]) (i + 1)).1
        simp only [Option.map_some]
        rw [show (addU (ns.drop (i + 1)) (s + ns[i]) (i + 1)).2.2 - i = ((addU (ns.drop (i + 1)) (s + ns[i]) (i + 1)).2.2 - (i + 1)) + 1 by omega, List.range'_succ]
        rfl
      · rw [if_neg hl, List.drop_eq_nil_of_le (by omega : ns.length ≤ i + 1), addU]
        obtain ⟨f', rfl⟩ : ∃ f', f = f' + 1 := ⟨f - 1, by omega⟩
        rw [rnS]
        simp [endU, List.range'_succ]
    · have hs : sumT s ns[i] = (.ends ⟨4, 2, no⟩, s) := if_neg hF
      rw [hs, if_neg hF, giv]
      obtain ⟨f', rfl⟩ : ∃ f', f = f' + 1 := ⟨f - 1, by omega⟩
      rw [rnS]
      simp [endU, List.range'_succ]
theorem rn_sum (nm : Va → Int × Int) (ns : List Int) (h1 : 1 ≤ ns.length) (h3 : ns.length ≤ 300) : rnS (givN nm sumT) (celN sumT) lastS (ns.map nmV) 70000 0 (goOn (givN nm sumT) lastS [agC (ns.length : Nat)] 0 0) = some (endU (addU ns 0 0), (List.range (addU ns 0 0).2.2).map fun j : Nat => ((j : Int), (0 : Int))) := by
  rw [goOn_col _ _ h1, if_pos (by omega)]
  have := rn_col nm ns h1 (ns.length - 1) 0 70000 0 (by omega) (by omega)
  rw [List.drop_zero, Nat.sub_zero, ← List.range_eq_range'] at this
  exact this
end Go.Proofs.YtmcpckmkehojjaaGreatDoor
