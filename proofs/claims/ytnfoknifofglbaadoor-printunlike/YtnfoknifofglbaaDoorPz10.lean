/- parse: the grammar over a list of words, as a function (the last word is the end, of kind 0). -/
import Derived.Test.YtnfoknifofglbaaDoorMath8
import Derived.Test.YtnfoknifofglbaaDoorKit9
namespace Go.Proofs.YtnfoknifofglbaaDoor
open T9 (Ex Nd Rf)
set_option linter.unusedVariables false

/-- What a reading comes to: an error and its place, or a tree and the next word. -/
inductive PR where
  | bad (e a : Nat)
  | ok (t : Ex) (i : Nat)
/-- Arguments, or an error. -/
inductive PL where
  | bad (e a : Nat)
  | ok (ts : List Ex) (i : Nat)
def rf0 : Rf := ⟨0, 0, false, false⟩
abbrev no10 : ByteArray := { data := #[] }
def leafX (k n : Int) (x : ByteArray) : Ex := .mk ⟨k, 0, n, x, rf0, rf0, 0⟩ []
def unX (o : Int) (t : Ex) : Ex := .mk ⟨7, o, 0, no10, rf0, rf0, 0⟩ [t]
def binX (o : Int) (t u : Ex) : Ex := .mk ⟨8, o, 0, no10, rf0, rf0, 0⟩ [t, u]
def callX (f : Int) (ts : List Ex) : Ex := .mk ⟨9, 0, 0, no10, rf0, rf0, f⟩ ts
def errRef : Ex := leafX 4 3 no10
/-- The line of an operation of two, and its number. -/
def opOf (s : List UInt8) : Nat × Int :=
  if s = [61] then (1, 7) else if s = [60, 62] then (1, 8) else if s = [60] then (1, 9) else if s = [60, 61] then (1, 10) else if s = [62] then (1, 11) else if s = [62, 61] then (1, 12)
  else if s = [38] then (2, 6) else if s = [43] then (3, 4) else if s = [45] then (3, 5) else if s = [42] then (4, 2) else if s = [47] then (4, 3) else if s = [94] then (5, 1) else (0, 0)
/-- A sign ahead of a value: 0 if it is none. -/
def sgnOf (s : List UInt8) : Int := if s = [45] then 1 else if s = [43] then 2 else 0
/-- An error's number. -/
def errOf (s : List UInt8) : Int :=
  if s = [35, 78, 65, 77, 69, 63] then 1 else if s = [35, 78, 85, 77, 33] then 2 else if s = [35, 82, 69, 70, 33] then 3 else if s = [35, 86, 65, 76, 85, 69, 33] then 4 else if s = [35, 68, 73, 86, 47, 48, 33] then 5 else 6
def numOf (s : List UInt8) : Int := s.foldl (fun n c => 10 * n + ((c.toNat : Int) - 48)) 0
section
variable (Rd : List UInt8 → Option Rf) (Fd : List UInt8 → Option (Int × Int × Int)) (l : List Wd)
def wdAt (i : Nat) : Wd := l.getD i ⟨0, [], 0⟩
def sgAt (i : Nat) : List UInt8 := if (wdAt l i).kind = 7 then (wdAt l i).text else []
def plAt (i : Nat) : Nat := (wdAt l i).at'
/-- How far the words go that a test takes. -/
def runW (p : List UInt8 → Bool) : Nat → Nat → Nat
  | 0, i => i
  | f + 1, i => if p (sgAt l i) then runW p f (i + 1) else i
/-- Signs laid around a value, the last first. -/
def signsX (i : Nat) : Nat → Ex → Ex
  | 0, t => t
  | k + 1, t => signsX i k (unX (sgnOf (wdAt l (i + k)).text) t)
def percX : Nat → Ex → Ex
  | 0, t => t
  | k + 1, t => percX k (unX 3 t)
/-- A reference, or two. -/
def refP (i : Nat) : PR :=
  if sgAt l (i + 1) = [58] then
    if (wdAt l (i + 2)).kind = 3 then
      .ok (match Rd (wdAt l i).text, Rd (wdAt l (i + 2)).text with
        | some a, some b => .mk ⟨6, 0, 0, no10, a, b, 0⟩ []
        | _, _ => errRef) (i + 3)
    else .bad 20 (plAt l (i + 2))
  else .ok (match Rd (wdAt l i).text with
    | some a => .mk ⟨5, 0, 0, no10, a, rf0, 0⟩ []
    | none => errRef) (i + 1)
mutual
/-- A line of the grammar. -/
def lineP : Nat → Nat → Nat → Nat → PR
  | 0, _, i, _ => .bad 20 (plAt l i)
  | f + 1, n, i, o => if 5 < n then signP f i o else match lineP f (n + 1) i o with
    | .bad e a => .bad e a
    | .ok t j => restP f n t j o
/-- The operations of a line behind its first value. -/
def restP : Nat → Nat → Ex → Nat → Nat → PR
  | 0, _, _, i, _ => .bad 20 (plAt l i)
  | f + 1, n, t, i, o => if (opOf (sgAt l i)).1 = n then match lineP f (n + 1) (i + 1) o with
      | .bad e a => .bad e a
      | .ok u j => restP f n (binX (opOf (sgAt l i)).2 t u) j o
    else .ok t i
/-- A value with its signs and percents. -/
def signP : Nat → Nat → Nat → PR
  | 0, i, _ => .bad 20 (plAt l i)
  | f + 1, i, o => match primP f (runW l (fun s => sgnOf s != 0) l.length i) o with
    | .bad e a => .bad e a
    | .ok t j => .ok (signsX l i (runW l (fun s => sgnOf s != 0) l.length i - i) (percX (runW l (fun s => s == [37]) l.length j - j) t)) (runW l (fun s => s == [37]) l.length j)
def primP : Nat → Nat → Nat → PR
  | 0, i, _ => .bad 20 (plAt l i)
  | f + 1, i, o => match (wdAt l i).kind with
    | 1 => .ok (leafX 1 (numOf (wdAt l i).text) no10) (i + 1)
    | 2 => .ok (leafX 2 0 ⟨(wdAt l i).text.toArray⟩) (i + 1)
    | 3 => refP Rd l i
    | 4 => match Fd (wdAt l i).text with
      | none => .bad 3 (plAt l i)
      | some (g, mn, mx) =>
        if sgAt l (i + 1) = [40] then
          if 256 < o + 1 then .bad 2 (plAt l (i + 1)) else
          match argsP f (i + 2) (o + 1) with
          | .bad e a => .bad e a
          | .ok ts j => if sgAt l j = [41] then (if mn ≤ (ts.length : Int) ∧ ((ts.length : Int) ≤ mx ∨ mx < 0) then .ok (callX g ts) (j + 1) else .bad 1 (plAt l i)) else .bad 20 (plAt l j)
        else .bad 20 (plAt l (i + 1))
    | 5 => .ok (leafX 3 (if (wdAt l i).text = [84, 82, 85, 69] then 1 else 0) no10) (i + 1)
    | 6 => .ok (leafX 4 (errOf (wdAt l i).text) no10) (i + 1)
    | 7 => if sgAt l i = [40] then
        if 256 < o + 1 then .bad 2 (plAt l i) else
        match lineP f 1 (i + 1) (o + 1) with
        | .bad e a => .bad e a
        | .ok t j => if sgAt l j = [41] then .ok t (j + 1) else .bad 20 (plAt l j)
      else .bad 20 (plAt l i)
    | _ => .bad 20 (plAt l i)
/-- What stands between a call's brackets. -/
def argsP : Nat → Nat → Nat → PL
  | 0, i, _ => .bad 20 (plAt l i)
  | f + 1, i, o => if sgAt l i = [41] then .ok [] i else match lineP f 1 i o with
    | .bad e a => .bad e a
    | .ok t j => moreP f [t] j o
def moreP : Nat → List Ex → Nat → Nat → PL
  | 0, _, i, _ => .bad 20 (plAt l i)
  | f + 1, ts, i, o => if sgAt l i = [44] then match lineP f 1 (i + 1) o with
      | .bad e a => .bad e a
      | .ok t j => moreP f (ts ++ [t]) j o
    else .ok ts i
end
/-- All words. -/
def formP : PR := match lineP Rd Fd l (8 * l.length + 16) 1 0 0 with
  | .bad e a => .bad e a
  | .ok t j => if (wdAt l j).kind = 0 then .ok t j else .bad 20 (plAt l j)
end
end Go.Proofs.YtnfoknifofglbaaDoor
