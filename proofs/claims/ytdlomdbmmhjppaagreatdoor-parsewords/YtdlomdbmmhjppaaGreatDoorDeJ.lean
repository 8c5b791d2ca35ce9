/- A formula's words as lists of bytes: what word begins a text, where it ends, and a text's words one behind the other; of no program. parse: the grammar over a list of words, as a function (the last word is the end, of kind 0). Runes of a text as a range over a string goes over them: where each begins, how many there are; pieces; of no program. Cutting a text by states, rune by rune, comes to the words that it is cut into one behind the other; of no program. -/
import Derived.Test.YtdlomdbmmhjppaaGreatDoorLeJ
import Derived.Lib.Case
import Derived.Test.YtdlomdbmmhjppaaGreatDoorTrJ
import Derived.Laws.RangeAny
import Derived.Lib.DecodeN
import Derived.IntWalk
namespace Go.Proofs.YtdlomdbmmhjppaaGreatDoor
open Go.RowKit
set_option linter.unusedVariables false

/-- A word, and where it begins. -/
structure Wd where
  kind : Nat
  text : List UInt8
  at' : Nat
/-- What begins a text: an error, or a word of some bytes. -/
inductive Tok where
  | bad (e : Nat)
  | ok (k : Nat) (t : List UInt8) (n : Nat)
/-- What a text is cut into. -/
inductive Res where
  | bad (i e : Nat)
  | ok (l : List Wd)
def isRun (c : UInt8) : Bool := dig c || (isC c || (isS c || (c == 36 || c == 95)))
def upp (l : List UInt8) : List UInt8 := l.map Lib.upperB
def trim0 (r : List UInt8) : List UInt8 := if (r.dropWhile (· == 48)).isEmpty then [48] else r.dropWhile (· == 48)
def numTok (r : List UInt8) : Tok := if dgs r then (if val (trim0 r) ≤ 9223372036854775807 then .ok 1 (trim0 r) r.length else .bad 12) else .bad 21
def truL : List UInt8 := [84, 82, 85, 69]
def falL : List UInt8 := [70, 65, 76, 83, 69]
def plainN (r : List UInt8) : Bool := r.all fun c => isL c || dig c
def namTok (R : List UInt8 → Bool) (r : List UInt8) (called : Bool) : Tok :=
  if !called && (upp r == truL || upp r == falL) then .ok 5 (upp r) r.length
  else if called && plainN r then .ok 4 (upp r) r.length
  else if R r then .ok 3 r r.length else .bad 21
def runTok (R : List UInt8 → Bool) (r : List UInt8) (called : Bool) : Tok := if (r.head?.map dig).getD false then numTok r else namTok R r called
/-- Behind a quote: what is spelt up to the quote that ends it, and how many bytes that takes. -/
def txt : List UInt8 → Option (List UInt8 × Nat)
  | [] => none
  | [c] => if c = 34 then some ([], 1) else none
  | c :: d :: r => if c = 34 then (if d = 34 then (txt r).map (fun p => (34 :: p.1, p.2 + 2)) else some ([], 1)) else (txt (d :: r)).map (fun p => (c :: p.1, p.2 + 1))
def txtTok (l : List UInt8) : Tok := match txt l with
  | none => .bad 21
  | some (b, n) => .ok 2 b (n + 1)
/-- The words that are spelt in one way alone. -/
def spelts : List (List UInt8) := [[35, 78, 65, 77, 69, 63], [35, 78, 85, 77, 33], [35, 82, 69, 70, 33], [35, 86, 65, 76, 85, 69, 33], [35, 68, 73, 86, 47, 48, 33], [35, 78, 47, 65], [60, 62], [60, 61], [62, 61], [40], [41], [44], [58], [94], [42], [47], [43], [45], [38], [61], [60], [62], [37]]
def spFind (l : List UInt8) : Option (List UInt8) := spelts.find? (Lib.hasPrefix l ·)
def spKind (p : List UInt8) : Nat := if p.head? = some 35 then 6 else 7
def spTok (l : List UInt8) : Tok := match spFind l with
  | none => .bad 21
  | some p => .ok (spKind p) p p.length
def runOf (l : List UInt8) : List UInt8 := l.takeWhile isRun
def callsL (l : List UInt8) : Bool := Lib.hasPrefix l [40]
def tok (R : List UInt8 → Bool) (l : List UInt8) : Tok := match l with
  | [] => .bad 21
  | c :: r => if isRun c then runTok R (runOf l) (callsL (l.drop (runOf l).length)) else if c = 34 then txtTok r else spTok l
/-- How many bytes the blank has that begins a text. -/
def bl : List UInt8 → Nat
  | [] => 0
  | c :: r => if c = 9 ∨ c = 10 ∨ c = 13 ∨ c = 32 then 1 else if c = 194 ∧ r.head? = some 160 then 2 else if c = 227 ∧ r.head? = some 128 ∧ r.tail.head? = some 128 then 3 else 0
def cutF (R : List UInt8 → Bool) : Nat → List UInt8 → Nat → List Wd → Res
  | 0, l, i, acc => .ok acc
  | f + 1, l, i, acc =>
    if l.isEmpty then .ok acc else if 0 < bl l then cutF R f (l.drop (bl l)) (i + bl l) acc else
    match tok R l with
    | .bad e => .bad i e
    | .ok k t n => cutF R f (l.drop n) (i + n) (acc ++ [⟨k, t, i⟩])
/-- The words of a text that begins at i, behind the words that were cut. -/
def cutA (R : List UInt8 → Bool) (l : List UInt8) (i : Nat) (acc : List Wd) : Res := cutF R l.length l i acc

theorem txt_len : ∀ (l : List UInt8) (b : List UInt8) (n : Nat), txt l = some (b, n) → 1 ≤ n ∧ n ≤ l.length
  | [], b, n, h => by simp [txt] at h
  | [c], b, n, h => by
    simp only [txt] at h
    split at h
    · cases h; simp
    · cases h
  | c :: d :: r, b, n, h => by
    rw [txt] at h
    split at h
    · split at h
      · rw [Option.map_eq_some_iff] at h
        obtain ⟨⟨b', n'⟩, h1, h2⟩ := h
        have := txt_len r b' n' h1
        cases h2; simp; omega
      · cases h; simp
    · rw [Option.map_eq_some_iff] at h
      obtain ⟨⟨b', n'⟩, h1, h2⟩ := h
      have := txt_len (d :: r) b' n' h1
      cases h2; simp at this ⊢; omega
theorem pre_len {p l : List UInt8} (h : Lib.hasPrefix l p = true) : p.length ≤ l.length := (List.isPrefixOf_iff_prefix.1 h).length_le
theorem pre_take {p l : List UInt8} (h : Lib.hasPrefix l p = true) : l.take p.length = p := (List.prefix_iff_eq_take.1 (List.isPrefixOf_iff_prefix.1 h)).symm
theorem sp_mem {l p : List UInt8} (h : spFind l = some p) : p ∈ spelts ∧ Lib.hasPrefix l p = true := ⟨List.mem_of_find?_eq_some h, by have := List.find?_some h; simpa using this⟩
theorem sp_all : spelts.all (fun p => decide (1 ≤ p.length) && decide (p.length ≤ 7) && p.all (fun c => decide (c.toNat < 128))) = true := by decide +kernel
theorem sp_facts {p : List UInt8} (h : p ∈ spelts) : 1 ≤ p.length ∧ p.length ≤ 7 ∧ ∀ c ∈ p, c.toNat < 128 := by
  have := List.all_eq_true.1 sp_all p h
  simp only [Bool.and_eq_true, decide_eq_true_eq, List.all_eq_true] at this
  exact ⟨this.1.1, this.1.2, this.2⟩
theorem run_le (l : List UInt8) : (runOf l).length ≤ l.length := (List.takeWhile_prefix isRun).length_le
theorem run_pos {c : UInt8} {r : List UInt8} (h : isRun c = true) : 1 ≤ (runOf (c :: r)).length := by unfold runOf; rw [List.takeWhile_cons, if_pos h]; simp
theorem runTok_len {R : List UInt8 → Bool} {r : List UInt8} {b : Bool} {k n : Nat} {t : List UInt8} (h : runTok R r b = .ok k t n) : n = r.length := by
  unfold runTok numTok namTok at h
  repeat' split at h
  all_goals cases h
  all_goals rfl
theorem tok_len {R : List UInt8 → Bool} {l : List UInt8} {k n : Nat} {t : List UInt8} (h : tok R l = .ok k t n) : 1 ≤ n ∧ n ≤ l.length := by
  cases l with
  | nil => cases h
  | cons c r =>
    unfold tok at h
    simp only at h
    split at h
    · next hr =>
      have := runTok_len h
      have := run_le (c :: r)
      have := run_pos (r := r) hr
      omega
    · split at h
      · unfold txtTok at h
        split at h
        · cases h
        · next b m hm => cases h; have := txt_len r _ _ hm; simp; omega
      · unfold spTok at h
        split at h
        · cases h
        · next p hp => cases h; have := sp_mem hp; exact ⟨(sp_facts this.1).1, pre_len this.2⟩
theorem bl_len (l : List UInt8) : bl l ≤ l.length := by
  match l with
  | [] => simp [bl]
  | [c] => simp [bl]; split <;> omega
  | [c, d] => simp [bl]; repeat' split
              all_goals omega
  | c :: d :: e :: r => simp [bl]; repeat' split
                        all_goals omega
theorem cutF_fuel (R : List UInt8 → Bool) : ∀ f l, l.length ≤ f → ∀ f', l.length ≤ f' → ∀ i acc, cutF R f l i acc = cutF R f' l i acc
  | 0, l, h, f', h', i, acc => by
    have : l = [] := List.eq_nil_of_length_eq_zero (by omega)
    subst this
    cases f' <;> simp [cutF]
  | f + 1, l, h, 0, h', i, acc => by
    have : l = [] := List.eq_nil_of_length_eq_zero (by omega)
    subst this
    simp [cutF]
  | f + 1, l, h, f' + 1, h', i, acc => by
    unfold cutF
    split
    · rfl
    · next hl =>
      have hl0 : 0 < l.length := List.length_pos_iff.2 (by simpa using hl)
      split
      · next hb => exact cutF_fuel R f _ (by rw [List.length_drop]; omega) f' (by rw [List.length_drop]; omega) _ _
      · split
        · rfl
        · next k t n hk => have := tok_len hk; exact cutF_fuel R f _ (by rw [List.length_drop]; omega) f' (by rw [List.length_drop]; omega) _ _
theorem cut_end (R : List UInt8 → Bool) (i : Nat) (acc : List Wd) : cutA R [] i acc = .ok acc := rfl
theorem cut_blank (R : List UInt8 → Bool) {l : List UInt8} (h : 0 < bl l) (i : Nat) (acc : List Wd) : cutA R l i acc = cutA R (l.drop (bl l)) (i + bl l) acc := by
  have hl := bl_len l
  unfold cutA
  obtain ⟨f, hf⟩ : ∃ f, l.length = f + 1 := ⟨l.length - 1, by omega⟩
  have hne : l.isEmpty = false := by cases l with | nil => simp at hf | cons c r => rfl
  rw [hf, cutF, hne, if_neg (by decide), if_pos h]
  exact cutF_fuel R f _ (by rw [List.length_drop]; omega) _ (Nat.le_refl _) _ _
theorem cut_bad (R : List UInt8 → Bool) {l : List UInt8} {e : Nat} (hl : l ≠ []) (h : bl l = 0) (ht : tok R l = .bad e) (i : Nat) (acc : List Wd) : cutA R l i acc = .bad i e := by
  unfold cutA
  obtain ⟨f, hf⟩ : ∃ f, l.length = f + 1 := ⟨l.length - 1, by have := List.length_pos_iff.2 hl; omega⟩
  have hne : l.isEmpty = false := by cases l with | nil => simp at hf | cons c r => rfl
  rw [hf, cutF, hne, if_neg (by decide), if_neg (by omega), ht]
theorem cut_word (R : List UInt8 → Bool) {l : List UInt8} {k n : Nat} {t : List UInt8} (h : bl l = 0) (ht : tok R l = .ok k t n) (i : Nat) (acc : List Wd) : cutA R l i acc = cutA R (l.drop n) (i + n) (acc ++ [⟨k, t, i⟩]) := by
  have hn := tok_len ht
  unfold cutA
  obtain ⟨f, hf⟩ : ∃ f, l.length = f + 1 := ⟨l.length - 1, by omega⟩
  have hne : l.isEmpty = false := by cases l with | nil => simp at hf | cons c r => rfl
  rw [hf, cutF, hne, if_neg (by decide), if_neg (by omega), ht]
  exact cutF_fuel R f _ (by rw [List.length_drop]; omega) _ (Nat.le_refl _) _ _

/-- Two quotes are one. -/
def und : List UInt8 → List UInt8
  | [] => []
  | [c] => [c]
  | c :: d :: r => if c = 34 ∧ d = 34 then 34 :: und r else c :: und (d :: r)
theorem und_cons {c : UInt8} (h : c ≠ 34) (l : List UInt8) : und (c :: l) = c :: und l := by
  cases l with
  | nil => rfl
  | cons d r => rw [und, if_neg (fun e => h e.1)]
theorem txt_und : ∀ (l b : List UInt8) (n : Nat), txt l = some (b, n) → b = und (l.take (n - 1)) ∧ l[n - 1]? = some 34 ∧ l[n]? ≠ some 34
  | [], b, n, h => by simp [txt] at h
  | [c], b, n, h => by
    simp only [txt] at h
    split at h
    · next hc => cases h; simp [und, hc]
    · cases h
  | c :: d :: r, b, n, h => by
    rw [txt] at h
    split at h
    · next hc =>
      split at h
      · next hd =>
        rw [Option.map_eq_some_iff] at h
        obtain ⟨⟨b', n'⟩, h1, h2⟩ := h
        obtain ⟨e1, e2, e3⟩ := txt_und r b' n' h1
        have := txt_len r b' n' h1
        cases h2
        obtain ⟨m, rfl⟩ : ∃ m, n' = m + 1 := ⟨n' - 1, by omega⟩
        refine ⟨?_, ?_, ?_⟩
        · simp only [Nat.add_sub_cancel, show m + 1 + 2 - 1 = m + 2 by omega, List.take_succ_cons, und, hc, hd] at e1 ⊢
          rw [e1]; simp
        · simpa using e2
        · simpa using e3
      · next hd => cases h; simp [und, hc, hd]
    · next hc =>
      rw [Option.map_eq_some_iff] at h
      obtain ⟨⟨b', n'⟩, h1, h2⟩ := h
      obtain ⟨e1, e2, e3⟩ := txt_und (d :: r) b' n' h1
      have := txt_len (d :: r) b' n' h1
      cases h2
      obtain ⟨m, rfl⟩ : ∃ m, n' = m + 1 := ⟨n' - 1, by omega⟩
      refine ⟨?_, ?_, ?_⟩
      · simp only [Nat.add_sub_cancel] at e1 ⊢
        rw [List.take_succ_cons, und_cons hc, e1]
      · simpa using e2
      · simpa using e3
end Go.Proofs.YtdlomdbmmhjppaaGreatDoor
namespace Go.Proofs.YtdlomdbmmhjppaaGreatDoor
open T9 (Ex Nd Rf)
set_option linter.unusedVariables false

/-- What a reading comes to: an error and its place, or a tree and the next word. -/
inductive PR where
  | bad (e a : Nat)
  | ok (t : Ex) (i : Nat)
/-- Arguments, or an error. -/
inductive PL where
  | bad (e a : Nat)
  | ok (ts : List Ex) (i : Nat)
def rf0 : Rf := ⟨0, 0, false, false⟩
abbrev no10 : ByteArray := { data := #[] }
def leafX (k n : Int) (x : ByteArray) : Ex := .mk ⟨k, 0, n, x, rf0, rf0, 0⟩ []
def unX (o : Int) (t : Ex) : Ex := .mk ⟨7, o, 0, no10, rf0, rf0, 0⟩ [t]
def binX (o : Int) (t u : Ex) : Ex := .mk ⟨8, o, 0, no10, rf0, rf0, 0⟩ [t, u]
def callX (f : Int) (ts : List Ex) : Ex := .mk ⟨9, 0, 0, no10, rf0, rf0, f⟩ ts
def errRef : Ex := leafX 4 3 no10
/-- The line of an operation of two, and its number. -/
def opOf (s : List UInt8) : Nat × Int :=
  if s = [61] then (1, 7) else if s = [60, 62] then (1, 8) else if s = [60] then (1, 9) else if s = [60, 61] then (1, 10) else if s = [62] then (1, 11) else if s = [62, 61] then (1, 12)
  else if s = [38] then (2, 6) else if s = [43] then (3, 4) else if s = [45] then (3, 5) else if s = [42] then (4, 2) else if s = [47] then (4, 3) else if s = [94] then (5, 1) else (0, 0)
/-- A sign ahead of a value: 0 if it is none. -/
def sgnOf (s : List UInt8) : Int := if s = [45] then 1 else if s = [43] then 2 else 0
/-- An error's number. -/
def errOf (s : List UInt8) : Int :=
  if s = [35, 78, 65, 77, 69, 63] then 1 else if s = [35, 78, 85, 77, 33] then 2 else if s = [35, 82, 69, 70, 33] then 3 else if s = [35, 86, 65, 76, 85, 69, 33] then 4 else if s = [35, 68, 73, 86, 47, 48, 33] then 5 else 6
def numOf (s : List UInt8) : Int := s.foldl (fun n c => 10 * n + ((c.toNat : Int) - 48)) 0
section
variable (Rd : List UInt8 → Option Rf) (Fd : List UInt8 → Option (Int × Int × Int)) (l : List Wd)
def wdAt (i : Nat) : Wd := l.getD i ⟨0, [], 0⟩
def sgAt (i : Nat) : List UInt8 := if (wdAt l i).kind = 7 then (wdAt l i).text else []
def plAt (i : Nat) : Nat := (wdAt l i).at'
/-- How far the words go that a test takes. -/
def runW (p : List UInt8 → Bool) : Nat → Nat → Nat
  | 0, i => i
  | f + 1, i => if p (sgAt l i) then runW p f (i + 1) else i
/-- Signs laid around a value, the last first. -/
def signsX (i : Nat) : Nat → Ex → Ex
  | 0, t => t
  | k + 1, t => signsX i k (unX (sgnOf (wdAt l (i + k)).text) t)
def percX : Nat → Ex → Ex
  | 0, t => t
  | k + 1, t => percX k (unX 3 t)
/-- A reference, or two. -/
def refP (i : Nat) : PR :=
  if sgAt l (i + 1) = [58] then
    if (wdAt l (i + 2)).kind = 3 then
      .ok (match Rd (wdAt l i).text, Rd (wdAt l (i + 2)).text with
        | some a, some b => .mk ⟨6, 0, 0, no10, a, b, 0⟩ []
        | _, _ => errRef) (i + 3)
    else .bad 20 (plAt l (i + 2))
  else .ok (match Rd (wdAt l i).text with
    | some a => .mk ⟨5, 0, 0, no10, a, rf0, 0⟩ []
    | none => errRef) (i + 1)
mutual
/-- A line of the grammar. -/
def lineP : Nat → Nat → Nat → Nat → PR
  | 0, _, i, _ => .bad 20 (plAt l i)
  | f + 1, n, i, o => if 5 < n then signP f i o else match lineP f (n + 1) i o with
    | .bad e a => .bad e a
    | .ok t j => restP f n t j o
/-- The operations of a line behind its first value. -/
def restP : Nat → Nat → Ex → Nat → Nat → PR
  | 0, _, _, i, _ => .bad 20 (plAt l i)
  | f + 1, n, t, i, o => if (opOf (sgAt l i)).1 = n then match lineP f (n + 1) (i + 1) o with
      | .bad e a => .bad e a
      | .ok u j => restP f n (binX (opOf (sgAt l i)).2 t u) j o
    else .ok t i
/-- A value with its signs and percents. -/
def signP : Nat → Nat → Nat → PR
  | 0, i, _ => .bad 20 (plAt l i)
  | f + 1, i, o => match primP f (runW l (fun s => sgnOf s != 0) l.length i) o with
    | .bad e a => .bad e a
    | .ok t j => .ok (signsX l i (runW l (fun s => sgnOf s != 0) l.length i - i) (percX (runW l (fun s => s == [37]) l.length j - j) t)) (runW l (fun s => s == [37]) l.length j)
def primP : Nat → Nat → Nat → PR
  | 0, i, _ => .bad 20 (plAt l i)
  | f + 1, i, o => match (wdAt l i).kind with
    | 1 => .ok (leafX 1 (numOf (wdAt l i).text) no10) (i + 1)
    | 2 => .ok (leafX 2 0 ⟨(wdAt l i).text.toArray⟩) (i + 1)
    | 3 => refP Rd l i
    | 4 => match Fd (wdAt l i).text with
      | none => .bad 3 (plAt l i)
      | some (g, mn, mx) =>
        if sgAt l (i + 1) = [40] then
          if 256 < o + 1 then .bad 2 (plAt l (i + 1)) else
          match argsP f (i + 2) (o + 1) with
          | .bad e a => .bad e a
          | .ok ts j => if sgAt l j = [41] then (if mn ≤ (ts.length : Int) ∧ ((ts.length : Int) ≤ mx ∨ mx < 0) then .ok (callX g ts) (j + 1) else .bad 1 (plAt l i)) else .bad 20 (plAt l j)
        else .bad 20 (plAt l (i + 1))
    | 5 => .ok (leafX 3 (if (wdAt l i).text = [84, 82, 85, 69] then 1 else 0) no10) (i + 1)
    | 6 => .ok (leafX 4 (errOf (wdAt l i).text) no10) (i + 1)
    | 7 => if sgAt l i = [40] then
        if 256 < o + 1 then .bad 2 (plAt l i) else
        match lineP f 1 (i + 1) (o + 1) with
        | .bad e a => .bad e a
        | .ok t j => if sgAt l j = [41] then .ok t (j + 1) else .bad 20 (plAt l j)
      else .bad 20 (plAt l i)
    | _ => .bad 20 (plAt l i)
/-- What stands between a call's brackets. -/
def argsP : Nat → Nat → Nat → PL
  | 0, i, _ => .bad 20 (plAt l i)
  | f + 1, i, o => if sgAt l i = [41] then .ok [] i else match lineP f 1 i o with
    | .bad e a => .bad e a
    | .ok t j => moreP f [t] j o
def moreP : Nat → List Ex → Nat → Nat → PL
  | 0, _, i, _ => .bad 20 (plAt l i)
  | f + 1, ts, i, o => if sgAt l i = [44] then match lineP f 1 (i + 1) o with
      | .bad e a => .bad e a
      | .ok t j => moreP f (ts ++ [t]) j o
    else .ok ts i
end
/-- All words. -/
def formP : PR := match lineP Rd Fd l (8 * l.length + 16) 1 0 0 with
  | .bad e a => .bad e a
  | .ok t j => if (wdAt l j).kind = 0 then .ok t j else .bad 20 (plAt l j)
end
end Go.Proofs.YtdlomdbmmhjppaaGreatDoor
namespace Go.Proofs.YtdlomdbmmhjppaaGreatDoor
set_option linter.unusedVariables false

/-- How many bytes the rune at p has. -/
def wd (s : ByteArray) (p : Nat) : Nat := (Utf8.decode s p).2
/-- Its number. -/
def nr (s : ByteArray) (p : Nat) : Nat := (Utf8.decode s p).1
theorem decN_w (n b0 b1 b2 b3 : Nat) (hn : 1 ≤ n) : 1 ≤ (Lib.decodeN n b0 b1 b2 b3).2 ∧ (Lib.decodeN n b0 b1 b2 b3).2 ≤ n ∧ (Lib.decodeN n b0 b1 b2 b3).2 ≤ 4 := by
  unfold Lib.decodeN
  repeat' split
  all_goals simp only
  all_goals omega
theorem decN_r (n b0 b1 b2 b3 : Nat) (h0 : b0 < 256) : (Lib.decodeN n b0 b1 b2 b3).1 ≤ 1114111 := by
  unfold Lib.decodeN
  repeat' split
  all_goals simp only
  all_goals omega
theorem wd_pos (s : ByteArray) (p : Nat) (h : p < s.size) : 1 ≤ wd s p := by unfold wd; rw [Lib.decode_at]; exact (decN_w _ _ _ _ _ (by omega)).1
theorem wd_le (s : ByteArray) (p : Nat) (h : p < s.size) : p + wd s p ≤ s.size := by
  have := (decN_w (s.size - p) (s.get! p).toNat (s.get! (p + 1)).toNat (s.get! (p + 2)).toNat (s.get! (p + 3)).toNat (by omega)).2.1
  unfold wd; rw [Lib.decode_at]; omega
theorem nr_le (s : ByteArray) (p : Nat) : nr s p ≤ 1114111 := by unfold nr; rw [Lib.decode_at]; exact decN_r _ _ _ _ _ (s.get! p).toNat_lt
/-- Where the next rune begins. -/
def nx (s : ByteArray) (p : Nat) : Nat := if p < s.size then p + wd s p else p
/-- n runes on from p. -/
def sk (s : ByteArray) : Nat → Nat → Nat
  | 0, p => p
  | n + 1, p => sk s n (nx s p)
def ct (s : ByteArray) : Nat → Nat → Nat
  | 0, _ => 0
  | f + 1, p => if p < s.size then ct s f (p + wd s p) + 1 else 0
/-- How many runes there are from p on. -/
def rc (s : ByteArray) (p : Nat) : Nat := ct s (s.size - p) p
theorem nx_le (s : ByteArray) (p : Nat) (h : p ≤ s.size) : nx s p ≤ s.size := by
  unfold nx; split
  · exact wd_le s p (by assumption)
  · exact h
theorem nx_ge (s : ByteArray) (p : Nat) : p ≤ nx s p := by unfold nx; split <;> omega
theorem nx_gt (s : ByteArray) (p : Nat) (h : p < s.size) : p < nx s p := by have := wd_pos s p h; unfold nx; rw [if_pos h]; omega
theorem sk_le (s : ByteArray) : ∀ n p, p ≤ s.size → sk s n p ≤ s.size
  | 0, p, h => h
  | n + 1, p, h => sk_le s n _ (nx_le s p h)
theorem sk_ge (s : ByteArray) : ∀ n p, p ≤ sk s n p
  | 0, p => Nat.le_refl _
  | n + 1, p => Nat.le_trans (nx_ge s p) (sk_ge s n _)
theorem sk_add (s : ByteArray) : ∀ n m p, sk s (n + m) p = sk s m (sk s n p)
  | 0, m, p => by rw [Nat.zero_add]; rfl
  | n + 1, m, p => by rw [Nat.add_right_comm]; exact sk_add s n m _
theorem sk_succ (s : ByteArray) (n p : Nat) : sk s (n + 1) p = nx s (sk s n p) := sk_add s n 1 p
theorem sk_end (s : ByteArray) : ∀ n p, ¬ p < s.size → sk s n p = p
  | 0, p, h => rfl
  | n + 1, p, h => by show sk s n (nx s p) = p; rw [nx, if_neg h]; exact sk_end s n p h
theorem sk_mono (s : ByteArray) {n m : Nat} (h : n ≤ m) (p : Nat) : sk s n p ≤ sk s m p := by
  obtain ⟨d, rfl⟩ := Nat.exists_eq_add_of_le h
  rw [sk_add]; exact sk_ge s d _
theorem ct_fuel (s : ByteArray) : ∀ f p, s.size - p ≤ f → ∀ f', s.size - p ≤ f' → ct s f p = ct s f' p
  | 0, p, h, 0, h' => rfl
  | 0, p, h, f' + 1, h' => by rw [ct, ct, if_neg (by omega)]
  | f + 1, p, h, 0, h' => by rw [ct, ct, if_neg (by omega)]
  | f + 1, p, h, f' + 1, h' => by
    rw [ct, ct]; split
    · have := wd_pos s p (by assumption)
      rw [ct_fuel s f _ (by omega) f' (by omega)]
    · rfl
theorem rc_end (s : ByteArray) (p : Nat) (h : ¬ p < s.size) : rc s p = 0 := by unfold rc; rw [show s.size - p = 0 by omega]; rfl
theorem rc_step (s : ByteArray) (p : Nat) (h : p < s.size) : rc s p = rc s (p + wd s p) + 1 := by
  have := wd_pos s p h
  unfold rc
  obtain ⟨f, hf⟩ : ∃ f, s.size - p = f + 1 := ⟨s.size - p - 1, by omega⟩
  rw [hf, ct, if_pos h, ct_fuel s f _ (by omega) _ (Nat.le_refl _)]
theorem rc_le (s : ByteArray) : ∀ k p, s.size - p ≤ k → rc s p ≤ s.size - p
  | 0, p, h => by rw [rc_end s p (by omega)]; omega
  | k + 1, p, h => by
    by_cases hp : p < s.size
    · have := wd_pos s p hp; have := wd_le s p hp
      have ih := rc_le s k (p + wd s p) (by omega)
      rw [rc_step s p hp]; omega
    · rw [rc_end s p hp]; omega
theorem rc_size (s : ByteArray) : rc s 0 ≤ s.size := by have := rc_le s s.size 0 (by omega); omega
theorem rc_pos (s : ByteArray) (p : Nat) (h : p < s.size) : 0 < rc s p := by rw [rc_step s p h]; omega
/-- n runes on there are n fewer. -/
theorem rc_sk (s : ByteArray) : ∀ n p, p ≤ s.size → rc s (sk s n p) = rc s p - n
  | 0, p, h => by simp [sk]
  | n + 1, p, h => by
    show rc s (sk s n (nx s p)) = _
    rw [rc_sk s n _ (nx_le s p h)]
    by_cases hp : p < s.size
    · rw [rc_step s p hp, nx, if_pos hp]; omega
    · rw [nx, if_neg hp, rc_end s p hp]; omega
theorem sk_lt (s : ByteArray) (n p : Nat) (h : p ≤ s.size) (hn : n < rc s p) : sk s n p < s.size := by
  apply Classical.byContradiction
  intro hc
  have := rc_sk s n p h
  rw [rc_end s _ hc] at this
  omega
theorem sk_all (s : ByteArray) (n p : Nat) (h : p ≤ s.size) (hn : rc s p ≤ n) : sk s n p = s.size := by
  have h1 := sk_le s n p h
  have h2 := rc_sk s n p h
  rcases Nat.lt_or_ge (sk s n p) s.size with hc | hc
  · have := rc_pos s _ hc; omega
  · omega
theorem sk_lt_iff (s : ByteArray) (n p : Nat) (h : p ≤ s.size) : sk s n p < s.size ↔ n < rc s p := by
  constructor
  · intro hl; apply Classical.byContradiction; intro hc; have := sk_all s n p h (by omega); omega
  · exact sk_lt s n p h
theorem sk_strict (s : ByteArray) {n m p : Nat} (h : p ≤ s.size) (hnm : n < m) (hn : n < rc s p) : sk s n p < sk s m p := by
  have h1 := nx_gt s _ (sk_lt s n p h hn)
  rw [← sk_succ] at h1
  exact Nat.lt_of_lt_of_le h1 (sk_mono s hnm p)
/-- The same, of the text from a on. -/
theorem get_ext (s : ByteArray) (a i : Nat) (h : a + i < s.size) : (s.extract a s.size).get! i = s.get! (a + i) := by
  have hs : i < (s.extract a s.size).size := by rw [ByteArray.size_extract]; omega
  show (s.extract a s.size).data[i]! = s.data[a + i]!
  rw [getElem!_pos _ _ (by simpa using hs), getElem!_pos _ _ (by simpa using h)]
  simp [ByteArray.data_extract]
theorem get_beyond (s : ByteArray) (i : Nat) (h : ¬ i < s.size) : s.get! i = 0 := by
  show s.data[i]! = 0
  rw [getElem!_neg _ _ (by simpa using h)]; rfl
theorem get_ext' (s : ByteArray) (a i : Nat) : (s.extract a s.size).get! i = s.get! (a + i) := by
  by_cases h : a + i < s.size
  · exact get_ext s a i h
  · rw [get_beyond s _ h, get_beyond]
    rw [ByteArray.size_extract]; omega
theorem dec_ext (s : ByteArray) (a p : Nat) : Utf8.decode (s.extract a s.size) p = Utf8.decode s (a + p) := by
  rw [Lib.decode_at, Lib.decode_at, get_ext', get_ext', get_ext', get_ext', ByteArray.size_extract, Nat.min_self, Nat.sub_sub]
  rfl
theorem ext_size (s : ByteArray) (a : Nat) : (s.extract a s.size).size = s.size - a := by rw [ByteArray.size_extract, Nat.min_self]
theorem nx_ext (s : ByteArray) (a p : Nat) (h : a ≤ s.size) : a + nx (s.extract a s.size) p = nx s (a + p) := by
  unfold nx wd
  rw [dec_ext, ext_size]
  split <;> split <;> omega
theorem sk_ext (s : ByteArray) (a : Nat) (h : a ≤ s.size) : ∀ n p, a + sk (s.extract a s.size) n p = sk s n (a + p)
  | 0, p => rfl
  | n + 1, p => by
    show a + sk _ n (nx _ p) = sk s n (nx s (a + p))
    rw [sk_ext s a h n, nx_ext s a p h]
theorem sk_ext0 (s : ByteArray) (a : Nat) (h : a ≤ s.size) (n : Nat) : sk (s.extract a s.size) n 0 = sk s n a - a := by
  have := sk_ext s a h n 0
  rw [Nat.add_zero] at this; omega
theorem ext_ext (s : ByteArray) (a b : Nat) (h : a + b ≤ s.size) : (s.extract a s.size).extract 0 b = s.extract a (a + b) := by
  rw [ByteArray.extract_extract]
  congr 1; omega
theorem ext_all (s : ByteArray) : s.extract 0 s.size = s := ByteArray.extract_zero_size
end Go.Proofs.YtdlomdbmmhjppaaGreatDoor
namespace Go.Proofs.YtdlomdbmmhjppaaGreatDoor
open Go.RowKit
set_option linter.unusedVariables false

def blR (r : Nat) : Bool := r == 9 || (r == 10 || (r == 13 || (r == 32 || (r == 160 || r == 12288))))
def digR (r : Nat) : Bool := decide (48 ≤ r) && decide (r ≤ 57)
def runR (r : Nat) : Bool := digR r || ((decide (65 ≤ r) && decide (r ≤ 90)) || ((decide (97 ≤ r) && decide (r ≤ 122)) || (r == 36 || r == 95)))
theorem run_byte (c : UInt8) : isRun c = runR c.toNat := by
  have e : ∀ n : Nat, n < 256 → (c == UInt8.ofNat n) = (c.toNat == n) := fun n hn => by
    rw [Bool.eq_iff_iff, beq_iff_eq, beq_iff_eq, ← UInt8.toNat_inj, UInt8.toNat_ofNat']; omega
  unfold isRun runR dig digR isC isS
  rw [show (36 : UInt8) = UInt8.ofNat 36 from rfl, show (95 : UInt8) = UInt8.ofNat 95 from rfl, e 36 (by decide), e 95 (by decide)]
theorem get_at (s : ByteArray) (p : Nat) (h : p < s.size) : s.get! p = s[p] := by
  show s.data[p]! = s.data[p]
  rw [getElem!_pos _ _ (by simpa using h)]
theorem dec_low (s : ByteArray) (p : Nat) (h : p < s.size) (hc : s[p].toNat < 128) : nr s p = s[p].toNat ∧ wd s p = 1 := by
  unfold nr wd; rw [Lib.decode_at, get_at s p h]; unfold Lib.decodeN; rw [if_pos hc]; exact ⟨rfl, rfl⟩
theorem dec_high (s : ByteArray) (p : Nat) (h : p < s.size) (hc : 128 ≤ s[p].toNat) : 128 ≤ nr s p := by
  unfold nr; rw [Lib.decode_at, get_at s p h]; unfold Lib.decodeN
  repeat' split
  all_goals simp only
  all_goals omega
theorem decN_cont (n b0 b1 b2 b3 : Nat) : (2 ≤ (Lib.decodeN n b0 b1 b2 b3).2 → 128 ≤ b1) ∧ (3 ≤ (Lib.decodeN n b0 b1 b2 b3).2 → 128 ≤ b2) ∧ (4 ≤ (Lib.decodeN n b0 b1 b2 b3).2 → 128 ≤ b3) := by
  unfold Lib.decodeN
  repeat' split
  all_goals simp only
  all_goals omega
theorem dec_cont (s : ByteArray) (p j : Nat) (h : p < s.size) (h1 : p < j) (h2 : j < p + wd s p) : 128 ≤ (s.get! j).toNat := by
  have hw := decN_w (s.size - p) (s.get! p).toNat (s.get! (p + 1)).toNat (s.get! (p + 2)).toNat (s.get! (p + 3)).toNat (by omega)
  have hc := decN_cont (s.size - p) (s.get! p).toNat (s.get! (p + 1)).toNat (s.get! (p + 2)).toNat (s.get! (p + 3)).toNat
  unfold wd at h2
  rw [Lib.decode_at] at h2
  have h3 : j = p + 1 ∨ j = p + 2 ∨ j = p + 3 := by omega
  rcases h3 with rfl | rfl | rfl
  · exact hc.1 (by omega)
  · exact hc.2.1 (by omega)
  · exact hc.2.2 (by omega)
theorem head_get (s : ByteArray) (p : Nat) (x : UInt8) : (s.data.toList.drop p).head? = some x ↔ p < s.size ∧ s.get! p = x := by
  by_cases h : p < s.size
  · rw [drop_cons s p h, get_at s p h]; simp [h]
  · rw [drop_nil s p (by omega)]; simp [h]
theorem u8 (c : UInt8) (n : Nat) (hn : n < 256) : c = UInt8.ofNat n ↔ c.toNat = n := by rw [← UInt8.toNat_inj, UInt8.toNat_ofNat']; omega
theorem decN_blank (n b0 b1 b2 b3 : Nat) (h0 : b0 < 256) (h1 : b1 < 256) (h2 : b2 < 256) (hb : 128 ≤ b0) :
    ((Lib.decodeN n b0 b1 b2 b3).1 = 160 ↔ b0 = 194 ∧ 1 < n ∧ b1 = 160) ∧ ((Lib.decodeN n b0 b1 b2 b3).1 = 12288 ↔ b0 = 227 ∧ (1 < n ∧ b1 = 128) ∧ 2 < n ∧ b2 = 128) ∧ ((Lib.decodeN n b0 b1 b2 b3).1 = 160 → (Lib.decodeN n b0 b1 b2 b3).2 = 2) ∧ ((Lib.decodeN n b0 b1 b2 b3).1 = 12288 → (Lib.decodeN n b0 b1 b2 b3).2 = 3) := by
  unfold Lib.decodeN
  rw [if_neg (by omega)]
  by_cases hA : b0 / 32 = 6 ∧ (1 < n ∧ b1 / 64 = 2)
  · rw [if_pos hA]
    obtain ⟨a1, a2, a3⟩ := hA
    split
    · next hv => refine ⟨⟨fun e => ?_, fun e => ?_⟩, ⟨fun e => ?_, fun e => ?_⟩, fun e => ?_, fun e => ?_⟩ <;> (try simp only at e) <;> (try simp only) <;> omega
    · next hv => refine ⟨⟨fun e => ?_, fun e => ?_⟩, ⟨fun e => ?_, fun e => ?_⟩, fun e => ?_, fun e => ?_⟩ <;> (try simp only at e) <;> (try simp only) <;> omega
  · have hA' : ¬ (b0 = 194 ∧ 1 < n ∧ b1 = 160) := fun e => hA ⟨by omega, by omega, by omega⟩
    rw [if_neg hA]
    clear hA
    by_cases hB : b0 / 16 = 14 ∧ (1 < n ∧ b1 / 64 = 2) ∧ (2 < n ∧ b2 / 64 = 2)
    · rw [if_pos hB]
      split
      · refine ⟨⟨fun e => ?_, fun e => (hA' e).elim⟩, ⟨fun e => ?_, fun e => ?_⟩, fun e => ?_, fun e => ?_⟩ <;> simp only at * <;> omega
      · next hC =>
        refine ⟨⟨fun e => ?_, fun e => (hA' e).elim⟩, ⟨fun e => ?_, fun e => ?_⟩, fun e => ?_, fun e => ?_⟩
        · simp only at e; omega
        · simp only at e; omega
        · exact absurd ⟨by omega, .inl (by omega)⟩ hC
        · simp only at e; omega
        · simp only at e; omega
    · have hB' : ¬ (b0 = 227 ∧ (1 < n ∧ b1 = 128) ∧ 2 < n ∧ b2 = 128) := fun e => hB ⟨by omega, ⟨by omega, by omega⟩, by omega, by omega⟩
      rw [if_neg hB]
      clear hB
      have key : ∀ x : Nat × Nat, x.1 ≠ 160 → x.1 ≠ 12288 → (x.1 = 160 ↔ b0 = 194 ∧ 1 < n ∧ b1 = 160) ∧ (x.1 = 12288 ↔ b0 = 227 ∧ (1 < n ∧ b1 = 128) ∧ 2 < n ∧ b2 = 128) ∧ (x.1 = 160 → x.2 = 2) ∧ (x.1 = 12288 → x.2 = 3) := fun x a b =>
        ⟨⟨fun e => (a e).elim, fun e => (hA' e).elim⟩, ⟨fun e => (b e).elim, fun e => (hB' e).elim⟩, fun e => (a e).elim, fun e => (b e).elim⟩
      split
      · split
        · next hD => exact key _ (by simp only; omega) (by simp only; omega)
        · exact key _ (by decide) (by decide)
      · exact key _ (by decide) (by decide)
/-- A blank by its rune is one by its bytes. -/
theorem dec_blank (s : ByteArray) (p : Nat) (h : p < s.size) : (blR (nr s p) = true ↔ 0 < bl (s.data.toList.drop p)) ∧ (blR (nr s p) = true → wd s p = bl (s.data.toList.drop p)) := by
  have e1 : (s.data.toList.drop (p + 1)).head? = some 160 ↔ 1 < s.size - p ∧ (s.get! (p + 1)).toNat = 160 := by rw [head_get, show (160 : UInt8) = UInt8.ofNat 160 from rfl, u8 _ 160 (by decide)]; omega
  have e2 : (s.data.toList.drop (p + 1)).head? = some 128 ↔ 1 < s.size - p ∧ (s.get! (p + 1)).toNat = 128 := by rw [head_get, show (128 : UInt8) = UInt8.ofNat 128 from rfl, u8 _ 128 (by decide)]; omega
  have e3 : (s.data.toList.drop (p + 1)).tail.head? = some 128 ↔ 2 < s.size - p ∧ (s.get! (p + 2)).toNat = 128 := by rw [List.tail_drop, head_get, show (128 : UInt8) = UInt8.ofNat 128 from rfl, u8 _ 128 (by decide), show p + 1 + 1 = p + 2 from rfl]; omega
  have k : ∀ n : Nat, n < 256 → (s[p] = UInt8.ofNat n ↔ s[p].toNat = n) := fun n hn => u8 _ n hn
  have k9 : s[p] = 9 ↔ s[p].toNat = 9 := k 9 (by decide)
  have k10 : s[p] = 10 ↔ s[p].toNat = 10 := k 10 (by decide)
  have k13 : s[p] = 13 ↔ s[p].toNat = 13 := k 13 (by decide)
  have k32 : s[p] = 32 ↔ s[p].toNat = 32 := k 32 (by decide)
  have k194 : s[p] = 194 ↔ s[p].toNat = 194 := k 194 (by decide)
  have k227 : s[p] = 227 ↔ s[p].toNat = 227 := k 227 (by decide)
  rw [drop_cons s p h, bl]
  simp only [e1, e2, e3, k9, k10, k13, k32, k194, k227]
  have hbl : blR (nr s p) = true ↔ (nr s p = 9 ∨ nr s p = 10 ∨ nr s p = 13 ∨ nr s p = 32 ∨ nr s p = 160 ∨ nr s p = 12288) := by unfold blR; simp
  rw [hbl]
  by_cases hc : s[p].toNat < 128
  · obtain ⟨d1, d2⟩ := dec_low s p h hc
    rw [d1, d2]
    generalize s[p].toNat = c at *
    by_cases hw : c = 9 ∨ c = 10 ∨ c = 13 ∨ c = 32
    · rw [if_pos hw]; omega
    · rw [if_neg hw, if_neg (by omega), if_neg (by omega)]; omega
  · have hh := dec_high s p h (by omega)
    have hd := decN_blank (s.size - p) (s.get! p).toNat (s.get! (p + 1)).toNat (s.get! (p + 2)).toNat (s.get! (p + 3)).toNat (s.get! p).toNat_lt (s.get! (p + 1)).toNat_lt (s.get! (p + 2)).toNat_lt (by rw [get_at s p h]; omega)
    rw [← Lib.decode_at, get_at s p h] at hd
    change (nr s p = 160 ↔ _) ∧ (nr s p = 12288 ↔ _) ∧ (nr s p = 160 → wd s p = 2) ∧ (nr s p = 12288 → wd s p = 3) at hd
    generalize s[p].toNat = c at *
    generalize (s.get! (p + 1)).toNat = d at *
    generalize (s.get! (p + 2)).toNat = e at *
    generalize nr s p = r at *
    generalize wd s p = v at *
    rw [if_neg (by omega)]
    by_cases hA : c = 194 ∧ 1 < s.size - p ∧ d = 160
    · rw [if_pos hA]; omega
    · rw [if_neg hA]
      by_cases hB : c = 227 ∧ (1 < s.size - p ∧ d = 128) ∧ 2 < s.size - p ∧ e = 128
      · rw [if_pos hB]; omega
      · rw [if_neg hB]; omega
theorem run_rune (s : ByteArray) (p : Nat) (h : p < s.size) : runR (nr s p) = isRun s[p] := by
  rw [run_byte]
  by_cases hc : s[p].toNat < 128
  · rw [(dec_low s p h hc).1]
  · have := dec_high s p h (by omega)
    have e : ∀ n : Nat, 128 ≤ n → runR n = false := fun n hn => by unfold runR digR; simp; omega
    rw [e _ this, e _ (by omega)]
theorem run_low (c : UInt8) (h : isRun c = true) : c.toNat < 128 := by
  rw [run_byte] at h; unfold runR digR at h; simp at h; omega
theorem quote_rune (s : ByteArray) (p : Nat) (h : p < s.size) : nr s p = 34 ↔ s[p] = 34 := by
  rw [show (34 : UInt8) = UInt8.ofNat 34 from rfl, u8 _ 34 (by decide)]
  by_cases hc : s[p].toNat < 128
  · rw [(dec_low s p h hc).1]
  · have := dec_high s p h (by omega); omega

/-- The bytes from a on up to b. -/
def slc (L : List UInt8) (a b : Nat) : List UInt8 := (L.drop a).take (b - a)
theorem slc_app (L : List UInt8) (a b : Nat) (h : a ≤ b) : L.drop a = slc L a b ++ L.drop b := by
  unfold slc; conv => lhs; rw [← List.take_append_drop (b - a) (L.drop a)]
  rw [List.drop_drop, show a + (b - a) = b by omega]
theorem slc_len (L : List UInt8) (a b : Nat) (h : b ≤ L.length) : (slc L a b).length = b - a := by unfold slc; rw [List.length_take, List.length_drop]; omega
theorem slc_snoc (s : ByteArray) (a b : Nat) (h : a ≤ b) (hb : b < s.size) : slc s.data.toList a (b + 1) = slc s.data.toList a b ++ [s[b]] := by
  unfold slc
  rw [show b + 1 - a = (b - a) + 1 by omega, List.take_add, List.drop_drop, show a + (b - a) = b by omega, drop_cons s b hb]
  rfl
theorem slc_self (L : List UInt8) (a : Nat) : slc L a a = [] := by unfold slc; rw [Nat.sub_self]; rfl
/-- A text that is being cut. -/
structure Mc where
  st : Nat
  frm : Nat
  til : Nat
  acc : List Wd
def goesR (m : Mc) (i r : Nat) : Option Nat :=
  if m.st = 1 then (if runR r then some 1 else none) else if m.st = 2 then some (if r = 34 then 3 else 2) else if m.st = 3 then (if r = 34 then some 2 else none) else if m.st = 4 then (if i < m.til then some 4 else none) else none
def wOf (R : List UInt8 → Bool) (b : List UInt8) (st : Nat) (called : Bool) : Tok :=
  if st = 1 then runTok R b called else if st = 3 then .ok 2 (und (slc b 1 (b.length - 1))) b.length else if st = 4 then .ok (spKind b) b b.length else .bad 21
def endM (R : List UInt8 → Bool) (L : List UInt8) (m : Mc) (i : Nat) : Nat × Mc :=
  if m.st = 0 then (0, m) else match wOf R (slc L m.frm i) m.st (callsL (L.drop i)) with
    | .bad e => (e, m)
    | .ok k t n => (0, { m with acc := m.acc ++ [⟨k, t, m.frm⟩] })
def beginM (L : List UInt8) (m : Mc) (i r : Nat) : Nat × Mc :=
  if blR r then (0, { m with frm := i, st := 0 }) else if runR r then (0, { m with frm := i, st := 1 }) else if r = 34 then (0, { m with frm := i, st := 2 }) else
  match spFind (L.drop i) with
  | none => (21, { m with frm := i })
  | some p => (0, { m with frm := i, st := 4, til := i + p.length })
def takeM (R : List UInt8 → Bool) (L : List UInt8) (m : Mc) (i r : Nat) : Nat × Mc :=
  match goesR m i r with
  | some t => (0, { m with st := t })
  | none => if (endM R L m i).1 ≠ 0 then endM R L m i else beginM L (endM R L m i).2 i r
/-- The machine stands at a place of the text, and what is still to come makes the answer. -/
def Inv (R : List UInt8 → Bool) (s : ByteArray) (fin : Res) (pos : Nat) (m : Mc) : Prop :=
  pos ≤ s.size ∧ m.frm ≤ pos ∧ m.acc.length ≤ m.frm ∧
  match m.st with
  | 0 => cutA R (s.data.toList.drop pos) pos m.acc = fin
  | 1 => m.frm < pos ∧ (∀ c ∈ slc s.data.toList m.frm pos, isRun c = true) ∧ cutA R (s.data.toList.drop m.frm) m.frm m.acc = fin
  | 2 => m.frm < pos ∧ s.data.toList[m.frm]? = some 34 ∧ cutA R (s.data.toList.drop m.frm) m.frm m.acc = fin ∧ ∃ B, txt (s.data.toList.drop (m.frm + 1)) = (txt (s.data.toList.drop pos)).map (fun p => (B ++ p.1, p.2 + (pos - (m.frm + 1))))
  | 3 => m.frm + 1 < pos ∧ s.data.toList[m.frm]? = some 34 ∧ s.data.toList[pos - 1]? = some 34 ∧ cutA R (s.data.toList.drop m.frm) m.frm m.acc = fin ∧ ∃ B, txt (s.data.toList.drop (m.frm + 1)) = (txt (s.data.toList.drop (pos - 1))).map (fun p => (B ++ p.1, p.2 + (pos - 1 - (m.frm + 1))))
  | 4 => m.frm < pos ∧ pos ≤ m.til ∧ (∃ p, spFind (s.data.toList.drop m.frm) = some p ∧ m.til = m.frm + p.length ∧ tok R (s.data.toList.drop m.frm) = .ok (spKind p) p p.length ∧ bl (s.data.toList.drop m.frm) = 0) ∧ cutA R (s.data.toList.drop m.frm) m.frm m.acc = fin
  | _ => False
theorem bl_run {c : UInt8} {r : List UInt8} (h : isRun c = true) : bl (c :: r) = 0 := by
  have hn : ∀ n : Nat, n < 256 → runR n = false → c ≠ UInt8.ofNat n := fun n hn hr e => by rw [run_byte, (u8 c n hn).1 e, hr] at h; cases h
  have h1 := hn 9 (by decide) (by decide)
  have h2 := hn 10 (by decide) (by decide)
  have h3 := hn 13 (by decide) (by decide)
  have h4 := hn 32 (by decide) (by decide)
  have h5 := hn 194 (by decide) (by decide)
  have h6 := hn 227 (by decide) (by decide)
  rw [bl, if_neg (by rintro (e | e | e | e) <;> contradiction), if_neg (fun e => h5 e.1), if_neg (fun e => h6 e.1)]
theorem bl_quote (r : List UInt8) : bl (34 :: r) = 0 := by rw [bl, if_neg (by decide), if_neg (fun e => absurd e.1 (by decide)), if_neg (fun e => absurd e.1 (by decide))]
theorem takeWhile_app (p : UInt8 → Bool) : ∀ (a b : List UInt8), (∀ c ∈ a, p c = true) → (∀ c, b.head? = some c → p c = false) → (a ++ b).takeWhile p = a
  | [], [], _, _ => rfl
  | [], c :: b, _, h => by rw [List.nil_append, List.takeWhile_cons, if_neg (by rw [h c rfl]; decide)]
  | x :: a, b, h, h' => by rw [List.cons_append, List.takeWhile_cons, if_pos (h x (by simp)), takeWhile_app p a b (fun c hc => h c (by simp [hc])) h']
theorem txt_skip : ∀ (a b : List UInt8), (∀ c ∈ a, c ≠ 34) → txt (a ++ b) = (txt b).map (fun p => (a ++ p.1, p.2 + a.length))
  | [], b, _ => by rw [List.nil_append]; cases txt b <;> simp
  | c :: a, b, h => by
    have hc := h c (by simp)
    have ih := txt_skip a b (fun x hx => h x (by simp [hx]))
    have e : txt (c :: (a ++ b)) = (txt (a ++ b)).map (fun p => (c :: p.1, p.2 + 1)) := by
      cases hab : a ++ b with
      | nil => simp [txt, hc]
      | cons d r => rw [txt, if_neg hc]
    rw [List.cons_append, e, ih]
    cases txt b with
    | none => rfl
    | some q => simp; omega
theorem wOf_bad {R : List UInt8 → Bool} {b : List UInt8} {st e : Nat} {c : Bool} (h : wOf R b st c = .bad e) : e = 12 ∨ e = 21 := by
  unfold wOf runTok numTok namTok at h
  repeat' split at h
  all_goals cases h
  all_goals simp
/-- A word ends at a place where it does not go on. -/
theorem end_step {R : List UInt8 → Bool} {s : ByteArray} {fin : Res} {i : Nat} {m : Mc} (h : Inv R s fin i m) (hno : i = s.size ∨ (∃ hi : i < s.size, goesR m i (nr s i) = none)) :
    ((endM R s.data.toList m i).1 = 0 ∧ cutA R (s.data.toList.drop i) i (endM R s.data.toList m i).2.acc = fin ∧ (endM R s.data.toList m i).2.acc.length ≤ i) ∨ ((endM R s.data.toList m i).1 ≠ 0 ∧ fin = .bad (endM R s.data.toList m i).2.frm (endM R s.data.toList m i).1) := by
  obtain ⟨st, frm, til, acc⟩ := m
  obtain ⟨hp, hf, hacc, hm⟩ := h
  simp only at hf hacc hm
  have hL : s.data.toList.length = s.size := (Lib.size_eq s).symm
  have hsz : (slc s.data.toList frm i).length = i - frm := slc_len _ _ _ (by omega)
  have happ := slc_app s.data.toList frm i hf
  -- a word of all these bytes
  have done : ∀ (T : Tok), st ≠ 0 → wOf R (slc s.data.toList frm i) st (callsL (s.data.toList.drop i)) = T → tok R (s.data.toList.drop frm) = T → bl (s.data.toList.drop frm) = 0 → frm < i → cutA R (s.data.toList.drop frm) frm acc = fin → (∀ k t n, T = .ok k t n → n = i - frm) →
      ((endM R s.data.toList ⟨st, frm, til, acc⟩ i).1 = 0 ∧ cutA R (s.data.toList.drop i) i (endM R s.data.toList ⟨st, frm, til, acc⟩ i).2.acc = fin ∧ (endM R s.data.toList ⟨st, frm, til, acc⟩ i).2.acc.length ≤ i) ∨ ((endM R s.data.toList ⟨st, frm, til, acc⟩ i).1 ≠ 0 ∧ fin = .bad (endM R s.data.toList ⟨st, frm, til, acc⟩ i).2.frm (endM R s.data.toList ⟨st, frm, til, acc⟩ i).1) := by
    intro T h0 hw ht hb hlt hfin hn
    simp only [endM, if_neg h0, hw]
    cases T with
    | bad e =>
      have := wOf_bad hw
      refine .inr ⟨by simp only; omega, ?_⟩
      rw [← hfin]
      exact cut_bad R (by rw [happ]; intro e'; have := congrArg List.length e'; rw [List.length_append, hsz] at this; simp at this; omega) hb ht _ _
    | ok k t n =>
      refine .inl ⟨rfl, ?_, by simp; omega⟩
      have hn' := hn k t n rfl
      rw [← hfin, cut_word R hb ht, List.drop_drop, hn', show frm + (i - frm) = i by omega]
  match st, hm with
  | 0, hm => exact .inl ⟨rfl, hm, by simp only [endM, if_pos]; omega⟩
  | 1, hm =>
    obtain ⟨hlt, hrun, hfin⟩ := hm
    have hnext : ∀ c, (s.data.toList.drop i).head? = some c → isRun c = false := by
      intro c hc
      rcases hno with e | ⟨hi, hg⟩
      · rw [drop_nil s i (by omega)] at hc; cases hc
      · rw [drop_cons s i hi] at hc
        cases hc
        rw [← run_rune s i hi]
        unfold goesR at hg
        simp only [if_true] at hg
        split at hg
        · cases hg
        · next hh => simpa using hh
    have hro : runOf (s.data.toList.drop frm) = slc s.data.toList frm i := by unfold runOf; rw [happ]; exact takeWhile_app isRun _ _ hrun hnext
    have hcons := drop_cons s frm (by omega)
    have hc0 : isRun s[frm] = true := hrun _ (by
      have : slc s.data.toList frm i = s[frm] :: (s.data.toList.drop (frm + 1)).take (i - frm - 1) := by unfold slc; rw [hcons, show i - frm = (i - frm - 1) + 1 by omega, List.take_succ_cons]; rfl
      rw [this]; simp)
    have ht : tok R (s.data.toList.drop frm) = runTok R (slc s.data.toList frm i) (callsL (s.data.toList.drop i)) := by
      rw [hcons, tok, if_pos hc0, ← hcons, hro, hsz, List.drop_drop, show frm + (i - frm) = i by omega]
    exact done _ (by decide) (by unfold wOf; rw [if_pos rfl]) ht (by rw [hcons]; exact bl_run hc0) hlt hfin (fun k t n e => by rw [runTok_len e, hsz])
  | 2, hm =>
    obtain ⟨hlt, hq, hfin, B, hB⟩ := hm
    have hi : i = s.size := by
      rcases hno with e | ⟨hi, hg⟩
      · exact e
      · unfold goesR at hg; simp at hg
    have hcons := drop_cons s frm (by omega)
    have hc : s[frm] = 34 := by
      rw [List.getElem?_eq_getElem (by omega)] at hq
      exact Option.some.inj hq
    rw [hi, drop_nil s s.size (Nat.le_refl _)] at hB
    exact done (.bad 21) (by decide) rfl (by rw [hcons, hc, tok, if_neg (by decide), if_pos rfl, txtTok, hB]; rfl) (by rw [hcons, hc]; exact bl_quote _) hlt hfin (fun k t n e => by cases e)
  | 3, hm =>
    obtain ⟨hlt, hq, hq2, hfin, B, hB⟩ := hm
    have hcons := drop_cons s frm (by omega)
    have hc : s[frm] = 34 := by
      rw [List.getElem?_eq_getElem (by omega)] at hq
      exact Option.some.inj hq
    have hcons2 := drop_cons s (i - 1) (by omega)
    have hc2 : s[i - 1] = 34 := by
      rw [List.getElem?_eq_getElem (by omega)] at hq2
      exact Option.some.inj hq2
    have ht1 : txt (s.data.toList.drop (i - 1)) = some ([], 1) := by
      rw [hcons2, hc2, show i - 1 + 1 = i by omega]
      rcases hno with e | ⟨hi, hg⟩
      · rw [drop_nil s i (by omega)]; rfl
      · rw [drop_cons s i hi, txt, if_pos rfl, if_neg]
        rw [← quote_rune s i hi]
        intro e
        unfold goesR at hg
        simp [e] at hg
    rw [ht1] at hB
    have hT : txt (s.data.toList.drop (frm + 1)) = some (B, i - frm - 1) := by rw [hB]; simp; omega
    have hu := txt_und _ _ _ hT
    have hn : (i - frm - 1) + 1 = i - frm := by omega
    have hs1 : slc (slc s.data.toList frm i) 1 ((slc s.data.toList frm i).length - 1) = (s.data.toList.drop (frm + 1)).take (i - frm - 1 - 1) := by
      unfold slc
      rw [List.length_take, List.length_drop, hL, List.drop_take, List.drop_drop, List.take_take]
      congr 1
      omega
    exact done (.ok 2 B (i - frm)) (by decide) (by unfold wOf; rw [if_neg (by decide), if_pos rfl, hs1, ← hu.1, hsz]) (by rw [hcons, hc, tok, if_neg (by decide), if_pos rfl, txtTok, hT]; simp only; rw [hn]) (by rw [hcons, hc]; exact bl_quote _) (by omega) hfin (fun k t n e => by cases e; rfl)
  | 4, hm =>
    obtain ⟨hlt, hle, ⟨p, hp1, hp2, hp3, hp4⟩, hfin⟩ := hm
    have hpre := sp_mem hp1
    have hpl := pre_len hpre.2
    rw [List.length_drop, hL] at hpl
    have hi : i = frm + p.length := by
      rcases hno with e | ⟨hi, hg⟩
      · omega
      · unfold goesR at hg
        simp at hg
        omega
    have hsl : slc s.data.toList frm i = p := by unfold slc; rw [hi, Nat.add_sub_cancel_left]; exact pre_take hpre.2
    exact done (.ok (spKind p) p p.length) (by decide) (by unfold wOf; rw [hsl]; rfl) hp3 hp4 hlt hfin (fun k t n e => by cases e; omega)
/-- A word, or none, begins. -/
theorem begin_step {R : List UInt8 → Bool} {s : ByteArray} {fin : Res} {i : Nat} {m : Mc} (hi : i < s.size) (h : cutA R (s.data.toList.drop i) i m.acc = fin) (hacc : m.acc.length ≤ i) :
    ((beginM s.data.toList m i (nr s i)).1 = 0 ∧ Inv R s fin (i + wd s i) (beginM s.data.toList m i (nr s i)).2) ∨ ((beginM s.data.toList m i (nr s i)).1 ≠ 0 ∧ fin = .bad (beginM s.data.toList m i (nr s i)).2.frm (beginM s.data.toList m i (nr s i)).1) := by
  obtain ⟨st, frm, til, acc⟩ := m
  have hb := dec_blank s i hi
  have hw1 := wd_pos s i hi
  have hw2 := wd_le s i hi
  have hcons := drop_cons s i hi
  unfold beginM
  simp only at h ⊢
  cases h1 : blR (nr s i)
  · have hbz : bl (s.data.toList.drop i) = 0 := by
      by_cases e : 0 < bl (s.data.toList.drop i)
      · rw [hb.1.2 e] at h1; cases h1
      · omega
    rw [if_neg (by decide)]
    cases h2 : runR (nr s i)
    · rw [if_neg (by decide)]
      have hnr : isRun s[i] = false := by rw [← run_rune s i hi, h2]
      by_cases h3 : nr s i = 34
      · rw [if_pos h3]
        have hc := (quote_rune s i hi).1 h3
        have hwd : wd s i = 1 := (dec_low s i hi (by rw [hc]; decide)).2
        rw [hwd]
        refine .inl ⟨rfl, by omega, by simp, by simpa using hacc, by simp, ?_, h, [], ?_⟩
        · simp only; rw [List.getElem?_eq_getElem (by rw [← Lib.size_eq]; exact hi)]; exact congrArg some hc
        · simp only [Nat.sub_self, List.nil_append, Nat.add_zero]; cases txt (s.data.toList.drop (i + 1)) <;> rfl
      · rw [if_neg h3]
        have hc : s[i] ≠ 34 := fun e => h3 ((quote_rune s i hi).2 e)
        have htk : tok R (s.data.toList.drop i) = spTok (s.data.toList.drop i) := by rw [hcons, tok, if_neg (by rw [hnr]; decide), if_neg hc]
        cases h4 : spFind (s.data.toList.drop i) with
        | none =>
          refine .inr ⟨by simp, ?_⟩
          rw [← h]
          exact cut_bad R (by rw [hcons]; simp) hbz (by rw [htk, spTok, h4]) _ _
        | some p =>
          have hpre := sp_mem h4
          have hpf := sp_facts hpre.1
          have hpl := pre_len hpre.2
          have hlow : s[i].toNat < 128 := by
            refine hpf.2.2 _ ?_
            have := pre_take hpre.2
            rw [hcons] at this
            rw [← this, show p.length = (p.length - 1) + 1 by omega, List.take_succ_cons]; simp
          have hwd : wd s i = 1 := (dec_low s i hi hlow).2
          rw [hwd]
          refine .inl ⟨rfl, by omega, by simp, by simpa using hacc, by simp, by simp only; omega, ⟨p, h4, rfl, by rw [htk, spTok, h4], hbz⟩, h⟩
    · rw [if_pos rfl]
      have hr : isRun s[i] = true := by rw [← run_rune s i hi, h2]
      have hwd : wd s i = 1 := (dec_low s i hi (run_low _ hr)).2
      rw [hwd]
      refine .inl ⟨rfl, by omega, by simp, by simpa using hacc, by simp, ?_, h⟩
      simp only
      rw [slc_snoc s i i (Nat.le_refl _) hi, slc_self]
      simp [hr]
  · rw [if_pos rfl]
    have hpos := hb.1.1 h1
    have hwd := hb.2 h1
    refine .inl ⟨rfl, hw2, by simp, by simpa using hacc, ?_⟩
    simp only
    rw [← h, cut_blank R hpos, hwd, List.drop_drop]
/-- The word goes on. -/
theorem goes_step {R : List UInt8 → Bool} {s : ByteArray} {fin : Res} {i t : Nat} {m : Mc} (hi : i < s.size) (h : Inv R s fin i m) (hg : goesR m i (nr s i) = some t) : Inv R s fin (i + wd s i) { m with st := t } := by
  obtain ⟨st, frm, til, acc⟩ := m
  obtain ⟨hp, hf, hacc, hm⟩ := h
  have hL : s.data.toList.length = s.size := (Lib.size_eq s).symm
  have hw1 := wd_pos s i hi
  have hw2 := wd_le s i hi
  simp only at hf hacc hm
  refine ⟨hw2, by simp only; omega, hacc, ?_⟩
  unfold goesR at hg
  simp only at hg ⊢
  match st, hm, hg with
  | 0, hm, hg => simp at hg
  | 1, hm, hg =>
    obtain ⟨hlt, hrun, hfin⟩ := hm
    simp only [if_true] at hg
    split at hg
    · next hr =>
      cases hg
      have hr' : isRun s[i] = true := by rw [← run_rune s i hi]; exact hr
      rw [(dec_low s i hi (run_low _ hr')).2]
      refine ⟨by omega, ?_, hfin⟩
      rw [slc_snoc s frm i hf hi]
      intro c hc
      rcases List.mem_append.1 hc with hc | hc
      · exact hrun c hc
      · simp at hc; rw [hc]; exact hr'
    · cases hg
  | 2, hm, hg =>
    obtain ⟨hlt, hq, hfin, B, hB⟩ := hm
    simp only [show ¬ (2 = 1) by decide, if_false, if_true] at hg
    cases hg
    by_cases hr : nr s i = 34
    · rw [if_pos hr]
      have hc := (quote_rune s i hi).1 hr
      rw [(dec_low s i hi (by rw [hc]; decide)).2]
      refine ⟨by omega, hq, ?_, hfin, B, ?_⟩
      · rw [Nat.add_sub_cancel, List.getElem?_eq_getElem (by omega)]; exact congrArg some hc
      · rw [Nat.add_sub_cancel]; exact hB
    · rw [if_neg hr]
      refine ⟨by omega, hq, hfin, B ++ slc s.data.toList i (i + wd s i), ?_⟩
      have hno : ∀ c ∈ slc s.data.toList i (i + wd s i), c ≠ 34 := by
        intro c hc e
        unfold slc at hc
        rw [Nat.add_sub_cancel_left] at hc
        obtain ⟨j, hj, hje⟩ := List.mem_iff_getElem.1 hc
        rw [List.length_take, List.length_drop, hL] at hj
        rw [List.getElem_take, List.getElem_drop] at hje
        have hje' : s[i + j] = c := hje
        by_cases j0 : j = 0
        · subst j0
          exact hr ((quote_rune s i hi).2 (by simpa [e] using hje'))
        · have := dec_cont s i (i + j) hi (by omega) (by omega)
          rw [get_at s (i + j) (by omega), hje', e] at this
          exact absurd this (by decide)
      rw [hB, slc_app s.data.toList i (i + wd s i) (by omega), txt_skip _ _ hno, slc_len _ _ _ (by omega)]
      cases txt (s.data.toList.drop (i + wd s i)) with
      | none => rfl
      | some q => simp; omega
  | 3, hm, hg =>
    obtain ⟨hlt, hq, hq2, hfin, B, hB⟩ := hm
    simp only [show ¬ (3 = 1) by decide, show ¬ (3 = 2) by decide, if_false, if_true] at hg
    split at hg
    · next hr =>
      cases hg
      have hc := (quote_rune s i hi).1 hr
      rw [(dec_low s i hi (by rw [hc]; decide)).2]
      have hc2 : s[i - 1] = 34 := by
        rw [List.getElem?_eq_getElem (by omega)] at hq2
        exact Option.some.inj hq2
      refine ⟨by omega, hq, hfin, B ++ [34], ?_⟩
      rw [hB, drop_cons s (i - 1) (by omega), show i - 1 + 1 = i by omega, drop_cons s i hi, hc, hc2, txt, if_pos rfl, if_pos rfl]
      cases txt (s.data.toList.drop (i + 1)) with
      | none => rfl
      | some q => simp; omega
    · cases hg
  | 4, hm, hg =>
    obtain ⟨hlt, hle, ⟨p, hp1, hp2, hp3, hp4⟩, hfin⟩ := hm
    simp only [show ¬ (4 = 1) by decide, show ¬ (4 = 2) by decide, show ¬ (4 = 3) by decide, if_false, if_true] at hg
    split at hg
    · next hr =>
      cases hg
      have hpre := sp_mem hp1
      have hpf := sp_facts hpre.1
      have hlow : s[i].toNat < 128 := by
        refine hpf.2.2 _ ?_
        have := pre_take hpre.2
        rw [← this]
        refine List.mem_iff_getElem.2 ⟨i - frm, by rw [List.length_take, List.length_drop, hL]; omega, ?_⟩
        rw [List.getElem_take, List.getElem_drop]
        show s.data.toList[frm + (i - frm)] = s[i]
        simp only [show frm + (i - frm) = i by omega]
        rfl
      rw [(dec_low s i hi hlow).2]
      exact ⟨by omega, by omega, ⟨p, hp1, hp2, hp3, hp4⟩, hfin⟩
    · cases hg
/-- One rune is taken. -/
theorem take_step {R : List UInt8 → Bool} {s : ByteArray} {fin : Res} {i : Nat} {m : Mc} (hi : i < s.size) (h : Inv R s fin i m) :
    ((takeM R s.data.toList m i (nr s i)).1 = 0 ∧ Inv R s fin (i + wd s i) (takeM R s.data.toList m i (nr s i)).2) ∨ ((takeM R s.data.toList m i (nr s i)).1 ≠ 0 ∧ fin = .bad (takeM R s.data.toList m i (nr s i)).2.frm (takeM R s.data.toList m i (nr s i)).1) := by
  unfold takeM
  cases hg : goesR m i (nr s i) with
  | some t => exact .inl ⟨rfl, goes_step hi h hg⟩
  | none =>
    simp only
    rcases end_step h (.inr ⟨hi, hg⟩) with ⟨e1, e2, e3⟩ | ⟨e1, e2⟩
    · rw [if_neg (by omega)]
      exact begin_step hi e2 e3
    · rw [if_pos e1]
      exact .inr ⟨e1, e2⟩
end Go.Proofs.YtdlomdbmmhjppaaGreatDoor
