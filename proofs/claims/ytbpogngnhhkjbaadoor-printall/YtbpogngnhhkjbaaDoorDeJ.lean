/- A formula's words as lists of bytes: what word begins a text, where it ends, and a text's words one behind the other; of no program. parse: the grammar over a list of words, as a function (the last word is the end, of kind 0). -/
import Derived.Test.YtbpogngnhhkjbaaDoorLeJ
import Derived.Lib.Case
import Derived.Test.YtbpogngnhhkjbaaDoorTrJ
namespace Go.Proofs.YtbpogngnhhkjbaaDoor
open Go.RowKit
set_option linter.unusedVariables false

/-- A word, and where it begins. -/
structure Wd where
  kind : Nat
  text : List UInt8
  at' : Nat
/-- What begins a text: an error, or a word of some bytes. -/
inductive Tok where
  | bad (e : Nat)
  | ok (k : Nat) (t : List UInt8) (n : Nat)
/-- What a text is cut into. -/
inductive Res where
  | bad (i e : Nat)
  | ok (l : List Wd)
def isRun (c : UInt8) : Bool := dig c || (isC c || (isS c || (c == 36 || c == 95)))
def upp (l : List UInt8) : List UInt8 := l.map Lib.upperB
def trim0 (r : List UInt8) : List UInt8 := if (r.dropWhile (· == 48)).isEmpty then [48] else r.dropWhile (· == 48)
def numTok (r : List UInt8) : Tok := if dgs r then (if val (trim0 r) ≤ 9223372036854775807 then .ok 1 (trim0 r) r.length else .bad 12) else .bad 21
def truL : List UInt8 := [84, 82, 85, 69]
def falL : List UInt8 := [70, 65, 76, 83, 69]
def plainN (r : List UInt8) : Bool := r.all fun c => isL c || dig c
def namTok (R : List UInt8 → Bool) (r : List UInt8) (called : Bool) : Tok :=
  if !called && (upp r == truL || upp r == falL) then .ok 5 (upp r) r.length
  else if called && plainN r then .ok 4 (upp r) r.length
  else if R r then .ok 3 r r.length else .bad 21
def runTok (R : List UInt8 → Bool) (r : List UInt8) (called : Bool) : Tok := if (r.head?.map dig).getD false then numTok r else namTok R r called
/-- Behind a quote: what is spelt up to the quote that ends it, and how many bytes that takes. -/
def txt : List UInt8 → Option (List UInt8 × Nat)
  | [] => none
  | [c] => if c = 34 then some ([], 1) else none
  | c :: d :: r => if c = 34 then (if d = 34 then (txt r).map (fun p => (34 :: p.1, p.2 + 2)) else some ([], 1)) else (txt (d :: r)).map (fun p => (c :: p.1, p.2 + 1))
def txtTok (l : List UInt8) : Tok := match txt l with
  | none => .bad 21
  | some (b, n) => .ok 2 b (n + 1)
/-- The words that are spelt in one way alone. -/
def spelts : List (List UInt8) := [[35, 78, 65, 77, 69, 63], [35, 78, 85, 77, 33], [35, 82, 69, 70, 33], [35, 86, 65, 76, 85, 69, 33], [35, 68, 73, 86, 47, 48, 33], [35, 78, 47, 65], [60, 62], [60, 61], [62, 61], [40], [41], [44], [58], [94], [42], [47], [43], [45], [38], [61], [60], [62], [37]]
def spFind (l : List UInt8) : Option (List UInt8) := spelts.find? (Lib.hasPrefix l ·)
def spKind (p : List UInt8) : Nat := if p.head? = some 35 then 6 else 7
def spTok (l : List UInt8) : Tok := match spFind l with
  | none => .bad 21
  | some p => .ok (spKind p) p p.length
def runOf (l : List UInt8) : List UInt8 := l.takeWhile isRun
def callsL (l : List UInt8) : Bool := Lib.hasPrefix l [40]
def tok (R : List UInt8 → Bool) (l : List UInt8) : Tok := match l with
  | [] => .bad 21
  | c :: r => if isRun c then runTok R (runOf l) (callsL (l.drop (runOf l).length)) else if c = 34 then txtTok r else spTok l
/-- How many bytes the blank has that begins a text. -/
def bl : List UInt8 → Nat
  | [] => 0
  | c :: r => if c = 9 ∨ c = 10 ∨ c = 13 ∨ c = 32 then 1 else if c = 194 ∧ r.head? = some 160 then 2 else if c = 227 ∧ r.head? = some 128 ∧ r.tail.head? = some 128 then 3 else 0
def cutF (R : List UInt8 → Bool) : Nat → List UInt8 → Nat → List Wd → Res
  | 0, l, i, acc => .ok acc
  | f + 1, l, i, acc =>
    if l.isEmpty then .ok acc else if 0 < bl l then cutF R f (l.drop (bl l)) (i + bl l) acc else
    match tok R l with
    | .bad e => .bad i e
    | .ok k t n => cutF R f (l.drop n) (i + n) (acc ++ [⟨k, t, i⟩])
/-- The words of a text that begins at i, behind the words that were cut. -/
def cutA (R : List UInt8 → Bool) (l : List UInt8) (i : Nat) (acc : List Wd) : Res := cutF R l.length l i acc

theorem txt_len : ∀ (l : List UInt8) (b : List UInt8) (n : Nat), txt l = some (b, n) → 1 ≤ n ∧ n ≤ l.length
  | [], b, n, h => by simp [txt] at h
  | [c], b, n, h => by
    simp only [txt] at h
    split at h
    · cases h; simp
    · cases h
  | c :: d :: r, b, n, h => by
    rw [txt] at h
    split at h
    · split at h
      · rw [Option.map_eq_some_iff] at h
        obtain ⟨⟨b', n'⟩, h1, h2⟩ := h
        have := txt_len r b' n' h1
        cases h2; simp; omega
      · cases h; simp
    · rw [Option.map_eq_some_iff] at h
      obtain ⟨⟨b', n'⟩, h1, h2⟩ := h
      have := txt_len (d :: r) b' n' h1
      cases h2; simp at this ⊢; omega
theorem pre_len {p l : List UInt8} (h : Lib.hasPrefix l p = true) : p.length ≤ l.length := (List.isPrefixOf_iff_prefix.1 h).length_le
theorem pre_take {p l : List UInt8} (h : Lib.hasPrefix l p = true) : l.take p.length = p := (List.prefix_iff_eq_take.1 (List.isPrefixOf_iff_prefix.1 h)).symm
theorem sp_mem {l p : List UInt8} (h : spFind l = some p) : p ∈ spelts ∧ Lib.hasPrefix l p = true := ⟨List.mem_of_find?_eq_some h, by have := List.find?_some h; simpa using this⟩
theorem sp_all : spelts.all (fun p => decide (1 ≤ p.length) && decide (p.length ≤ 7) && p.all (fun c => decide (c.toNat < 128))) = true := by decide +kernel
theorem sp_facts {p : List UInt8} (h : p ∈ spelts) : 1 ≤ p.length ∧ p.length ≤ 7 ∧ ∀ c ∈ p, c.toNat < 128 := by
  have := List.all_eq_true.1 sp_all p h
  simp only [Bool.and_eq_true, decide_eq_true_eq, List.all_eq_true] at this
  exact ⟨this.1.1, this.1.2, this.2⟩
theorem run_le (l : List UInt8) : (runOf l).length ≤ l.length := (List.takeWhile_prefix isRun).length_le
theorem run_pos {c : UInt8} {r : List UInt8} (h : isRun c = true) : 1 ≤ (runOf (c :: r)).length := by unfold runOf; rw [List.takeWhile_cons, if_pos h]; simp
theorem runTok_len {R : List UInt8 → Bool} {r : List UInt8} {b : Bool} {k n : Nat} {t : List UInt8} (h : runTok R r b = .ok k t n) : n = r.length := by
  unfold runTok numTok namTok at h
  repeat' split at h
  all_goals cases h
  all_goals rfl
theorem tok_len {R : List UInt8 → Bool} {l : List UInt8} {k n : Nat} {t : List UInt8} (h : tok R l = .ok k t n) : 1 ≤ n ∧ n ≤ l.length := by
  cases l with
  | nil => cases h
  | cons c r =>
    unfold tok at h
    simp only at h
    split at h
    · next hr =>
      have := runTok_len h
      have := run_le (c :: r)
      have := run_pos (r := r) hr
      omega
    · split at h
      · unfold txtTok at h
        split at h
        · cases h
        · next b m hm => cases h; have := txt_len r _ _ hm; simp; omega
      · unfold spTok at h
        split at h
        · cases h
        · next p hp => cases h; have := sp_mem hp; exact ⟨(sp_facts this.1).1, pre_len this.2⟩
theorem bl_len (l : List UInt8) : bl l ≤ l.length := by
  match l with
  | [] => simp [bl]
  | [c] => simp [bl]; split <;> omega
  | [c, d] => simp [bl]; repeat' split
              all_goals omega
  | c :: d :: e :: r => simp [bl]; repeat' split
                        all_goals omega
theorem cutF_fuel (R : List UInt8 → Bool) : ∀ f l, l.length ≤ f → ∀ f', l.length ≤ f' → ∀ i acc, cutF R f l i acc = cutF R f' l i acc
  | 0, l, h, f', h', i, acc => by
    have : l = [] := List.eq_nil_of_length_eq_zero (by omega)
    subst this
    cases f' <;> simp [cutF]
  | f + 1, l, h, 0, h', i, acc => by
    have : l = [] := List.eq_nil_of_length_eq_zero (by omega)
    subst this
    simp [cutF]
  | f + 1, l, h, f' + 1, h', i, acc => by
    unfold cutF
    split
    · rfl
    · next hl =>
      have hl0 : 0 < l.length := List.length_pos_iff.2 (by simpa using hl)
      split
      · next hb => exact cutF_fuel R f _ (by rw [List.length_drop]; omega) f' (by rw [List.length_drop]; omega) _ _
      · split
        · rfl
        · next k t n hk => have := tok_len hk; exact cutF_fuel R f _ (by rw [List.length_drop]; omega) f' (by rw [List.length_drop]; omega) _ _
theorem cut_end (R : List UInt8 → Bool) (i : Nat) (acc : List Wd) : cutA R [] i acc = .ok acc := rfl
theorem cut_blank (R : List UInt8 → Bool) {l : List UInt8} (h : 0 < bl l) (i : Nat) (acc : List Wd) : cutA R l i acc = cutA R (l.drop (bl l)) (i + bl l) acc := by
  have hl := bl_len l
  unfold cutA
  obtain ⟨f, hf⟩ : ∃ f, l.length = f + 1 := ⟨l.length - 1, by omega⟩
  have hne : l.isEmpty = false := by cases l with | nil => simp at hf | cons c r => rfl
  rw [hf, cutF, hne, if_neg (by decide), if_pos h]
  exact cutF_fuel R f _ (by rw [List.length_drop]; omega) _ (Nat.le_refl _) _ _
theorem cut_bad (R : List UInt8 → Bool) {l : List UInt8} {e : Nat} (hl : l ≠ []) (h : bl l = 0) (ht : tok R l = .bad e) (i : Nat) (acc : List Wd) : cutA R l i acc = .bad i e := by
  unfold cutA
  obtain ⟨f, hf⟩ : ∃ f, l.length = f + 1 := ⟨l.length - 1, by have := List.length_pos_iff.2 hl; omega⟩
  have hne : l.isEmpty = false := by cases l with | nil => simp at hf | cons c r => rfl
  rw [hf, cutF, hne, if_neg (by decide), if_neg (by omega), ht]
theorem cut_word (R : List UInt8 → Bool) {l : List UInt8} {k n : Nat} {t : List UInt8} (h : bl l = 0) (ht : tok R l = .ok k t n) (i : Nat) (acc : List Wd) : cutA R l i acc = cutA R (l.drop n) (i + n) (acc ++ [⟨k, t, i⟩]) := by
  have hn := tok_len ht
  unfold cutA
  obtain ⟨f, hf⟩ : ∃ f, l.length = f + 1 := ⟨l.length - 1, by omega⟩
  have hne : l.isEmpty = false := by cases l with | nil => simp at hf | cons c r => rfl
  rw [hf, cutF, hne, if_neg (by decide), if_neg (by omega), ht]
  exact cutF_fuel R f _ (by rw [List.length_drop]; omega) _ (Nat.le_refl _) _ _

/-- Two quotes are one. -/
def und : List UInt8 → List UInt8
  | [] => []
  | [c] => [c]
  | c :: d :: r => if c = 34 ∧ d = 34 then 34 :: und r else c :: und (d :: r)
theorem und_cons {c : UInt8} (h : c ≠ 34) (l : List UInt8) : und (c :: l) = c :: und l := by
  cases l with
  | nil => rfl
  | cons d r => rw [und, if_neg (fun e => h e.1)]
theorem txt_und : ∀ (l b : List UInt8) (n : Nat), txt l = some (b, n) → b = und (l.take (n - 1)) ∧ l[n - 1]? = some 34 ∧ l[n]? ≠ some 34
  | [], b, n, h => by simp [txt] at h
  | [c], b, n, h => by
    simp only [txt] at h
    split at h
    · next hc => cases h; simp [und, hc]
    · cases h
  | c :: d :: r, b, n, h => by
    rw [txt] at h
    split at h
    · next hc =>
      split at h
      · next hd =>
        rw [Option.map_eq_some_iff] at h
        obtain ⟨⟨b', n'⟩, h1, h2⟩ := h
        obtain ⟨e1, e2, e3⟩ := txt_und r b' n' h1
        have := txt_len r b' n' h1
        cases h2
        obtain ⟨m, rfl⟩ : ∃ m, n' = m + 1 := ⟨n' - 1, by omega⟩
        refine ⟨?_, ?_, ?_⟩
        · simp only [Nat.add_sub_cancel, show m + 1 + 2 - 1 = m + 2 by omega, List.take_succ_cons, und, hc, hd] at e1 ⊢
          rw [e1]; simp
        · simpa using e2
        · simpa using e3
      · next hd => cases h; simp [und, hc, hd]
    · next hc =>
      rw [Option.map_eq_some_iff] at h
      obtain ⟨⟨b', n'⟩, h1, h2⟩ := h
      obtain ⟨e1, e2, e3⟩ := txt_und (d :: r) b' n' h1
      have := txt_len (d :: r) b' n' h1
      cases h2
      obtain ⟨m, rfl⟩ : ∃ m, n' = m + 1 := ⟨n' - 1, by omega⟩
      refine ⟨?_, ?_, ?_⟩
      · simp only [Nat.add_sub_cancel] at e1 ⊢
        rw [List.take_succ_cons, und_cons hc, e1]
      · simpa using e2
      · simpa using e3
end Go.Proofs.YtbpogngnhhkjbaaDoor
namespace Go.Proofs.YtbpogngnhhkjbaaDoor
open T9 (Ex Nd Rf)
set_option linter.unusedVariables false

/-- What a reading comes to: an error and its place, or a tree and the next word. -/
inductive PR where
  | bad (e a : Nat)
  | ok (t : Ex) (i : Nat)
/-- Arguments, or an error. -/
inductive PL where
  | bad (e a : Nat)
  | ok (ts : List Ex) (i : Nat)
def rf0 : Rf := ⟨0, 0, false, false⟩
abbrev no10 : ByteArray := { data := #[] }
def leafX (k n : Int) (x : ByteArray) : Ex := .mk ⟨k, 0, n, x, rf0, rf0, 0⟩ []
def unX (o : Int) (t : Ex) : Ex := .mk ⟨7, o, 0, no10, rf0, rf0, 0⟩ [t]
def binX (o : Int) (t u : Ex) : Ex := .mk ⟨8, o, 0, no10, rf0, rf0, 0⟩ [t, u]
def callX (f : Int) (ts : List Ex) : Ex := .mk ⟨9, 0, 0, no10, rf0, rf0, f⟩ ts
def errRef : Ex := leafX 4 3 no10
/-- The line of an operation of two, and its number. -/
def opOf (s : List UInt8) : Nat × Int :=
  if s = [61] then (1, 7) else if s = [60, 62] then (1, 8) else if s = [60] then (1, 9) else if s = [60, 61] then (1, 10) else if s = [62] then (1, 11) else if s = [62, 61] then (1, 12)
  else if s = [38] then (2, 6) else if s = [43] then (3, 4) else if s = [45] then (3, 5) else if s = [42] then (4, 2) else if s = [47] then (4, 3) else if s = [94] then (5, 1) else (0, 0)
/-- A sign ahead of a value: 0 if it is none. -/
def sgnOf (s : List UInt8) : Int := if s = [45] then 1 else if s = [43] then 2 else 0
/-- An error's number. -/
def errOf (s : List UInt8) : Int :=
  if s = [35, 78, 65, 77, 69, 63] then 1 else if s = [35, 78, 85, 77, 33] then 2 else if s = [35, 82, 69, 70, 33] then 3 else if s = [35, 86, 65, 76, 85, 69, 33] then 4 else if s = [35, 68, 73, 86, 47, 48, 33] then 5 else 6
def numOf (s : List UInt8) : Int := s.foldl (fun n c => 10 * n + ((c.toNat : Int) - 48)) 0
section
variable (Rd : List UInt8 → Option Rf) (Fd : List UInt8 → Option (Int × Int × Int)) (l : List Wd)
def wdAt (i : Nat) : Wd := l.getD i ⟨0, [], 0⟩
def sgAt (i : Nat) : List UInt8 := if (wdAt l i).kind = 7 then (wdAt l i).text else []
def plAt (i : Nat) : Nat := (wdAt l i).at'
/-- How far the words go that a test takes. -/
def runW (p : List UInt8 → Bool) : Nat → Nat → Nat
  | 0, i => i
  | f + 1, i => if p (sgAt l i) then runW p f (i + 1) else i
/-- Signs laid around a value, the last first. -/
def signsX (i : Nat) : Nat → Ex → Ex
  | 0, t => t
  | k + 1, t => signsX i k (unX (sgnOf (wdAt l (i + k)).text) t)
def percX : Nat → Ex → Ex
  | 0, t => t
  | k + 1, t => percX k (unX 3 t)
/-- A reference, or two. -/
def refP (i : Nat) : PR :=
  if sgAt l (i + 1) = [58] then
    if (wdAt l (i + 2)).kind = 3 then
      .ok (match Rd (wdAt l i).text, Rd (wdAt l (i + 2)).text with
        | some a, some b => .mk ⟨6, 0, 0, no10, a, b, 0⟩ []
        | _, _ => errRef) (i + 3)
    else .bad 20 (plAt l (i + 2))
  else .ok (match Rd (wdAt l i).text with
    | some a => .mk ⟨5, 0, 0, no10, a, rf0, 0⟩ []
    | none => errRef) (i + 1)
mutual
/-- A line of the grammar. -/
def lineP : Nat → Nat → Nat → Nat → PR
  | 0, _, i, _ => .bad 20 (plAt l i)
  | f + 1, n, i, o => if 5 < n then signP f i o else match lineP f (n + 1) i o with
    | .bad e a => .bad e a
    | .ok t j => restP f n t j o
/-- The operations of a line behind its first value. -/
def restP : Nat → Nat → Ex → Nat → Nat → PR
  | 0, _, _, i, _ => .bad 20 (plAt l i)
  | f + 1, n, t, i, o => if (opOf (sgAt l i)).1 = n then match lineP f (n + 1) (i + 1) o with
      | .bad e a => .bad e a
      | .ok u j => restP f n (binX (opOf (sgAt l i)).2 t u) j o
    else .ok t i
/-- A value with its signs and percents. -/
def signP : Nat → Nat → Nat → PR
  | 0, i, _ => .bad 20 (plAt l i)
  | f + 1, i, o => match primP f (runW l (fun s => sgnOf s != 0) l.length i) o with
    | .bad e a => .bad e a
    | .ok t j => .ok (signsX l i (runW l (fun s => sgnOf s != 0) l.length i - i) (percX (runW l (fun s => s == [37]) l.length j - j) t)) (runW l (fun s => s == [37]) l.length j)
def primP : Nat → Nat → Nat → PR
  | 0, i, _ => .bad 20 (plAt l i)
  | f + 1, i, o => match (wdAt l i).kind with
    | 1 => .ok (leafX 1 (numOf (wdAt l i).text) no10) (i + 1)
    | 2 => .ok (leafX 2 0 ⟨(wdAt l i).text.toArray⟩) (i + 1)
    | 3 => refP Rd l i
    | 4 => match Fd (wdAt l i).text with
      | none => .bad 3 (plAt l i)
      | some (g, mn, mx) =>
        if sgAt l (i + 1) = [40] then
          if 256 < o + 1 then .bad 2 (plAt l (i + 1)) else
          match argsP f (i + 2) (o + 1) with
          | .bad e a => .bad e a
          | .ok ts j => if sgAt l j = [41] then (if mn ≤ (ts.length : Int) ∧ ((ts.length : Int) ≤ mx ∨ mx < 0) then .ok (callX g ts) (j + 1) else .bad 1 (plAt l i)) else .bad 20 (plAt l j)
        else .bad 20 (plAt l (i + 1))
    | 5 => .ok (leafX 3 (if (wdAt l i).text = [84, 82, 85, 69] then 1 else 0) no10) (i + 1)
    | 6 => .ok (leafX 4 (errOf (wdAt l i).text) no10) (i + 1)
    | 7 => if sgAt l i = [40] then
        if 256 < o + 1 then .bad 2 (plAt l i) else
        match lineP f 1 (i + 1) (o + 1) with
        | .bad e a => .bad e a
        | .ok t j => if sgAt l j = [41] then .ok t (j + 1) else .bad 20 (plAt l j)
      else .bad 20 (plAt l i)
    | _ => .bad 20 (plAt l i)
/-- What stands between a call's brackets. -/
def argsP : Nat → Nat → Nat → PL
  | 0, i, _ => .bad 20 (plAt l i)
  | f + 1, i, o => if sgAt l i = [41] then .ok [] i else match lineP f 1 i o with
    | .bad e a => .bad e a
    | .ok t j => moreP f [t] j o
def moreP : Nat → List Ex → Nat → Nat → PL
  | 0, _, i, _ => .bad 20 (plAt l i)
  | f + 1, ts, i, o => if sgAt l i = [44] then match lineP f 1 (i + 1) o with
      | .bad e a => .bad e a
      | .ok t j => moreP f (ts ++ [t]) j o
    else .ok ts i
end
/-- All words. -/
def formP : PR := match lineP Rd Fd l (8 * l.length + 16) 1 0 0 with
  | .bad e a => .bad e a
  | .ok t j => if (wdAt l j).kind = 0 then .ok t j else .bad 20 (plAt l j)
end
end Go.Proofs.YtbpogngnhhkjbaaDoor
