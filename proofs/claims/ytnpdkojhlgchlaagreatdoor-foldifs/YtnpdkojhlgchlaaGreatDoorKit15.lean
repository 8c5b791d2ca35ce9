/- Folds as machines: what a function that walks wants and ends with, as a function of a rule; where it lies in memory. -/
import Derived.Test.YtnpdkojhlgchlaaGreatDoorK4J
import Derived.Test.YtnpdkojhlgchlaaGreatDoorK9J
import Derived.Test.YtnpdkojhlgchlaaGreatDoorS3J
import Derived.Maps.AppendAt
namespace Go.Proofs.YtnpdkojhlgchlaaGreatDoor
open Go.RowKit Go.Sort
open T9 (Blk Chg)
set_option linter.unusedVariables false

/-- A value's kind, number and text. -/
structure Va where
  k : Int
  i : Int
  t : ByteArray
abbrev Va.v (x : Va) : Value := vV x.k x.i x.t
/-- A value that may be, its number of 64 bits. -/
def VaOk (x : Va) : Prop := Good x.k x.i x.t ∧ -9223372036854775808 ≤ x.i ∧ x.i ≤ 9223372036854775807
/-- An argument: an area or a value. -/
structure Ag where
  is : Bool
  t : Int
  l : Int
  b : Int
  r : Int
  v : Va
abbrev agL (a : Ag) : List Value := [.bool a.is, .int .i64 a.t, .int .i64 a.l, .int .i64 a.b, .int .i64 a.r, .int .i64 a.v.k, .int .i64 a.v.i, .string a.v.t]
abbrev agV (a : Ag) : Value := .agg #[.bool a.is, .int .i64 a.t, .int .i64 a.l, .int .i64 a.b, .int .i64 a.r, .int .i64 a.v.k, .int .i64 a.v.i, .string a.v.t]
abbrev agO (a : Ag) : Obj := .cells #[.bool a.is, .int .i64 a.t, .int .i64 a.l, .int .i64 a.b, .int .i64 a.r, .int .i64 a.v.k, .int .i64 a.v.i, .string a.v.t] 41
/-- How many columns, how many places. -/
def Ag.cols (a : Ag) : Nat := (a.r - a.l + 1).toNat
def Ag.many (a : Ag) : Nat := (a.b - a.t + 1).toNat * a.cols
/-- An argument that may be. -/
def AgOk (a : Ag) : Prop := if a.is then (0 ≤ a.t ∧ a.t ≤ a.b ∧ a.b < 65536 ∧ 0 ≤ a.l ∧ a.l ≤ a.r ∧ a.r < 702) ∧ a.many ≤ 4096 else VaOk a.v
/-- The arguments lie in a block of the kind. -/
def ArgsAt (w : World) (q : Nat → Prop) (a : Option Addr) (xs : List Ag) : Prop := xs = [] ∨ ∃ b o, a = some ⟨b, o, none⟩ ∧ q b ∧ ∀ (j : Nat) (x : Ag), xs[j]? = some x → w.rangeAt b (o + j * 8) (agL x)
theorem ArgsAt.move {w w' : World} {q q' : Nat → Prop} {a : Option Addr} {xs : List Ag} (h : ArgsAt w q a xs) (hq : ∀ k, q k → q' k ∧ w'.heap[k]? = w.heap[k]?) : ArgsAt w' q' a xs := by
  rcases h with h | ⟨b, o, h, hb, g⟩
  · exact .inl h
  · exact .inr ⟨b, o, h, (hq b hb).1, fun j x hx => T9.range_of_block (g j x hx) (hq b hb).2⟩
theorem ArgsAt.tail {w : World} {q : Nat → Prop} {b o : Nat} {x : Ag} {xs : List Ag} (hq : q b) (g : ∀ (j : Nat) (y : Ag), (x :: xs)[j]? = some y → w.rangeAt b (o + j * 8) (agL y)) : ArgsAt w q (some ⟨b, o + 8, none⟩) xs :=
  .inr ⟨b, o + 8, rfl, hq, fun j y hy => by rw [show o + 8 + j * 8 = o + (j + 1) * 8 by omega]; exact g (j + 1) y (by simpa using hy)⟩
/-- What a value leads to. -/
inductive Stp where
  | on
  | bes
  | ends (v : Va)
abbrev stA (a b : Bool) (k i : Int) (t : ByteArray) : Value := .agg #[.bool a, .bool b, .int .i64 k, .int .i64 i, .string t]
abbrev stO (a b : Bool) (k i : Int) (t : ByteArray) : Obj := .cells #[.bool a, .bool b, .int .i64 k, .int .i64 i, .string t] 82
def stV : Stp → Value
  | .on => stA false false 0 0 no
  | .bes => stA true false 0 0 no
  | .ends v => stA false true v.k v.i v.t
/-- Blocks that are new, or were there. -/
def Grw (m m' : Nat → Prop) (w : World) : Prop := ∀ k, m' k → m k ∨ w.heap.size ≤ k
theorem Grw.refl (m : Nat → Prop) (w : World) : Grw m m w := fun _ h => .inl h
theorem Grw.trans {m m1 m2 : Nat → Prop} {w w1 : World} (h : Grw m m1 w) (hs : w.heap.size ≤ w1.heap.size) (g : Grw m1 m2 w1) : Grw m m2 w := fun k hk => by
  rcases g k hk with h1 | h1
  · exact h k h1
  · exact .inr (Nat.le_trans hs h1)
/-- What a rule's function keeps to. -/
structure Does {σ : Type} (S : σ → (Nat → Prop) → World → Prop) (st : σ → Va → Stp × σ) (n : Nat) (caps : Array Value) : Prop where
  call : ∀ s m x w, S s m w → VaOk x → Calls Tryz.prog n (#[x.v] ++ caps) w fun e w' => e = .returned (stV (st s x).1) ∧ ∃ m', S (st s x).2 m' w' ∧ Grw m m' w ∧ Chg m w w'
  ent : ∀ args w, (callFunc n args).run Tryz.prog w = .ok (.enter n args) w
structure Ends {σ : Type} (S : σ → (Nat → Prop) → World → Prop) (last : σ → Va) (n : Nat) (caps : Array Value) : Prop where
  call : ∀ s m w, S s m w → Calls Tryz.prog n caps w fun e w' => e = .returned (last s).v ∧ Chg m w w'
  ent : ∀ args w, (callFunc n args).run Tryz.prog w = .ok (.enter n args) w
structure Stay {σ : Type} (S : σ → (Nat → Prop) → World → Prop) : Prop where
  lt : ∀ {s m w}, S s m w → ∀ k, m k → k < w.heap.size
  same : ∀ {s m w w'}, S s m w → (∀ k, m k → w'.heap[k]? = w.heap[k]?) → S s m w'
/-- A fold's cells. -/
abbrev fC (th gi ce be se la rest : Value) (wk : Int) (wt : Bool) (r c : Int) (bs : Bool) (x0 x1 : Int) (x2 : ByteArray) : Array Value :=
  #[th, gi, ce, be, se, la, rest, .int .i64 wk, .bool wt, .int .i64 r, .int .i64 c, .bool bs, .int .i64 x0, .int .i64 x1, .string x2]
/-- The functions of a rule. -/
structure Fns where
  gi : Value
  ce : Value
  be : Value
  se : Value
  la : Value
/-- A fold that has not ended. -/
def Fld {σ : Type} (S : σ → (Nat → Prop) → World → Prop) (F : Fns) (w : World) (B : Nat) (M : Nat → Prop) (rest : List Ag) (k : Nat) (wt : Bool) (r c : Int) (bs : Bool) (s : σ) : Prop :=
  ∃ m th a len cap, Blk w B (fC th F.gi F.ce F.be F.se F.la (.slice a len cap) k wt r c bs 0 0 no) 79 ∧ len = rest.length ∧ (len ≤ cap ∧ len ≤ 1000000 ∧ k ≤ 4096) ∧ ArgsAt w (fun b => M b ∧ ¬ m b ∧ b ≠ B) a rest ∧ (∀ a ∈ rest, AgOk a) ∧ S s m w ∧ ¬ m B ∧ M B ∧ (∀ k, m k → M k) ∧ (∀ k, M k → k < w.heap.size)
def Ovr (w : World) (B : Nat) (x : Va) : Prop := Blk w B (fC (.slice none 0 0) .nilFunc .nilFunc .nilFunc .nilFunc .nilFunc (.slice none 0 0) 0 false 0 0 false x.k x.i x.t) 79
/-- Where a fold stands. -/
inductive Fs (σ : Type) where
  | over (x : Va)
  | wait (rest : List Ag) (k : Nat) (r c : Int) (bs : Bool) (s : σ)
def FoldAt {σ : Type} (S : σ → (Nat → Prop) → World → Prop) (F : Fns) (w : World) (B : Nat) (M : Nat → Prop) : Fs σ → Prop
  | .over x => Ovr w B x ∧ M B ∧ ∀ k, M k → k < w.heap.size
  | .wait rest k r c bs s => Fld S F w B M rest k true r c bs s
theorem FoldAt.lt {σ : Type} {S : σ → (Nat → Prop) → World → Prop} {F : Fns} {w : World} {B : Nat} {M : Nat → Prop} {st : Fs σ} (h : FoldAt S F w B M st) : ∀ k, M k → k < w.heap.size := by
  cases st with
  | over x => exact h.2.2
  | wait => obtain ⟨m, th, a, len, cap, _, _, _, _, _, _, _, _, _, h⟩ := h; exact h
theorem Fld.same {σ : Type} {S : σ → (Nat → Prop) → World → Prop} (hS : Stay S) {F : Fns} {w w' : World} {B : Nat} {M : Nat → Prop} {rest : List Ag} {k : Nat} {wt : Bool} {r c : Int} {bs : Bool} {s : σ} (h : Fld S F w B M rest k wt r c bs s) (hb : ∀ k, M k → w'.heap[k]? = w.heap[k]?) (hz : w.heap.size ≤ w'.heap.size) : Fld S F w' B M rest k wt r c bs s := by
  obtain ⟨m, th, a, len, cap, h1, h2, h3, h4, h5, h6, h7, h8, h9, h10⟩ := h
  exact ⟨m, th, a, len, cap, (hb B h8).trans h1, h2, h3, h4.move (fun k hk => ⟨hk, hb k hk.1⟩), h5, hS.same h6 (fun k hk => hb k (h9 k hk)), h7, h8, h9, fun k hk => Nat.lt_of_lt_of_le (h10 k hk) hz⟩
theorem FoldAt.same {σ : Type} {S : σ → (Nat → Prop) → World → Prop} (hS : Stay S) {F : Fns} {w w' : World} {B : Nat} {M : Nat → Prop} {st : Fs σ} (h : FoldAt S F w B M st) (hb : ∀ k, M k → w'.heap[k]? = w.heap[k]?) (hz : w.heap.size ≤ w'.heap.size) : FoldAt S F w' B M st := by
  cases st with
  | over x => exact ⟨(hb B h.2.1).trans h.1, h.2.1, fun k hk => Nat.lt_of_lt_of_le (h.2.2 k hk) hz⟩
  | wait => exact Fld.same hS h hb hz
theorem FoldAt.keep {σ : Type} {S : σ → (Nat → Prop) → World → Prop} (hS : Stay S) {F : Fns} {w w' : World} {B : Nat} {M : Nat → Prop} {st : Fs σ} (h : FoldAt S F w B M st) (hb : Below w.heap.size w w') : FoldAt S F w' B M st := h.same hS (fun k hk => hb.block k (h.lt k hk)) hb.size
theorem Fld.keep {σ : Type} {S : σ → (Nat → Prop) → World → Prop} (hS : Stay S) {F : Fns} {w w' : World} {B : Nat} {M : Nat → Prop} {rest : List Ag} {k : Nat} {wt : Bool} {r c : Int} {bs : Bool} {s : σ} (h : Fld S F w B M rest k wt r c bs s) (hb : Below w.heap.size w w') : Fld S F w' B M rest k wt r c bs s :=
  h.same hS (fun k hk => hb.block k (by obtain ⟨m, th, a, len, cap, _, _, _, _, _, _, _, _, _, h⟩ := h; exact h k hk)) hb.size
/-- It goes through what is left. -/
def goOn {σ : Type} (stG : σ → Va → Stp × σ) (last : σ → Va) : List Ag → Nat → σ → Fs σ
  | [], _, s => .over (last s)
  | a :: r, k, s => if a.is then (if k < a.many then .wait (a :: r) (k + 1) (a.t + (k / a.cols : Nat)) (a.l + (k % a.cols : Nat)) false s else goOn stG last r 0 s)
      else match stG s a.v with
        | (.ends x, _) => .over x
        | (_, s') => goOn stG last r 0 s'
theorem chg_of {m m' : Nat → Prop} {w w' : World} (h : Chg m w w') (hm : ∀ k, m k → m' k) : Chg m' w w' := ⟨h.os, h.tape, h.output, h.size, fun k hk hn => h.block k hk (fun e => hn (hm k e))⟩
end Go.Proofs.YtnpdkojhlgchlaaGreatDoor
