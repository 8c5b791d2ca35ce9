/- quadrilleref11.from where no brackets are wanted. quadrilleref11.from where brackets are wanted: the statement draws its order; what every order keeps. quadrilleref11.from where brackets are wanted. -/
import Derived.Test.YtbpogngnhhkjbaaDoorRtJ
import Derived.Test.YtbpogngnhhkjbaaDoorPrJ
import Derived.Test.YtbpogngnhhkjbaaDoorRzJ
import Derived.Test.YtbpogngnhhkjbaaDoorRgInv
import Derived.Deep.Cut
namespace Go.Proofs.YtbpogngnhhkjbaaDoor.T9
open Go.RowKit Go.Sort
set_option linter.unusedVariables false

set_option maxHeartbeats 2000000 in
set_option maxRecDepth 100000 in
theorem rfr_hi (w0 : World) (t : Ex) (ho : t.nd.kind = 8 → 1 ≤ t.nd.op ∧ t.nd.op ≤ 12) (hT : TxIs w0 t) (v b : Value) (n : Int) (acc : List UInt8) (w : World) (hn : n ≤ lv t.nd) (ht : Tree w0 v t) (hlow : Below w0.heap.size w0 w) (hown : OwB w w0.heap.size b acc) (hlen : acc.length + (frE n t).length < 1000000) :
    Calls Tryd.prog 23 #[b, v, .int .i64 n] w fun e w' => TxP w0 w b (acc ++ frE n t) e w' := by
  rw [frE_core hn] at hlen ⊢
  obtain ⟨nd, ks⟩ := t
  obtain ⟨a, len, cap, rfl, _, _, _, _⟩ := ht.un
  have P0 := hide (Blk.new w (exC nd (.slice a len cap)) 30)
  have W0 := hide (Gone.of_below (B := w0.heap.size) (v := b) (step (Below.refl w.heap.size w) (exO nd (.slice a len cap))) hlow.size)
  have O0 := hide (hown.alloc (exO nd (.slice a len cap)))
  have hB := hide hlow.size
  have HV := hide (rlevel_any nd (.slice a len cap) (w.alloc (exO nd (.slice a len cap))) ho)
  have HT := hide (fun w' (h1 : Below w0.heap.size w0 w') (h2 : OwB w' w0.heap.size b acc) => hT (exV nd (.slice a len cap)) b acc w' ht h1 h2 hlen)
  have hn' : ¬ lv nd < n := by have : n ≤ lv nd := hn; omega
  replace hlow := hide hlow
  generalize lv nd = ℓ at *
  generalize txE (.mk nd ks) = U at *
  clear ht hown hT hn ho hlen
  go_enter Tryd.func23, Tryd.ntmps23
  go_wp2_with (first
    | (refine wpList_load_blk rfl 30 _ rfl _ rfl _ (by with_reducible exact P0.out) _ Tryd.underlying30 rfl (exC_info _ _) ?_)
    | (refine wpList_load_blk rfl 30 _ rfl _ rfl _ (by with_reducible exact P1.out) _ Tryd.underlying30 rfl (exC_info _ _) ?_)
    | (go_at_call 24; refine HV.out.mono ?_; rintro e w1 ⟨rfl, hb⟩; have O1 := hide (O0.out.keep hb); have W1 := hide (W0.out.trans (Gone.of_below hb (Nat.le_trans hB.out W0.out.low.size))); have P1 := hide (P0.out.keep hb); clear hb)
    | (go_at_call 12; refine (HT.out _ (hlow.out.trans W1.out.low) O1.out).mono ?_; rintro e w2 ⟨b2, rfl, h1, h2⟩; have O2 := hide h1; have W2 := hide (W1.out.trans h2); clear h1 h2))
  go_ret
  exact ⟨b2, rfl, O2.out, W2.out⟩
end Go.Proofs.YtbpogngnhhkjbaaDoor.T9
namespace Go.Proofs.YtbpogngnhhkjbaaDoor.T9
open Go.RowKit Go.Sort
set_option linter.unusedVariables false

/-- A literal of one byte, that is no row. -/
def Lit1 (w : World) (bb x : Value) (k : Int) : Prop := ∃ X, x = .slice (some ⟨X, 0, none⟩) 1 1 ∧ w.heap[X]? = some (.cells #[.int .u8 k] 5 (0, 0)) ∧ bb.ownBlock ≠ some X
theorem Lit1.alloc {w : World} {bb x : Value} {k : Int} (h : Lit1 w bb x k) (o : Obj) : Lit1 (w.alloc o) bb x k := by
  obtain ⟨X, e, h1, h2⟩ := h
  exact ⟨X, e, (Below.heap_alloc w o X (Array.getElem?_eq_some_iff.1 h1).1).trans h1, h2⟩
theorem Lit1.gone {B : Nat} {w w' : World} {v v' x : Value} {k : Int} (h : Lit1 w v x k) (g : Gone B w w' v v') : Lit1 w' v' x k := by
  obtain ⟨X, e, h1, h2⟩ := h
  obtain ⟨q1, q2⟩ := g.one X _ _ h1 rfl h2
  exact ⟨X, e, q1, q2⟩
theorem Lit1.new {w : World} {B : Nat} {bb : Value} {L : List UInt8} (h : OwB w B bb L) (k : Int) : Lit1 (w.alloc (.cells #[.int .u8 k] 5)) bb (.slice (some ⟨w.heap.size, 0, none⟩) 1 1) k := by
  refine ⟨w.heap.size, rfl, Blk.new w #[.int .u8 k] 5, fun e => ?_⟩
  obtain ⟨_, c, fz, hc⟩ := h.kind _ e
  have := (Array.getElem?_eq_some_iff.1 hc).1
  omega
theorem Lit1.cell {w : World} {bb : Value} {X : Nat} {k : Int} (h : Lit1 w bb (.slice (some ⟨X, 0, none⟩) 1 1) k) : w.cell? ⟨X, 0, none⟩ = some (.int .u8 k) := by
  obtain ⟨Y, e, h1, _⟩ := h
  have : X = Y := by have := (Value.slice.inj e).1; simpa using this
  subst this
  exact Blk.one (t := 5) h1
/-- How far the row has come. -/
def stg (L : Nat → Bool) (acc U : List UInt8) : List UInt8 := if L 6 = true then acc ++ [40] ++ U ++ [41] else if L 4 = true then acc ++ [40] ++ U else if L 2 = true then acc ++ [40] else acc
/-- What every order keeps. -/
structure FrS (B : Nat) (w w' : World) (b : Value) (Xp : Nat) (cs : Array Value) (nv : Value) (acc U : List UInt8) (L : Nat → Bool) (x11 x12 x13 x14 x15 x16 x17 x6 : Value) : Prop where
  ex : ∃ (bb : Value) (ak : List UInt8), Gone B w w' b bb ∧ OwB w' B bb ak ∧ ak = stg L acc U ∧ (L 2 = false → bb = b) ∧ (L 2 = true → L 4 = false → x13 = bb) ∧ (L 4 = true → L 6 = false → x15 = bb) ∧ (L 6 = true → x17 = bb) ∧ (L 1 = true → L 2 = false → Lit1 w' bb x12 40) ∧ (L 5 = true → L 6 = false → Lit1 w' bb x16 41)
  p : Blk w' Xp cs 30
  m42 : L 4 = true → L 2 = true
  m64 : L 6 = true → L 4 = true
  m76 : L 7 = true → L 6 = true
  f0 : L 0 = true → x11 = b
  f3 : L 3 = true → x14 = nv
  f7 : L 7 = true → x6 = x17
abbrev lset (L : Nat → Bool) (i : Nat) : Nat → Bool := fun j => if j = i then true else L j
section
variable {B : Nat} {w w' : World} {b : Value} {Xp : Nat} {cs : Array Value} {nv : Value} {acc U : List UInt8} {L : Nat → Bool} {x11 x12 x13 x14 x15 x16 x17 x6 : Value}
theorem no_true {x y : Bool} (h : x = true → y = true) (hy : y = false) : x = false := by cases x; rfl; exact absurd (h rfl) (by rw [hy]; decide)
theorem FrS.s0 (h : FrS B w w' b Xp cs nv acc U L x11 x12 x13 x14 x15 x16 x17 x6) : FrS B w w' b Xp cs nv acc U (lset L 0) b x12 x13 x14 x15 x16 x17 x6 :=
  ⟨h.ex, h.p, h.m42, h.m64, h.m76, fun _ => rfl, h.f3, h.f7⟩
theorem FrS.s1 (h : FrS B w w' b Xp cs nv acc U L x11 x12 x13 x14 x15 x16 x17 x6) (hB : B ≤ w.heap.size) : FrS B w (w'.alloc (.cells #[.int .u8 40] 5)) b Xp cs nv acc U (lset L 1) x11 (.slice (some ⟨w'.heap.size, 0, none⟩) 1 1) x13 x14 x15 x16 x17 x6 := by
  obtain ⟨bb, ak, g, o, e, h2, h3, h4, h5, h6, h7⟩ := h.ex
  exact ⟨⟨bb, ak, g.alloc hB _, o.alloc _, e, h2, h3, h4, h5, fun _ _ => Lit1.new o 40, fun q1 q2 => (h7 q1 q2).alloc _⟩, h.p.alloc _, h.m42, h.m64, h.m76, h.f0, h.f3, h.f7⟩
theorem FrS.s3 (h : FrS B w w' b Xp cs nv acc U L x11 x12 x13 x14 x15 x16 x17 x6) : FrS B w w' b Xp cs nv acc U (lset L 3) x11 x12 x13 nv x15 x16 x17 x6 :=
  ⟨h.ex, h.p, h.m42, h.m64, h.m76, h.f0, fun _ => rfl, h.f7⟩
theorem FrS.s5 (h : FrS B w w' b Xp cs nv acc U L x11 x12 x13 x14 x15 x16 x17 x6) (hB : B ≤ w.heap.size) : FrS B w (w'.alloc (.cells #[.int .u8 41] 5)) b Xp cs nv acc U (lset L 5) x11 x12 x13 x14 x15 (.slice (some ⟨w'.heap.size, 0, none⟩) 1 1) x17 x6 := by
  obtain ⟨bb, ak, g, o, e, h2, h3, h4, h5, h6, h7⟩ := h.ex
  exact ⟨⟨bb, ak, g.alloc hB _, o.alloc _, e, h2, h3, h4, h5, fun q1 q2 => (h6 q1 q2).alloc _, fun _ _ => Lit1.new o 41⟩, h.p.alloc _, h.m42, h.m64, h.m76, h.f0, h.f3, h.f7⟩
theorem FrS.s7 (h : FrS B w w' b Xp cs nv acc U L x11 x12 x13 x14 x15 x16 x17 x6) (l6 : L 6 = true) : FrS B w w' b Xp cs nv acc U (lset L 7) x11 x12 x13 x14 x15 x16 x17 x17 :=
  ⟨h.ex, h.p, h.m42, h.m64, fun _ => l6, h.f0, h.f3, fun _ => rfl⟩
/-- Ahead of the first append. -/
theorem FrS.a2 (h : FrS B w w' b Xp cs nv acc U L x11 x12 x13 x14 x15 x16 x17 x6) (h2 : L 2 = false) (l0 : L 0 = true) (l1 : L 1 = true) : x11 = b ∧ OwB w' B b acc ∧ Lit1 w' b x12 40 := by
  obtain ⟨bb, ak, g, o, e, q2, q3, q4, q5, q6, q7⟩ := h.ex
  have e4 := no_true h.m42 h2
  have e6 := no_true h.m64 e4
  obtain rfl := q2 h2
  unfold stg at e
  rw [if_neg (by rw [e6]; decide), if_neg (by rw [e4]; decide), if_neg (by rw [h2]; decide)] at e
  subst e
  exact ⟨h.f0 l0, o, q6 l1 h2⟩
theorem FrS.s2 {w2 : World} {v2 : Value} (h : FrS B w w' b Xp cs nv acc U L x11 x12 x13 x14 x15 x16 x17 x6) (h2 : L 2 = false) (o2 : OwB w2 B v2 (acc ++ [40])) (g2 : Gone B w' w2 b v2) : FrS B w w2 b Xp cs nv acc U (lset L 2) x11 x12 v2 x14 x15 x16 x17 x6 := by
  obtain ⟨bb, ak, g, o, e, q2, q3, q4, q5, q6, q7⟩ := h.ex
  have e4 := no_true h.m42 h2
  have e6 := no_true h.m64 e4
  obtain rfl := q2 h2
  refine ⟨⟨v2, acc ++ [40], g.trans g2, o2, ?_, fun q => absurd (show true = false from q) (by decide), fun _ _ => rfl, fun q => absurd (show L 4 = true from q) (by rw [e4]; decide), fun q => absurd (show L 6 = true from q) (by rw [e6]; decide), fun _ q => absurd (show true = false from q) (by decide), fun q1 q2 => (q7 q1 q2).gone g2⟩, g2.blk h.p tXuz, fun _ => rfl, h.m64, h.m76, h.f0, h.f3, h.f7⟩
  show _ = if L 6 = true then acc ++ [40] ++ U ++ [41] else if L 4 = true then acc ++ [40] ++ U else acc ++ [40]
  rw [if_neg (by rw [e6]; decide), if_neg (by rw [e4]; decide)]
theorem FrS.a4 (h : FrS B w w' b Xp cs nv acc U L x11 x12 x13 x14 x15 x16 x17 x6) (h4 : L 4 = false) (l2 : L 2 = true) (l3 : L 3 = true) : x14 = nv ∧ OwB w' B x13 (acc ++ [40]) ∧ Gone B w w' b x13 := by
  obtain ⟨bb, ak, g, o, e, q2, q3, q4, q5, q6, q7⟩ := h.ex
  have e6 := no_true h.m64 h4
  obtain rfl := q3 l2 h4
  unfold stg at e
  rw [if_neg (by rw [e6]; decide), if_neg (by rw [h4]; decide), if_pos l2] at e
  subst e
  exact ⟨h.f3 l3, o, g⟩
theorem FrS.s4 {w2 : World} {v2 : Value} (h : FrS B w w' b Xp cs nv acc U L x11 x12 x13 x14 x15 x16 x17 x6) (h4 : L 4 = false) (l2 : L 2 = true) (o2 : OwB w2 B v2 (acc ++ [40] ++ U)) (g2 : Gone B w' w2 x13 v2) : FrS B w w2 b Xp cs nv acc U (lset L 4) x11 x12 x13 x14 v2 x16 x17 x6 := by
  obtain ⟨bb, ak, g, o, e, q2, q3, q4, q5, q6, q7⟩ := h.ex
  have e6 := no_true h.m64 h4
  obtain rfl := q3 l2 h4
  refine ⟨⟨v2, acc ++ [40] ++ U, g.trans g2, o2, ?_, fun q => absurd (show L 2 = false from q) (by rw [l2]; decide), fun _ q => absurd (show true = false from q) (by decide), fun _ _ => rfl, fun q => absurd (show L 6 = true from q) (by rw [e6]; decide), fun _ q => absurd (show L 2 = false from q) (by rw [l2]; decide), fun q1 q2 => (q7 q1 q2).gone g2⟩, g2.blk h.p tXuz, fun _ => l2, fun _ => rfl, h.m76, h.f0, h.f3, h.f7⟩
  show _ = if L 6 = true then acc ++ [40] ++ U ++ [41] else acc ++ [40] ++ U
  rw [if_neg (by rw [e6]; decide)]
theorem FrS.a6 (h : FrS B w w' b Xp cs nv acc U L x11 x12 x13 x14 x15 x16 x17 x6) (h6 : L 6 = false) (l4 : L 4 = true) (l5 : L 5 = true) : OwB w' B x15 (acc ++ [40] ++ U) ∧ Lit1 w' x15 x16 41 := by
  obtain ⟨bb, ak, g, o, e, q2, q3, q4, q5, q6, q7⟩ := h.ex
  obtain rfl := q4 l4 h6
  unfold stg at e
  rw [if_neg (by rw [h6]; decide), if_pos l4] at e
  subst e
  exact ⟨o, q7 l5 h6⟩
theorem FrS.s6 {w2 : World} {v2 : Value} (h : FrS B w w' b Xp cs nv acc U L x11 x12 x13 x14 x15 x16 x17 x6) (h6 : L 6 = false) (l4 : L 4 = true) (o2 : OwB w2 B v2 (acc ++ [40] ++ U ++ [41])) (g2 : Gone B w' w2 x15 v2) : FrS B w w2 b Xp cs nv acc U (lset L 6) x11 x12 x13 x14 x15 x16 v2 x6 := by
  obtain ⟨bb, ak, g, o, e, q2, q3, q4, q5, q6, q7⟩ := h.ex
  have l2 := h.m42 l4
  obtain rfl := q4 l4 h6
  refine ⟨⟨v2, acc ++ [40] ++ U ++ [41], g.trans g2, o2, rfl, fun q => absurd (show L 2 = false from q) (by rw [l2]; decide), fun _ q => absurd (show L 4 = false from q) (by rw [l4]; decide), fun _ q => absurd (show true = false from q) (by decide), fun _ => rfl, fun _ q => absurd (show L 2 = false from q) (by rw [l2]; decide), fun _ q => absurd (show true = false from q) (by decide)⟩, g2.blk h.p tXuz, h.m42, fun _ => l4, fun _ => rfl, h.f0, h.f3, ?_⟩
  intro q
  exact absurd (h.m76 q) (by rw [h6]; decide)
end
end Go.Proofs.YtbpogngnhhkjbaaDoor.T9
namespace Go.Proofs.YtbpogngnhhkjbaaDoor.T9
open Go.RowKit Go.Sort
set_option linter.unusedVariables false

theorem FrS.low {B : Nat} {w w' : World} {b : Value} {Xp : Nat} {cs : Array Value} {nv : Value} {acc U : List UInt8} {L : Nat → Bool} {x11 x12 x13 x14 x15 x16 x17 x6 : Value} (h : FrS B w w' b Xp cs nv acc U L x11 x12 x13 x14 x15 x16 x17 x6) (hB : B ≤ w.heap.size) : B ≤ w'.heap.size := by
  obtain ⟨bb, ak, g, _⟩ := h.ex
  exact Nat.le_trans hB g.low.size
theorem FrS.be {B : Nat} {w0 w w' : World} {b : Value} {Xp : Nat} {cs : Array Value} {nv : Value} {acc U : List UInt8} {L : Nat → Bool} {x11 x12 x13 x14 x15 x16 x17 x6 : Value} (h : FrS B w w' b Xp cs nv acc U L x11 x12 x13 x14 x15 x16 x17 x6) (hB : Below B w0 w) : Below B w0 w' := by
  obtain ⟨bb, ak, g, _⟩ := h.ex
  exact hB.trans g.low
theorem FrS.fin {B : Nat} {w w' : World} {b : Value} {Xp : Nat} {cs : Array Value} {nv : Value} {acc U : List UInt8} {L : Nat → Bool} {x11 x12 x13 x14 x15 x16 x17 x6 : Value} (h : FrS B w w' b Xp cs nv acc U L x11 x12 x13 x14 x15 x16 x17 x6) (l2 : L 2 = true) (l4 : L 4 = true) (l6 : L 6 = true) (l7 : L 7 = true) : OwB w' B x17 (acc ++ [40] ++ U ++ [41]) ∧ Gone B w w' b x17 ∧ x6 = x17 := by
  obtain ⟨bb, ak, g, o, e, q2, q3, q4, q5, q6, q7⟩ := h.ex
  obtain rfl := q5 l6
  unfold stg at e
  rw [if_pos l6] at e
  subst e
  exact ⟨o, g, h.f7 l7⟩
set_option maxHeartbeats 8000000 in
set_option maxRecDepth 100000 in
theorem rfr_lo (w0 : World) (t : Ex) (ho : t.nd.kind = 8 → 1 ≤ t.nd.op ∧ t.nd.op ≤ 12) (hT : TxIs w0 t) (v b : Value) (n : Int) (acc : List UInt8) (w : World) (hn : lv t.nd < n) (ht : Tree w0 v t) (hlow : Below w0.heap.size w0 w) (hown : OwB w w0.heap.size b acc) (hlen : acc.length + (frE n t).length < 1000000) :
    Calls Tryd.prog 23 #[b, v, .int .i64 n] w fun e w' => TxP w0 w b (acc ++ frE n t) e w' := by
  have e : frE n t = [40] ++ txE t ++ [41] := by unfold frE fr; rw [if_pos hn]
  rw [e] at hlen ⊢
  simp only [List.length_append, List.length_cons, List.length_nil] at hlen
  obtain ⟨nd, ks⟩ := t
  obtain ⟨a, len, cap, rfl, _, _, _, _⟩ := ht.un
  have P0 := hide (Blk.new w (exC nd (.slice a len cap)) 30)
  have W0 := hide (Gone.of_below (B := w0.heap.size) (v := b) (step (Below.refl w.heap.size w) (exO nd (.slice a len cap))) hlow.size)
  have O0 := hide (hown.alloc (exO nd (.slice a len cap)))
  have hB := hide hlow.size
  have HV := hide (rlevel_any nd (.slice a len cap) (w.alloc (exO nd (.slice a len cap))) ho)
  have HT := hide (fun b' w' (h1 : Below w0.heap.size w0 w') (h2 : OwB w' w0.heap.size b' (acc ++ [40])) => hT (exV nd (.slice a len cap)) b' (acc ++ [40]) w' ht h1 h2 (by rw [List.length_append]; simp; omega))
  have hn' : lv nd < n := hn
  have hla := hide (show acc.length < 1000000 ∧ (acc ++ [40] ++ txE (.mk nd ks)).length < 1000000 by rw [List.length_append, List.length_append]; simp; omega)
  replace hlow := hide hlow
  generalize lv nd = ℓ at *
  generalize txE (.mk nd ks) = U at *
  clear ht hown hT hn ho hlen e
  go_enter Tryd.func23, Tryd.ntmps23
  go_upto_region 2 with (first
    | (refine wpList_load_blk rfl 30 _ rfl _ rfl _ (by with_reducible exact P0.out) _ Tryd.underlying30 rfl (exC_info _ _) ?_)
    | (go_at_call 24; refine HV.out.mono ?_; rintro e w1 ⟨rfl, hb⟩; have O1 := hide (O0.out.keep hb); have W1 := hide (W0.out.trans (Gone.of_below hb (Nat.le_trans hB.out W0.out.low.size))); have P1 := hide (P0.out.keep hb); clear hb))
  have F0 : FrS w0.heap.size w w1.drew b w.heap.size (exC nd (.slice a len cap)) (exV nd (.slice a len cap)) acc U (fun j => decide (8 ≤ j)) undef undef undef undef undef undef undef (.slice none 0 0) :=
    ⟨⟨b, acc, ⟨W1.out.low.drew, W1.out.oth, W1.out.one⟩, O1.out, rfl, fun _ => rfl, fun q => absurd q (by decide), fun q => absurd q (by decide), fun q => absurd q (by decide), fun q => absurd q (by decide), fun q => absurd q (by decide)⟩, P1.out, fun q => absurd q (by decide), fun q => absurd q (by decide), fun q => absurd q (by decide), fun q => absurd q (by decide), fun q => absurd q (by decide), fun q => absurd q (by decide)⟩
  replace F0 := hide F0
  clear P0 P1 W0 W1 O0 O1 HV
  refine region_inv (fun (L : Nat → Bool) (a₁ : Act) (w₁ : World) => ∃ (x11 x12 x13 x14 x15 x16 x17 x6 : Value), a₁ = ⟨#[b, exV nd (.slice a len cap), .int .i64 n, undef, .pointer (some ⟨w.heap.size, 0, none⟩), undef, x6, .agg (exC nd (.slice a len cap)), .int .i64 ℓ, .int .i64 n, .bool true, x11, x12, x13, x14, x15, x16, x17, undef, undef, undef], []⟩ ∧ FrS w0.heap.size w w₁ b w.heap.size (exC nd (.slice a len cap)) (exV nd (.slice a len cap)) acc U L x11 x12 x13 x14 x15 x16 x17 x6) (by kernel_rfl) (by kernel_rfl) ?_ ?_ ?_
  · exact ⟨undef, undef, undef, undef, undef, undef, undef, .slice none 0 0, rfl, F0.out⟩
  · intro ix hi L a₁ w₁ hI hLi hdep
    obtain ⟨x11, x12, x13, x14, x15, x16, x17, x6, ha, h⟩ := hI
    subst ha
    have hB2 : w0.heap.size ≤ w₁.heap.size := h.low hB.out
    have hlow2 : Below w0.heap.size w0 w₁ := h.be hlow.out
    have hcases : ix = 0 ∨ ix = 1 ∨ ix = 2 ∨ ix = 3 ∨ ix = 4 ∨ ix = 5 ∨ ix = 6 ∨ ix = 7 := (show ∀ ix, ix < 8 → (ix = 0 ∨ ix = 1 ∨ ix = 2 ∨ ix = 3 ∨ ix = 4 ∨ ix = 5 ∨ ix = 6 ∨ ix = 7) by decide +kernel) ix hi
    clear hi
    rcases hcases with rfl | rfl | rfl | rfl | rfl | rfl | rfl | rfl
    · refine wpOp_step rfl (fun K' hKK => ?_)
      replace hKK := hide hKK
      go_simp
      exact hKK.out _ _ ⟨_, _, _, _, _, _, _, _, rfl, h.s0⟩
    · refine wpOp_step rfl (fun K' hKK => ?_)
      replace hKK := hide hKK
      go_simp
      exact hKK.out _ _ ⟨_, _, _, _, _, _, _, _, rfl, h.s1 hB.out⟩
    · have l0 : L 0 = true := hdep _ rfl ⟨0, .data⟩ (by simp) (by rfl)
      have l1 : L 1 = true := hdep _ rfl ⟨1, .data⟩ (by simp) (by rfl)
      obtain ⟨rfl, o1, k1⟩ := h.a2 hLi l0 l1
      obtain ⟨X, rfl, k2, k3⟩ := k1
      refine wpOp_step rfl (fun K' hKK => ?_)
      refine step_appK 40 40 rfl (by rfl) _ _ (by rfl) (by rfl) (X := X) (by rfl) o1 (Lit1.cell ⟨X, rfl, k2, k3⟩) hla.out.1 hB2 ?_
      intro v2 w2 q1 q2
      exact hKK _ _ ⟨_, _, _, _, _, _, _, _, rfl, h.s2 hLi q1 q2⟩
    · have hP := h.p
      refine wpOp_step rfl (fun K' hKK => ?_)
      replace hKK := hide hKK
      split
      · refine wp_load_row 30 (.tmp 4) rfl w.heap.size rfl 30 (exC nd (.slice a len cap)) (0, 0) _ hP Tryd.underlying30 rfl (exC_info _ _) ?_
        exact hKK.out _ _ ⟨_, _, _, _, _, _, _, _, rfl, h.s3⟩
      · rename_i hw
        exact absurd rfl hw
    · have l2 : L 2 = true := hdep _ rfl ⟨2, .data⟩ (by simp) (by rfl)
      have l3 : L 3 = true := hdep _ rfl ⟨3, .data⟩ (by simp) (by rfl)
      obtain ⟨rfl, o1, g1⟩ := h.a4 hLi l2 l3
      refine wpOp_step rfl (fun K' hKK => ?_)
      refine step_callT (by rfl) 12 _ _ (by rfl) (enters Tryd.func12 (by kernel_rfl) (by kernel_rfl)) #[x13, exV nd (.slice a len cap)] (by first | rfl | (simp [Act.eval]; done)) (HT.out _ _ hlow2 o1) ?_
      rintro v2 w2 ⟨q1, q2⟩
      exact hKK _ _ ⟨_, _, _, _, _, _, _, _, rfl, h.s4 hLi l2 q1 q2⟩
    · refine wpOp_step rfl (fun K' hKK => ?_)
      replace hKK := hide hKK
      go_simp
      exact hKK.out _ _ ⟨_, _, _, _, _, _, _, _, rfl, h.s5 hB.out⟩
    · have l4 : L 4 = true := hdep _ rfl ⟨4, .data⟩ (by simp) (by rfl)
      have l5 : L 5 = true := hdep _ rfl ⟨5, .data⟩ (by simp) (by rfl)
      obtain ⟨o1, k1⟩ := h.a6 hLi l4 l5
      obtain ⟨X, rfl, k2, k3⟩ := k1
      refine wpOp_step rfl (fun K' hKK => ?_)
      refine step_appK 41 41 rfl (by rfl) _ _ (by rfl) (by rfl) (X := X) (by rfl) o1 (Lit1.cell ⟨X, rfl, k2, k3⟩) hla.out.2 hB2 ?_
      intro v2 w2 q1 q2
      exact hKK _ _ ⟨_, _, _, _, _, _, _, _, rfl, h.s6 hLi l4 q1 q2⟩
    · have l6 : L 6 = true := hdep _ rfl ⟨6, .data⟩ (by simp) (by rfl)
      refine wpOp_step rfl (fun K' hKK => ?_)
      replace hKK := hide hKK
      go_simp
      exact hKK.out _ _ ⟨_, _, _, _, _, _, _, _, rfl, h.s7 l6⟩
  intro L a₁ w₁ hall hI
  obtain ⟨x11, x12, x13, x14, x15, x16, x17, x6, ha, h⟩ := hI
  subst ha
  have l (j : Nat) (hj : j < 8) : L j = true := hall j hj
  obtain ⟨o1, g1, rfl⟩ := h.fin (l 2 (by decide)) (l 4 (by decide)) (l 6 (by decide)) (l 7 (by decide))
  replace o1 := hide o1
  replace g1 := hide g1
  clear h hla hn'
  go_wp2_with fail
  go_ret
  exact ⟨x6, rfl, by have := o1.out; simpa using this, g1.out⟩
theorem rfr_all (w0 : World) (t : Ex) (ho : t.nd.kind = 8 → 1 ≤ t.nd.op ∧ t.nd.op ≤ 12) (hT : TxIs w0 t) : FrIs w0 t := by
  intro v b n acc w ht hlow hown hlen
  by_cases hn : lv t.nd < n
  · exact rfr_lo w0 t ho hT v b n acc w hn ht hlow hown hlen
  · exact rfr_hi w0 t ho hT v b n acc w (by omega) ht hlow hown hlen
end Go.Proofs.YtbpogngnhhkjbaaDoor.T9
