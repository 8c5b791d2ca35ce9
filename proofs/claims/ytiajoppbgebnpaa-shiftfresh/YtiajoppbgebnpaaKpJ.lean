/- Law 10's Quiet.Keep: what each of its two drawn statements keeps whatever comes first: the row that grows, the field that is written. No Go in sight but its steps. Law 10's Quiet.Keep: its two drawn statements, each by itself. Proved of the Go text. Law 10's Quiet: Keep. Proved of the Go text. Law 10's Quiet.Keep: an answer and what it should be are kept. Proved of the Go text. Law 10's Quiet.Untouched: answers that nobody writes into are what they were. Proved of the Go text. -/
import Derived.Test.YtiajoppbgebnpaaBoJ
import Derived.Test.YtiajoppbgebnpaaRgInv
import Derived.Great.BuildSlice
import Derived.Deep.CutRange
import Derived.Test.YtiajoppbgebnpaaEq12
import Derived.Test.YtiajoppbgebnpaaMn12
namespace Go.Proofs.Ytiajoppbgebnpaa
open Go.RowKit Go.Sort
set_option linter.unusedVariables false

theorem lkK {L : Nat → Bool} {j k : Nat} (h : (if j = k then true else L j) = true) (hn : j ≠ k) : L j = true := by rwa [if_neg hn] at h
abbrev z14k : Array Value := #[.int .i64 0, .int .i64 0, .int .i64 0, .string { data := #[] }, .int .i64 0, .int .i64 0, .bool false, .bool false, .int .i64 0, .int .i64 0, .bool false, .bool false, .int .i64 0, .slice none 0 0]
theorem wp_buildToK {P : Program} {o : Oper} {a : Act} {w : World} {K : Act → World → Prop} {Q : Exit → Act → World → Prop} (t e : TypeId) (len : Nat) (parts : Array (Nat × Operand)) (ho : o.op = .buildSlice t len parts) (hu : P.underlying t = some (.slice e)) (cells : Array Value)
    (hf : P.builtSlice e len (parts.map fun (i, x) => (i, a.eval x)).toList = some cells) (h : K (a.put o.dst (.slice (some ⟨w.heap.size, 0, none⟩) len len)) (w.alloc (.cells cells e))) : o.wp P a w K Q := by
  unfold Program.builtSlice at hf
  cases hie : P.info? e with
  | none => simp [hie] at hf
  | some ie =>
    simp only [hie] at hf
    cases hz : ie.zero with
    | none => simp [hz] at hf
    | some z =>
      simp only [hz] at hf
      by_cases hc : len * ie.size > 2 ^ 24 ∨ len * ie.size = 0
      · simp [hc] at hf
      · rw [if_neg hc] at hf
        exact Go.wp_buildSlice t e len parts ho cells ie z hu hie hz (fun h' => hc (Or.inl h')) (fun h' => hc (Or.inr h')) hf h
section
variable {ops : Array Oper} {o : Oper} {a : Act} {w : World} {Kn : Act → World → Prop} {Q : Exit → Act → World → Prop} {E : Prop} {B X : Nat} {v : Value} {css : List (Array Value)}
theorem step_appK (hgd : o.guard = none) (s y : Operand) (ho : o.op = .call { callee := .builtin .append, args := #[s, y], argTypes := #[30, 30] })
    (hs : a.eval s = v) (hx : a.eval y = .slice (some ⟨X, 0, none⟩) 1 1) (hown : RowX w B v css) (hc : w.rangeAt X 0 z14k.toList) (hl : css.length < 1000000) (hB : B ≤ w.heap.size)
    (h : ∀ v' w', RowX w' B v' (css ++ [z14k]) → w.grownBy w' v.ownBlock → (v'.ownBlock = v.ownBlock ∨ v'.ownBlock = some w.heap.size) → Kn (a.put o.dst v') w') :
    if Region.wanted o (yielded ops a.tmps) = true then Oper.wp Try.prog o a w Kn Q else E := by
  have hw : Region.wanted o (yielded ops a.tmps) = true := by simp [Region.wanted, hgd]
  rw [if_pos hw]
  obtain ⟨v', w', hrun, r1, r2, r3⟩ := run_appX (n := nd0) (sa := none) (sl := 0) (sc := 0) o.type hown hc hl hB
  unfold Oper.wp
  simp [execOp, ho, resolve, invoke, builtin, hs, hx, hrun, Result.andThen]
  exact h v' w' r1 r2 r3
theorem step_storeK (hgd : o.guard = none) (x y : Operand) (ho : o.op = .store 37 x y) (g off : Nat) (hx : a.eval x = .pointer (some ⟨g, off, none⟩)) (n : Nd) (b : Option Addr) (l c : Nat) (hy : a.eval y = exV n (.slice b l c)) (ht : w.there g off 14)
    (h : Kn (a.put o.dst undef) (w.setCells g off (exC n (.slice b l c)).toList)) : if Region.wanted o (yielded ops a.tmps) = true then Oper.wp Try.prog o a w Kn Q else E := by
  have hw : Region.wanted o (yielded ops a.tmps) = true := by simp [Region.wanted, hgd]
  rw [if_pos hw]
  exact wp_store_mid 37 x y ho g off _ hx hy (by rw [exC_size]; exact ht) (exC_info _ _) (exC_one _ _ _ _) h
theorem step_loadK (hgd : o.guard = none) (x : Operand) (ho : o.op = .load 37 x) (g : Nat) (hx : a.eval x = .pointer (some ⟨g, 0, none⟩)) (n : Nd) (s : Value) (hg : Blk w g (exC n s) 37) (h : Kn (a.put o.dst (exV n s)) w) : if Region.wanted o (yielded ops a.tmps) = true then Oper.wp Try.prog o a w Kn Q else E := by
  have hw : Region.wanted o (yielded ops a.tmps) = true := by simp [Region.wanted, hgd]
  rw [if_pos hw]
  exact wp_load_row 37 x ho g hx _ _ _ _ hg Try.underlying37 rfl (exC_info _ _) h
end
/-- Cells written one behind the other. -/
def setMany : List Value → Nat → List Value → List Value
  | xs, _, [] => xs
  | xs, o, v :: r => setMany (xs.set o v) (o + 1) r
theorem setMany_end : ∀ (C A Z : List Value), Z.length = C.length → setMany (A ++ Z) A.length C = A ++ C
  | [], A, Z, h => by
    obtain rfl := List.eq_nil_of_length_eq_zero (by simpa using h)
    rfl
  | c :: C, A, Z, h => by
    cases Z with
    | nil => simp at h
    | cons z Z =>
      rw [setMany, List.set_append, if_neg (by omega), Nat.sub_self, List.set_cons_zero]
      have := setMany_end C (A ++ [c]) Z (by simpa using h)
      rw [List.length_append, List.length_singleton, List.append_assoc, List.append_assoc] at this
      exact this
theorem owns_setCells {B e z n g c : Nat} : ∀ (vs : List Value) (o : Nat) (w : World) (xs : List Value), w.ownsRow B e z (.slice (some ⟨g, 0, none⟩) n c) n xs → (w.setCells g o vs).ownsRow B e z (.slice (some ⟨g, 0, none⟩) n c) n (setMany xs o vs)
  | [], o, w, xs, h => h
  | v :: r, o, w, xs, h => by
    rw [World.setCells, setMany]
    exact owns_setCells r (o + 1) _ _ (World.ownsRow.stored h o v).1
theorem rowX_put {w : World} {B g k c : Nat} {css : List (Array Value)} {z cs : Array Value} (hz : z.toList.length = 14) (hc : cs.toList.length = 14) (h : RowX w B (.slice (some ⟨g, 0, none⟩) k c) (css ++ [z])) : RowX (w.setCells g (css.length * 14) cs.toList) B (.slice (some ⟨g, 0, none⟩) k c) (css ++ [cs]) := by
  obtain rfl : k = (css ++ [z]).length := by
    rcases h.2 with ⟨q, _⟩ | ⟨_, _, _, q, _⟩
    · cases q
    · cases q; rfl
  have hl : (flX css).length = css.length * 14 := by
    have := h.1
    rw [List.length_append, List.length_singleton] at this
    have e : flX (css ++ [z]) = flX css ++ z.toList := by simp [flX]
    rw [e, List.length_append, hz] at this
    omega
  have h2 := owns_setCells cs.toList (css.length * 14) w _ h
  have e : flX (css ++ [z]) = flX css ++ z.toList := by simp [flX]
  have e2 : flX (css ++ [cs]) = flX css ++ cs.toList := by simp [flX]
  rw [e, ← hl, setMany_end _ _ _ (by rw [hz, hc]), ← e2] at h2
  unfold RowX
  rw [show (css ++ [cs]).length = (css ++ [z]).length by simp, ← hl]
  exact h2
theorem rowX_there {w : World} {B g k c j : Nat} {css : List (Array Value)} (h : RowX w B (.slice (some ⟨g, 0, none⟩) k c) css) (hj : j < css.length) : w.there g (j * 14) 14 := by
  rcases h.2 with ⟨q, _⟩ | ⟨g', cap, cur, q, _, hg, hl, _, hz, _⟩
  · cases q
  · cases q
    exact there_of_row hg (by rw [hz]; omega)
/-- What is kept. -/
structure KpS (wb : World) (B q j X4 n vc : Nat) (va : Option Addr) (qc : Array Value) (css : List (Array Value)) (tn : Nd) (ta : Option Addr) (tl tc : Nat) (L : Nat → Bool) (w : World) (x18 x19 : Value) : Prop where
  o7 : L 7 = true → L 6 = true ∧ L 3 = true
  o8 : L 8 = true → L 7 = true
  o9 : L 9 = true → L 7 = true
  o12 : L 12 = true → L 7 = true
  pre : L 7 = false → Below wb.heap.size wb w
  b6 : L 6 = true → L 7 = false → ∃ X, x18 = .slice (some ⟨X, 0, none⟩) 1 1 ∧ w.rangeAt X 0 z14k.toList
  ap : L 7 = true → ∃ g c, x19 = .slice (some ⟨g, 0, none⟩) (n + 1) c ∧ RowX w B x19 (css ++ [if L 9 = true then exC tn (.slice ta tl tc) else z14k]) ∧ ((Value.slice va n vc).ownBlock = some g ∨ wb.heap.size ≤ g) ∧ Chg (fun x => (Value.slice va n vc).ownBlock = some x ∨ x = q) wb w
  qb : Blk w q (if L 12 = true then qc.setIfInBounds j x19 else qc) 32
  tb : Blk w X4 (exC tn (.slice ta tl tc)) 37
/-- What is asked ahead. -/
structure KpF (wb : World) (B q j X4 n vc : Nat) (va : Option Addr) (qc : Array Value) (css : List (Array Value)) (tn : Nd) (ta : Option Addr) (tl tc : Nat) : Prop where
  row : RowX wb B (.slice va n vc) css
  nn : n = css.length
  len : n < 900000
  low : B ≤ wb.heap.size
  qb : Blk wb q qc 32
  qj : qc[j]? = some (.slice va n vc)
  tb : Blk wb X4 (exC tn (.slice ta tl tc)) 37
  x4 : (Value.slice va n vc).ownBlock ≠ some X4
section
variable {wb w : World} {B q j X4 n vc : Nat} {va : Option Addr} {qc : Array Value} {css : List (Array Value)} {tn : Nd} {ta : Option Addr} {tl tc : Nat} {L : Nat → Bool} {x18 x19 : Value}
theorem KpS.start (F : KpF wb B q j X4 n vc va qc css tn ta tl tc) (hb : Below wb.heap.size wb w) (h : ∀ j, j < 13 → L j = false) (y18 y19 : Value) : KpS wb B q j X4 n vc va qc css tn ta tl tc L w y18 y19 := by
  have f : ∀ j, j < 13 → L j = true → False := fun j hj hq => by rw [h j hj] at hq; cases hq
  refine ⟨fun z => (f 7 (by decide) z).elim, fun z => (f 8 (by decide) z).elim, fun z => (f 9 (by decide) z).elim, fun z => (f 12 (by decide) z).elim, fun _ => hb, fun z => (f 6 (by decide) z).elim, fun z => (f 7 (by decide) z).elim, ?_, F.tb.keep hb⟩
  rw [if_neg (by rw [h 12 (by decide)]; decide)]
  exact F.qb.keep hb
theorem KpS.same (h : KpS wb B q j X4 n vc va qc css tn ta tl tc L w x18 x19) (i : Nat) (hi : i ≠ 6 ∧ i ≠ 7 ∧ i ≠ 9 ∧ i ≠ 12) (h8 : i = 8 → L 7 = true) : KpS wb B q j X4 n vc va qc css tn ta tl tc (fun k => if k = i then true else L k) w x18 x19 := by
  obtain ⟨a, b, c, d⟩ := hi
  have e6 : (if 6 = i then true else L 6) = L 6 := if_neg (fun h => a h.symm)
  have e7 : (if 7 = i then true else L 7) = L 7 := if_neg (fun h => b h.symm)
  have e9 : (if 9 = i then true else L 9) = L 9 := if_neg (fun h => c h.symm)
  have e12 : (if 12 = i then true else L 12) = L 12 := if_neg (fun h => d h.symm)
  refine ⟨by rw [e7, e6]; exact fun z => ⟨(h.o7 z).1, by by_cases e : 3 = i; rw [if_pos e]; rw [if_neg e]; exact (h.o7 z).2⟩, ?_, by rw [e9, e7]; exact h.o9, by rw [e12, e7]; exact h.o12, by rw [e7]; exact h.pre, by rw [e6, e7]; exact h.b6, by rw [e7, e9]; exact h.ap, by rw [e12]; exact h.qb, h.tb⟩
  rw [e7]
  intro z
  by_cases e : 8 = i
  · exact h8 e.symm
  · rw [if_neg e] at z; exact h.o8 z
theorem KpS.al (h : KpS wb B q j X4 n vc va qc css tn ta tl tc L w x18 x19) (h6 : L 6 = false) : KpS wb B q j X4 n vc va qc css tn ta tl tc (fun k => if k = 6 then true else L k) (w.alloc (.cells z14k 37)) (.slice (some ⟨w.heap.size, 0, none⟩) 1 1) x19 := by
  have h7 : L 7 = false := by cases z : L 7 with | false => rfl | true => have := (h.o7 z).1; rw [h6] at this; cases this
  have h12 : L 12 = false := by cases z : L 12 with | false => rfl | true => have := h.o12 z; rw [h7] at this; cases this
  have hst : Below w.heap.size w (w.alloc (.cells z14k 37)) := step (Below.refl _ _) _
  refine ⟨fun z => ⟨rfl, (h.o7 z).2⟩, h.o8, h.o9, h.o12, fun _ => next (h.pre h7) hst, fun _ _ => ⟨_, rfl, World.rangeAt_of_block (Blk.new w z14k 37) 0 14⟩, fun z => ?_, ?_, h.tb.keep hst⟩
  · have z' : L 7 = true := z; rw [h7] at z'; cases z'
  · have c := h.qb
    show Blk _ q (if L 12 = true then _ else _) _
    rw [if_neg (by rw [h12]; decide)] at c ⊢
    exact c.keep hst
theorem KpS.app (F : KpF wb B q j X4 n vc va qc css tn ta tl tc) (h : KpS wb B q j X4 n vc va qc css tn ta tl tc L w x18 x19) (h6 : L 6 = true) (h3 : L 3 = true) (h7 : L 7 = false) {v' : Value} {w' : World} (r1 : RowX w' B v' (css ++ [z14k])) (r2 : w.grownBy w' (Value.slice va n vc).ownBlock) (r3 : v'.ownBlock = (Value.slice va n vc).ownBlock ∨ v'.ownBlock = some w.heap.size) :
    KpS wb B q j X4 n vc va qc css tn ta tl tc (fun k => if k = 7 then true else L k) w' x18 v' := by
  have h9 : L 9 = false := by cases z : L 9 with | false => rfl | true => have := h.o9 z; rw [h7] at this; cases this
  have h12 : L 12 = false := by cases z : L 12 with | false => rfl | true => have := h.o12 z; rw [h7] at this; cases this
  have hpre := h.pre h7
  have hc := h.qb
  rw [if_neg (by rw [h12]; decide)] at hc
  have hrow : RowX w B (.slice va n vc) css := owns_keep F.row (fun x hx => hpre.block x (owns_lt F.row x hx).2)
  obtain ⟨g, c, e, hg⟩ : ∃ g c, v' = .slice (some ⟨g, 0, none⟩) (n + 1) c ∧ ((Value.slice va n vc).ownBlock = some g ∨ wb.heap.size ≤ g) := by
    rcases r1.2 with ⟨z, h0⟩ | ⟨g, cap, cur, z, _⟩
    · rw [List.length_append] at h0; simp at h0
    · refine ⟨g, cap, by rw [z, List.length_append, List.length_singleton, F.nn], ?_⟩
      rcases r3 with e | e
      · left; rw [← e, z]; rfl
      · right
        rw [z] at e
        have : g = w.heap.size := by simpa [Value.ownBlock] using e
        rw [this]; exact hpre.size
  refine ⟨fun _ => ⟨h6, h3⟩, fun _ => rfl, fun _ => rfl, fun _ => rfl, (fun z => by cases z), (fun _ z => by cases z), fun _ => ⟨g, c, e, ?_, hg, ?_⟩, ?_, ?_⟩
  · show RowX w' B v' (css ++ [if L 9 = true then _ else _])
    rw [if_neg (by rw [h9]; decide)]
    exact r1
  · exact (Chg.of_below hpre).trans ⟨r2.os, r2.tape, r2.output, r2.size, fun k hk hn => r2.block k hk (fun z => hn (.inl z.symm))⟩
  · show Blk w' q (if L 12 = true then _ else _) _
    rw [if_neg (by rw [h12]; decide)]
    exact (r2.block q hc.lt (fun z => owns_kind hrow hc (by decide) z.symm)).trans hc
  · exact (r2.block X4 h.tb.lt (fun z => F.x4 z.symm)).trans h.tb
theorem KpS.st9 {g c : Nat} (F : KpF wb B q j X4 n vc va qc css tn ta tl tc) (h : KpS wb B q j X4 n vc va qc css tn ta tl tc L w x18 (.slice (some ⟨g, 0, none⟩) (n + 1) c)) (h7 : L 7 = true) (h9 : L 9 = false) : KpS wb B q j X4 n vc va qc css tn ta tl tc (fun k => if k = 9 then true else L k) (w.setCells g (n * 14) (exC tn (.slice ta tl tc)).toList) x18 (.slice (some ⟨g, 0, none⟩) (n + 1) c) := by
  obtain ⟨g', c', e, r, hg, hc⟩ := h.ap h7
  cases e
  rw [if_neg (by rw [h9]; decide)] at r
  have hch : Chg (· = g) w (w.setCells g (n * 14) (exC tn (.slice ta tl tc)).toList) := chg_setCells (m := (· = g)) rfl _ _ _
  have hq : q ≠ g := fun z => by
    have := h.qb
    exact owns_kind r this (by decide) (by rw [z]; rfl)
  have h4 : X4 ≠ g := fun z => by
    rcases hg with e | e
    · exact F.x4 (by rw [e, z])
    · have := F.tb.lt; omega
  refine ⟨h.o7, h.o8, fun _ => h7, h.o12, (fun z => by (have z' : L 7 = false := z); rw [h7] at z'; cases z'), (fun _ z => by (have z' : L 7 = false := z); rw [h7] at z'; cases z'), fun _ => ⟨g, c, rfl, ?_, hg, ?_⟩, ?_, (hch.block X4 h.tb.lt h4).trans h.tb⟩
  · show RowX _ B _ (css ++ [if (if 9 = 9 then true else L 9) = true then _ else _])
    rw [if_pos (by simp), F.nn]
    rw [F.nn] at r
    exact rowX_put (by rfl) (exC_len _ _) r
  · refine ⟨hch.os.trans hc.os, hch.tape.trans hc.tape, hch.output.trans hc.output, Nat.le_trans hc.size hch.size, fun k hk hn => (hch.block k (Nat.lt_of_lt_of_le hk hc.size) (fun z => ?_)).trans (hc.block k hk hn)⟩
    rcases hg with e | e
    · exact hn (.inl (by rw [e, z]))
    · omega
  · exact (hch.block q h.qb.lt hq).trans h.qb
theorem KpS.st12 (h : KpS wb B q j X4 n vc va qc css tn ta tl tc L w x18 x19) (h7 : L 7 = true) (h12 : L 12 = false) (h4 : X4 ≠ q) : KpS wb B q j X4 n vc va qc css tn ta tl tc (fun k => if k = 12 then true else L k) (w.setCell ⟨q, j, none⟩ x19) x18 x19 := by
  obtain ⟨g, c, e, r, hg, hc⟩ := h.ap h7
  have hb := h.qb
  rw [if_neg (by rw [h12]; decide)] at hb
  have hch : Chg (· = q) w (w.setCell ⟨q, j, none⟩ x19) := chg_setCells (m := (· = q)) rfl [x19] j w
  refine ⟨h.o7, h.o8, h.o9, fun _ => h7, (fun z => by (have z' : L 7 = false := z); rw [h7] at z'; cases z'), (fun _ z => by (have z' : L 7 = false := z); rw [h7] at z'; cases z'), fun _ => ⟨g, c, e, owns_keep r (fun x hx => hch.block x (owns_lt r x hx).2 (fun z => owns_kind r hb (by decide) (by rw [hx, z]))), hg, hc.trans (hch.wide (fun x hx => .inr hx))⟩, ?_, (hch.block X4 h.tb.lt h4).trans h.tb⟩
  show Blk _ q (if (if 12 = 12 then true else L 12) = true then _ else _) _
  rw [if_pos (by simp)]
  exact hb.set j x19
end
end Go.Proofs.Ytiajoppbgebnpaa
namespace Go.Proofs.Ytiajoppbgebnpaa
open Go.RowKit Go.Sort
set_option linter.unusedVariables false

def d1k : Code → Code
  | .seq a _ => a
  | .cond _ a _ => a
  | .block _ b => b
  | .loop b => b
  | c => c
def d2k : Code → Code
  | .seq _ b => b
  | .cond _ _ b => b
  | c => c
def rk2 (c : Code) : Code := (d1k (d1k (d2k (d2k c))))
set_option maxHeartbeats 4000000 in
set_option maxRecDepth 100000 in
theorem kq2 {wb : World} {B q X4 n vc : Nat} {va : Option Addr} {qc : Array Value} {css : List (Array Value)} {tn : Nd} {ta : Option Addr} {tl tc : Nat} (hF : Hid (KpF wb B q 0 X4 n vc va qc css tn ta tl tc)) (hX4q : Hid (X4 ≠ q))
    {Q : Exit → Act → World → Prop} {u1 u2 u3 u5 u6 u7 u8 u9 u10 u11 u12 u13 u14 u15 u16 u17 u18 u19 u20 u21 u22 u23 u24 u25 u26 u27 u28 u29 u30 u31 u32 u33 : Value}
    (hQ : ∀ (g c : Nat) (y6 y8 : Value) (w' : World), RowX w' B (.slice (some ⟨g, 0, none⟩) (n + 1) c) (css ++ [exC tn (.slice ta tl tc)]) → ((Value.slice va n vc).ownBlock = some g ∨ wb.heap.size ≤ g) → Chg (fun x => (Value.slice va n vc).ownBlock = some x ∨ x = q) wb w' → Blk w' q (qc.setIfInBounds 0 (.slice (some ⟨g, 0, none⟩) (n + 1) c)) 32 → Q .normal ⟨#[.pointer (some ⟨q, 0, none⟩), u1, u2, u3, .pointer (some ⟨X4, 0, none⟩), u5, u6, u7, u8, u9, u10, u11, .pointer (some ⟨q, 0, none⟩), .pointer (some ⟨q, 0, none⟩), .pointer (some ⟨q, 0, none⟩), .slice va n vc, exV tn (.slice ta tl tc), .int .i64 (n : Int), y6, .slice (some ⟨g, 0, none⟩) (n + 1) c, y8, .pointer (some ⟨q, 0, none⟩), .pointer (some ⟨q, 0, none⟩), u23, u24, u25, u26, u27, u28, u29, u30, u31, u32, u33], []⟩ w') :
    (rk2 (Try.f9.body.getD .skip)).wp Try.prog Q ⟨#[.pointer (some ⟨q, 0, none⟩), u1, u2, u3, .pointer (some ⟨X4, 0, none⟩), u5, u6, u7, u8, u9, u10, u11, u12, u13, u14, u15, u16, u17, u18, u19, u20, u21, u22, u23, u24, u25, u26, u27, u28, u29, u30, u31, u32, u33], []⟩ wb := by
  dsimp only [Try.f9, Option.getD, rk2, d1k, d2k]
  refine region_inv (fun (L : Nat → Bool) (a₁ : Act) (w₁ : World) => ∃ (x12 x13 x14 x15 x16 x17 x18 x19 x20 x21 x22 : Value), a₁ = ⟨#[.pointer (some ⟨q, 0, none⟩), u1, u2, u3, .pointer (some ⟨X4, 0, none⟩), u5, u6, u7, u8, u9, u10, u11, x12, x13, x14, x15, x16, x17, x18, x19, x20, x21, x22, u23, u24, u25, u26, u27, u28, u29, u30, u31, u32, u33], []⟩ ∧ KpS wb B q 0 X4 n vc va qc css tn ta tl tc L w₁ x18 x19 ∧ (L 0 = true → x12 = .pointer (some ⟨q, 0, none⟩)) ∧ (L 1 = true → x13 = .pointer (some ⟨q, 0, none⟩)) ∧ (L 2 = true → x14 = .pointer (some ⟨q, 0, none⟩)) ∧ (L 3 = true → x15 = .slice va n vc) ∧ (L 4 = true → x16 = exV tn (.slice ta tl tc)) ∧ (L 5 = true → x17 = .int .i64 (n : Int)) ∧ (L 8 = true → ∃ (g c : Nat), x19 = .slice (some ⟨g, 0, none⟩) (n + 1) c ∧ x20 = .pointer (some ⟨g, n * 14, none⟩)) ∧ (L 10 = true → x21 = .pointer (some ⟨q, 0, none⟩)) ∧ (L 11 = true → x22 = .pointer (some ⟨q, 0, none⟩))) (by kernel_rfl) (by kernel_rfl) ?_ ?_ ?_
  · exact ⟨_, _, _, _, _, _, _, _, _, _, _, rfl, KpS.start hF.out (Below.refl _ _).drew (fun j hj => by simp; omega) _ _, fun h => absurd h (by decide), fun h => absurd h (by decide), fun h => absurd h (by decide), fun h => absurd h (by decide), fun h => absurd h (by decide), fun h => absurd h (by decide), fun h => absurd h (by decide), fun h => absurd h (by decide), fun h => absurd h (by decide)⟩
  · intro i hi L a₁ w₁ hI hLi hdep
    obtain ⟨x12, x13, x14, x15, x16, x17, x18, x19, x20, x21, x22, ha, hS, hI⟩ := hI
    subst ha
    obtain ⟨f0, f1, f2, f3, f4, f5, f8, f10, f11⟩ := hI
    replace f0 := hide f0
    replace f1 := hide f1
    replace f2 := hide f2
    replace f3 := hide f3
    replace f4 := hide f4
    replace f5 := hide f5
    replace f8 := hide f8
    replace f10 := hide f10
    replace f11 := hide f11
    replace hS := hide hS
    have hiN : i < 13 := hi
    clear hi
    have hcases : i = 0 ∨ i = 1 ∨ i = 2 ∨ i = 3 ∨ i = 4 ∨ i = 5 ∨ i = 6 ∨ i = 7 ∨ i = 8 ∨ i = 9 ∨ i = 10 ∨ i = 11 ∨ i = 12 := (show ∀ i, i < 13 → (i = 0 ∨ i = 1 ∨ i = 2 ∨ i = 3 ∨ i = 4 ∨ i = 5 ∨ i = 6 ∨ i = 7 ∨ i = 8 ∨ i = 9 ∨ i = 10 ∨ i = 11 ∨ i = 12) by decide +kernel) i hiN
    clear hiN
    rcases hcases with rfl | rfl | rfl | rfl | rfl | rfl | rfl | rfl | rfl | rfl | rfl | rfl | rfl
    · clear hdep
      refine wpOp_step rfl (fun K' hKK => ?_)
      replace hKK := hide hKK
      go_simp
      refine hKK.out _ _ ?_
      exact ⟨_, _, _, _, _, _, _, _, _, _, _, rfl, hS.out.same 0 (by decide) (fun h => by omega), (fun _ => rfl), (fun h => f1.out (lkK h (by decide))), (fun h => f2.out (lkK h (by decide))), (fun h => f3.out (lkK h (by decide))), (fun h => f4.out (lkK h (by decide))), (fun h => f5.out (lkK h (by decide))), (fun h => f8.out (lkK h (by decide))), (fun h => f10.out (lkK h (by decide))), (fun h => f11.out (lkK h (by decide)))⟩
    · have l0 : L 0 = true := hdep _ rfl ⟨0, .data⟩ (by simp) (by rfl)
      clear hdep
      obtain rfl := f0.out l0
      refine wpOp_step rfl (fun K' hKK => ?_)
      replace hKK := hide hKK
      go_simp
      refine hKK.out _ _ ?_
      exact ⟨_, _, _, _, _, _, _, _, _, _, _, rfl, hS.out.same 1 (by decide) (fun h => by omega), (fun _ => rfl), (fun _ => rfl), (fun h => f2.out (lkK h (by decide))), (fun h => f3.out (lkK h (by decide))), (fun h => f4.out (lkK h (by decide))), (fun h => f5.out (lkK h (by decide))), (fun h => f8.out (lkK h (by decide))), (fun h => f10.out (lkK h (by decide))), (fun h => f11.out (lkK h (by decide)))⟩
    · have l1 : L 1 = true := hdep _ rfl ⟨1, .data⟩ (by simp) (by rfl)
      clear hdep
      obtain rfl := f1.out l1
      refine wpOp_step rfl (fun K' hKK => ?_)
      replace hKK := hide hKK
      go_simp
      refine hKK.out _ _ ?_
      exact ⟨_, _, _, _, _, _, _, _, _, _, _, rfl, hS.out.same 2 (by decide) (fun h => by omega), (fun h => f0.out (lkK h (by decide))), (fun _ => rfl), (fun _ => rfl), (fun h => f3.out (lkK h (by decide))), (fun h => f4.out (lkK h (by decide))), (fun h => f5.out (lkK h (by decide))), (fun h => f8.out (lkK h (by decide))), (fun h => f10.out (lkK h (by decide))), (fun h => f11.out (lkK h (by decide)))⟩
    · have l2 : L 2 = true := hdep _ rfl ⟨2, .data⟩ (by simp) (by rfl)
      clear hdep
      obtain rfl := f2.out l2
      have h7 : L 7 = false := by cases z : L 7 with | false => rfl | true => have := (hS.out.o7 z).2; rw [hLi] at this; cases this
      have hc : w₁.cell? ⟨q, 0, none⟩ = some (.slice va n vc) := ((hF.out.qb.keep (hS.out.pre h7)).at' 0).trans hF.out.qj
      refine wpOp_step rfl (fun K' hKK => ?_)
      replace hKK := hide hKK
      go_simp
      refine hKK.out _ _ ?_
      exact ⟨_, _, _, _, _, _, _, _, _, _, _, rfl, hS.out.same 3 (by decide) (fun h => by omega), (fun h => f0.out (lkK h (by decide))), (fun h => f1.out (lkK h (by decide))), (fun _ => rfl), (fun _ => rfl), (fun h => f4.out (lkK h (by decide))), (fun h => f5.out (lkK h (by decide))), (fun h => f8.out (lkK h (by decide))), (fun h => f10.out (lkK h (by decide))), (fun h => f11.out (lkK h (by decide)))⟩
    · clear hdep
      have hc := hS.out.tb
      refine wpOp_step rfl (fun K' hKK => ?_)
      replace hKK := hide hKK
      refine step_loadK (by rfl) _ rfl X4 rfl tn _ hc ?_
      try go_simp
      refine hKK.out _ _ ?_
      exact ⟨_, _, _, _, _, _, _, _, _, _, _, rfl, hS.out.same 4 (by decide) (fun h => by omega), (fun h => f0.out (lkK h (by decide))), (fun h => f1.out (lkK h (by decide))), (fun h => f2.out (lkK h (by decide))), (fun h => f3.out (lkK h (by decide))), (fun _ => rfl), (fun h => f5.out (lkK h (by decide))), (fun h => f8.out (lkK h (by decide))), (fun h => f10.out (lkK h (by decide))), (fun h => f11.out (lkK h (by decide)))⟩
    · have l3 : L 3 = true := hdep _ rfl ⟨3, .data⟩ (by simp) (by rfl)
      clear hdep
      obtain rfl := f3.out l3
      have hnn := hF.out.len
      refine wpOp_step rfl (fun K' hKK => ?_)
      replace hKK := hide hKK
      go_simp
      refine hKK.out _ _ ?_
      exact ⟨_, _, _, _, _, _, _, _, _, _, _, rfl, hS.out.same 5 (by decide) (fun h => by omega), (fun h => f0.out (lkK h (by decide))), (fun h => f1.out (lkK h (by decide))), (fun h => f2.out (lkK h (by decide))), (fun _ => rfl), (fun h => f4.out (lkK h (by decide))), (fun _ => rfl), (fun h => f8.out (lkK h (by decide))), (fun h => f10.out (lkK h (by decide))), (fun h => f11.out (lkK h (by decide)))⟩
    · clear hdep
      refine wpOp_step rfl (fun K' hKK => ?_)
      replace hKK := hide hKK
      split
      · refine wp_buildToK 30 37 1 _ rfl Try.underlying30 z14k (by kernel_rfl) ?_
        try go_simp
        refine hKK.out _ _ ?_
        exact ⟨_, _, _, _, _, _, _, _, _, _, _, rfl, hS.out.al hLi, (fun h => f0.out (lkK h (by decide))), (fun h => f1.out (lkK h (by decide))), (fun h => f2.out (lkK h (by decide))), (fun h => f3.out (lkK h (by decide))), (fun h => f4.out (lkK h (by decide))), (fun h => f5.out (lkK h (by decide))), (fun h => f8.out (lkK h (by decide))), (fun h => f10.out (lkK h (by decide))), (fun h => f11.out (lkK h (by decide)))⟩
      · rename_i hw
        exact absurd rfl hw
    · have l3 : L 3 = true := hdep _ rfl ⟨3, .data⟩ (by simp) (by rfl)
      have l6 : L 6 = true := hdep _ rfl ⟨6, .data⟩ (by simp) (by rfl)
      clear hdep
      obtain rfl := f3.out l3
      obtain ⟨X, rfl, hX⟩ := hS.out.b6 l6 hLi
      have hpre := hS.out.pre hLi
      have hrw : RowX w₁ B (.slice va n vc) css := owns_keep hF.out.row (fun x hx => hpre.block x (owns_lt hF.out.row x hx).2)
      refine wpOp_step rfl (fun K' hKK => ?_)
      replace hKK := hide hKK
      refine step_appK (v := .slice va n vc) (X := X) (by rfl) _ _ rfl rfl rfl hrw hX (by have := hF.out.len; have := hF.out.nn; omega) (Nat.le_trans hF.out.low hpre.size) ?_
      intro v' w' r1 r2 r3
      try go_simp
      refine hKK.out _ _ ?_
      exact ⟨_, _, _, _, _, _, _, _, _, _, _, rfl, hS.out.app hF.out l6 l3 hLi r1 r2 r3, (fun h => f0.out (lkK h (by decide))), (fun h => f1.out (lkK h (by decide))), (fun h => f2.out (lkK h (by decide))), (fun _ => rfl), (fun h => f4.out (lkK h (by decide))), (fun h => f5.out (lkK h (by decide))), (fun h => absurd (hS.out.o8 (lkK h (by decide))) (by rw [hLi]; decide)), (fun h => f10.out (lkK h (by decide))), (fun h => f11.out (lkK h (by decide)))⟩
    · have l7 : L 7 = true := hdep _ rfl ⟨7, .data⟩ (by simp) (by rfl)
      have l5 : L 5 = true := hdep _ rfl ⟨5, .data⟩ (by simp) (by rfl)
      clear hdep
      obtain rfl := f5.out l5
      obtain ⟨g, c, rfl, hrw, _, _⟩ := hS.out.ap l7
      have hi1 : (n : Int) < ((n + 1 : Nat) : Int) := by omega
      have hi2 : (n : Int) < (n : Int) + 1 := by omega
      refine wpOp_step rfl (fun K' hKK => ?_)
      replace hKK := hide hKK
      go_simp
      refine hKK.out _ _ ?_
      exact ⟨_, _, _, _, _, _, _, _, _, _, _, rfl, hS.out.same 8 (by decide) (fun _ => l7), (fun h => f0.out (lkK h (by decide))), (fun h => f1.out (lkK h (by decide))), (fun h => f2.out (lkK h (by decide))), (fun h => f3.out (lkK h (by decide))), (fun h => f4.out (lkK h (by decide))), (fun _ => rfl), (fun _ => ⟨g, c, rfl, rfl⟩), (fun h => f10.out (lkK h (by decide))), (fun h => f11.out (lkK h (by decide)))⟩
    · have l8 : L 8 = true := hdep _ rfl ⟨8, .data⟩ (by simp) (by rfl)
      have l4 : L 4 = true := hdep _ rfl ⟨4, .data⟩ (by simp) (by rfl)
      clear hdep
      obtain rfl := f4.out l4
      obtain ⟨g, c, rfl, rfl⟩ := f8.out l8
      have l7 := hS.out.o8 l8
      obtain ⟨g', c', he, hrw, _, _⟩ := hS.out.ap l7
      cases he
      have hth := rowX_there (j := n) hrw (by have := hF.out.nn; rw [List.length_append, List.length_singleton]; omega)
      refine wpOp_step rfl (fun K' hKK => ?_)
      replace hKK := hide hKK
      refine step_storeK (by rfl) _ _ rfl g (n * 14) rfl tn ta tl tc rfl hth ?_
      try go_simp
      refine hKK.out _ _ ?_
      exact ⟨_, _, _, _, _, _, _, _, _, _, _, rfl, hS.out.st9 hF.out l7 hLi, (fun h => f0.out (lkK h (by decide))), (fun h => f1.out (lkK h (by decide))), (fun h => f2.out (lkK h (by decide))), (fun h => f3.out (lkK h (by decide))), (fun _ => rfl), (fun h => f5.out (lkK h (by decide))), (fun _ => ⟨g, c, rfl, rfl⟩), (fun h => f10.out (lkK h (by decide))), (fun h => f11.out (lkK h (by decide)))⟩
    · have l0 : L 0 = true := hdep _ rfl ⟨0, .data⟩ (by simp) (by rfl)
      clear hdep
      obtain rfl := f0.out l0
      refine wpOp_step rfl (fun K' hKK => ?_)
      replace hKK := hide hKK
      go_simp
      refine hKK.out _ _ ?_
      exact ⟨_, _, _, _, _, _, _, _, _, _, _, rfl, hS.out.same 10 (by decide) (fun h => by omega), (fun _ => rfl), (fun h => f1.out (lkK h (by decide))), (fun h => f2.out (lkK h (by decide))), (fun h => f3.out (lkK h (by decide))), (fun h => f4.out (lkK h (by decide))), (fun h => f5.out (lkK h (by decide))), (fun h => f8.out (lkK h (by decide))), (fun _ => rfl), (fun h => f11.out (lkK h (by decide)))⟩
    · have l10 : L 10 = true := hdep _ rfl ⟨10, .data⟩ (by simp) (by rfl)
      clear hdep
      obtain rfl := f10.out l10
      refine wpOp_step rfl (fun K' hKK => ?_)
      replace hKK := hide hKK
      go_simp
      refine hKK.out _ _ ?_
      exact ⟨_, _, _, _, _, _, _, _, _, _, _, rfl, hS.out.same 11 (by decide) (fun h => by omega), (fun h => f0.out (lkK h (by decide))), (fun h => f1.out (lkK h (by decide))), (fun h => f2.out (lkK h (by decide))), (fun h => f3.out (lkK h (by decide))), (fun h => f4.out (lkK h (by decide))), (fun h => f5.out (lkK h (by decide))), (fun h => f8.out (lkK h (by decide))), (fun _ => rfl), (fun _ => rfl)⟩
    · have l11 : L 11 = true := hdep _ rfl ⟨11, .data⟩ (by simp) (by rfl)
      have l7 : L 7 = true := hdep _ rfl ⟨7, .data⟩ (by simp) (by rfl)
      clear hdep
      obtain rfl := f11.out l11
      obtain ⟨g, c, rfl, _, _, _⟩ := hS.out.ap l7
      have hb := hS.out.qb
      rw [if_neg (by rw [hLi]; decide)] at hb
      have hc : w₁.cell? ⟨q, 0, none⟩ = some (.slice va n vc) := (hb.at' 0).trans hF.out.qj
      have hfr := hb.fr 0
      refine wpOp_step rfl (fun K' hKK => ?_)
      replace hKK := hide hKK
      go_simp
      refine hKK.out _ _ ?_
      exact ⟨_, _, _, _, _, _, _, _, _, _, _, rfl, hS.out.st12 l7 hLi hX4q.out, (fun h => f0.out (lkK h (by decide))), (fun h => f1.out (lkK h (by decide))), (fun h => f2.out (lkK h (by decide))), (fun h => f3.out (lkK h (by decide))), (fun h => f4.out (lkK h (by decide))), (fun h => f5.out (lkK h (by decide))), (fun h => f8.out (lkK h (by decide))), (fun h => f10.out (lkK h (by decide))), (fun _ => rfl)⟩
  intro L a₁ w₁ hall hI
  obtain ⟨x12, x13, x14, x15, x16, x17, x18, x19, x20, x21, x22, ha, hS, hI⟩ := hI
  subst ha
  obtain ⟨f0, f1, f2, f3, f4, f5, f8, f10, f11⟩ := hI
  obtain rfl := f0 (hall 0 (by decide))
  obtain rfl := f1 (hall 1 (by decide))
  obtain rfl := f2 (hall 2 (by decide))
  obtain rfl := f3 (hall 3 (by decide))
  obtain rfl := f4 (hall 4 (by decide))
  obtain rfl := f5 (hall 5 (by decide))
  obtain rfl := f10 (hall 10 (by decide))
  obtain rfl := f11 (hall 11 (by decide))
  obtain ⟨g, c, rfl, hr, hg, hch⟩ := hS.ap (hall 7 (by decide))
  obtain ⟨_, _, _, rfl⟩ := f8 (hall 8 (by decide))
  rw [if_pos (hall 9 (by decide))] at hr
  have hb := hS.qb
  rw [if_pos (hall 12 (by decide))] at hb
  exact hQ _ _ _ _ _ hr hg hch hb
def rk3 (c : Code) : Code := (d2k (d1k (d2k (d2k c))))
set_option maxHeartbeats 4000000 in
set_option maxRecDepth 100000 in
theorem kq3 {wb : World} {B q X4 n vc : Nat} {va : Option Addr} {qc : Array Value} {css : List (Array Value)} {tn : Nd} {ta : Option Addr} {tl tc : Nat} (hF : Hid (KpF wb B q 1 X4 n vc va qc css tn ta tl tc)) (hX4q : Hid (X4 ≠ q))
    {Q : Exit → Act → World → Prop} {u1 u2 u3 u4 u6 u7 u8 u9 u10 u11 u12 u13 u14 u15 u16 u17 u18 u19 u20 u21 u22 u23 u24 u25 u26 u27 u28 u29 u30 u31 u32 u33 : Value}
    (hQ : ∀ (g c : Nat) (y6 y8 : Value) (w' : World), RowX w' B (.slice (some ⟨g, 0, none⟩) (n + 1) c) (css ++ [exC tn (.slice ta tl tc)]) → ((Value.slice va n vc).ownBlock = some g ∨ wb.heap.size ≤ g) → Chg (fun x => (Value.slice va n vc).ownBlock = some x ∨ x = q) wb w' → Blk w' q (qc.setIfInBounds 1 (.slice (some ⟨g, 0, none⟩) (n + 1) c)) 32 → Q .normal ⟨#[.pointer (some ⟨q, 0, none⟩), u1, u2, u3, u4, .pointer (some ⟨X4, 0, none⟩), u6, u7, u8, u9, u10, u11, u12, u13, u14, u15, u16, u17, u18, u19, u20, u21, u22, .pointer (some ⟨q, 0, none⟩), .pointer (some ⟨q, 0, none⟩), .pointer (some ⟨q, 1, none⟩), .slice va n vc, exV tn (.slice ta tl tc), .int .i64 (n : Int), y6, .slice (some ⟨g, 0, none⟩) (n + 1) c, y8, .pointer (some ⟨q, 0, none⟩), .pointer (some ⟨q, 1, none⟩)], []⟩ w') :
    (rk3 (Try.f9.body.getD .skip)).wp Try.prog Q ⟨#[.pointer (some ⟨q, 0, none⟩), u1, u2, u3, u4, .pointer (some ⟨X4, 0, none⟩), u6, u7, u8, u9, u10, u11, u12, u13, u14, u15, u16, u17, u18, u19, u20, u21, u22, u23, u24, u25, u26, u27, u28, u29, u30, u31, u32, u33], []⟩ wb := by
  dsimp only [Try.f9, Option.getD, rk3, d1k, d2k]
  refine region_inv (fun (L : Nat → Bool) (a₁ : Act) (w₁ : World) => ∃ (x23 x24 x25 x26 x27 x28 x29 x30 x31 x32 x33 : Value), a₁ = ⟨#[.pointer (some ⟨q, 0, none⟩), u1, u2, u3, u4, .pointer (some ⟨X4, 0, none⟩), u6, u7, u8, u9, u10, u11, u12, u13, u14, u15, u16, u17, u18, u19, u20, u21, u22, x23, x24, x25, x26, x27, x28, x29, x30, x31, x32, x33], []⟩ ∧ KpS wb B q 1 X4 n vc va qc css tn ta tl tc L w₁ x29 x30 ∧ (L 0 = true → x23 = .pointer (some ⟨q, 0, none⟩)) ∧ (L 1 = true → x24 = .pointer (some ⟨q, 0, none⟩)) ∧ (L 2 = true → x25 = .pointer (some ⟨q, 1, none⟩)) ∧ (L 3 = true → x26 = .slice va n vc) ∧ (L 4 = true → x27 = exV tn (.slice ta tl tc)) ∧ (L 5 = true → x28 = .int .i64 (n : Int)) ∧ (L 8 = true → ∃ (g c : Nat), x30 = .slice (some ⟨g, 0, none⟩) (n + 1) c ∧ x31 = .pointer (some ⟨g, n * 14, none⟩)) ∧ (L 10 = true → x32 = .pointer (some ⟨q, 0, none⟩)) ∧ (L 11 = true → x33 = .pointer (some ⟨q, 1, none⟩))) (by kernel_rfl) (by kernel_rfl) ?_ ?_ ?_
  · exact ⟨_, _, _, _, _, _, _, _, _, _, _, rfl, KpS.start hF.out (Below.refl _ _).drew (fun j hj => by simp; omega) _ _, fun h => absurd h (by decide), fun h => absurd h (by decide), fun h => absurd h (by decide), fun h => absurd h (by decide), fun h => absurd h (by decide), fun h => absurd h (by decide), fun h => absurd h (by decide), fun h => absurd h (by decide), fun h => absurd h (by decide)⟩
  · intro i hi L a₁ w₁ hI hLi hdep
    obtain ⟨x23, x24, x25, x26, x27, x28, x29, x30, x31, x32, x33, ha, hS, hI⟩ := hI
    subst ha
    obtain ⟨f0, f1, f2, f3, f4, f5, f8, f10, f11⟩ := hI
    replace f0 := hide f0
    replace f1 := hide f1
    replace f2 := hide f2
    replace f3 := hide f3
    replace f4 := hide f4
    replace f5 := hide f5
    replace f8 := hide f8
    replace f10 := hide f10
    replace f11 := hide f11
    replace hS := hide hS
    have hiN : i < 13 := hi
    clear hi
    have hcases : i = 0 ∨ i = 1 ∨ i = 2 ∨ i = 3 ∨ i = 4 ∨ i = 5 ∨ i = 6 ∨ i = 7 ∨ i = 8 ∨ i = 9 ∨ i = 10 ∨ i = 11 ∨ i = 12 := (show ∀ i, i < 13 → (i = 0 ∨ i = 1 ∨ i = 2 ∨ i = 3 ∨ i = 4 ∨ i = 5 ∨ i = 6 ∨ i = 7 ∨ i = 8 ∨ i = 9 ∨ i = 10 ∨ i = 11 ∨ i = 12) by decide +kernel) i hiN
    clear hiN
    rcases hcases with rfl | rfl | rfl | rfl | rfl | rfl | rfl | rfl | rfl | rfl | rfl | rfl | rfl
    · clear hdep
      refine wpOp_step rfl (fun K' hKK => ?_)
      replace hKK := hide hKK
      go_simp
      refine hKK.out _ _ ?_
      exact ⟨_, _, _, _, _, _, _, _, _, _, _, rfl, hS.out.same 0 (by decide) (fun h => by omega), (fun _ => rfl), (fun h => f1.out (lkK h (by decide))), (fun h => f2.out (lkK h (by decide))), (fun h => f3.out (lkK h (by decide))), (fun h => f4.out (lkK h (by decide))), (fun h => f5.out (lkK h (by decide))), (fun h => f8.out (lkK h (by decide))), (fun h => f10.out (lkK h (by decide))), (fun h => f11.out (lkK h (by decide)))⟩
    · have l0 : L 0 = true := hdep _ rfl ⟨0, .data⟩ (by simp) (by rfl)
      clear hdep
      obtain rfl := f0.out l0
      refine wpOp_step rfl (fun K' hKK => ?_)
      replace hKK := hide hKK
      go_simp
      refine hKK.out _ _ ?_
      exact ⟨_, _, _, _, _, _, _, _, _, _, _, rfl, hS.out.same 1 (by decide) (fun h => by omega), (fun _ => rfl), (fun _ => rfl), (fun h => f2.out (lkK h (by decide))), (fun h => f3.out (lkK h (by decide))), (fun h => f4.out (lkK h (by decide))), (fun h => f5.out (lkK h (by decide))), (fun h => f8.out (lkK h (by decide))), (fun h => f10.out (lkK h (by decide))), (fun h => f11.out (lkK h (by decide)))⟩
    · have l1 : L 1 = true := hdep _ rfl ⟨1, .data⟩ (by simp) (by rfl)
      clear hdep
      obtain rfl := f1.out l1
      refine wpOp_step rfl (fun K' hKK => ?_)
      replace hKK := hide hKK
      go_simp
      refine hKK.out _ _ ?_
      exact ⟨_, _, _, _, _, _, _, _, _, _, _, rfl, hS.out.same 2 (by decide) (fun h => by omega), (fun h => f0.out (lkK h (by decide))), (fun _ => rfl), (fun _ => rfl), (fun h => f3.out (lkK h (by decide))), (fun h => f4.out (lkK h (by decide))), (fun h => f5.out (lkK h (by decide))), (fun h => f8.out (lkK h (by decide))), (fun h => f10.out (lkK h (by decide))), (fun h => f11.out (lkK h (by decide)))⟩
    · have l2 : L 2 = true := hdep _ rfl ⟨2, .data⟩ (by simp) (by rfl)
      clear hdep
      obtain rfl := f2.out l2
      have h7 : L 7 = false := by cases z : L 7 with | false => rfl | true => have := (hS.out.o7 z).2; rw [hLi] at this; cases this
      have hc : w₁.cell? ⟨q, 1, none⟩ = some (.slice va n vc) := ((hF.out.qb.keep (hS.out.pre h7)).at' 1).trans hF.out.qj
      refine wpOp_step rfl (fun K' hKK => ?_)
      replace hKK := hide hKK
      go_simp
      refine hKK.out _ _ ?_
      exact ⟨_, _, _, _, _, _, _, _, _, _, _, rfl, hS.out.same 3 (by decide) (fun h => by omega), (fun h => f0.out (lkK h (by decide))), (fun h => f1.out (lkK h (by decide))), (fun _ => rfl), (fun _ => rfl), (fun h => f4.out (lkK h (by decide))), (fun h => f5.out (lkK h (by decide))), (fun h => f8.out (lkK h (by decide))), (fun h => f10.out (lkK h (by decide))), (fun h => f11.out (lkK h (by decide)))⟩
    · clear hdep
      have hc := hS.out.tb
      refine wpOp_step rfl (fun K' hKK => ?_)
      replace hKK := hide hKK
      refine step_loadK (by rfl) _ rfl X4 rfl tn _ hc ?_
      try go_simp
      refine hKK.out _ _ ?_
      exact ⟨_, _, _, _, _, _, _, _, _, _, _, rfl, hS.out.same 4 (by decide) (fun h => by omega), (fun h => f0.out (lkK h (by decide))), (fun h => f1.out (lkK h (by decide))), (fun h => f2.out (lkK h (by decide))), (fun h => f3.out (lkK h (by decide))), (fun _ => rfl), (fun h => f5.out (lkK h (by decide))), (fun h => f8.out (lkK h (by decide))), (fun h => f10.out (lkK h (by decide))), (fun h => f11.out (lkK h (by decide)))⟩
    · have l3 : L 3 = true := hdep _ rfl ⟨3, .data⟩ (by simp) (by rfl)
      clear hdep
      obtain rfl := f3.out l3
      have hnn := hF.out.len
      refine wpOp_step rfl (fun K' hKK => ?_)
      replace hKK := hide hKK
      go_simp
      refine hKK.out _ _ ?_
      exact ⟨_, _, _, _, _, _, _, _, _, _, _, rfl, hS.out.same 5 (by decide) (fun h => by omega), (fun h => f0.out (lkK h (by decide))), (fun h => f1.out (lkK h (by decide))), (fun h => f2.out (lkK h (by decide))), (fun _ => rfl), (fun h => f4.out (lkK h (by decide))), (fun _ => rfl), (fun h => f8.out (lkK h (by decide))), (fun h => f10.out (lkK h (by decide))), (fun h => f11.out (lkK h (by decide)))⟩
    · clear hdep
      refine wpOp_step rfl (fun K' hKK => ?_)
      replace hKK := hide hKK
      split
      · refine wp_buildToK 30 37 1 _ rfl Try.underlying30 z14k (by kernel_rfl) ?_
        try go_simp
        refine hKK.out _ _ ?_
        exact ⟨_, _, _, _, _, _, _, _, _, _, _, rfl, hS.out.al hLi, (fun h => f0.out (lkK h (by decide))), (fun h => f1.out (lkK h (by decide))), (fun h => f2.out (lkK h (by decide))), (fun h => f3.out (lkK h (by decide))), (fun h => f4.out (lkK h (by decide))), (fun h => f5.out (lkK h (by decide))), (fun h => f8.out (lkK h (by decide))), (fun h => f10.out (lkK h (by decide))), (fun h => f11.out (lkK h (by decide)))⟩
      · rename_i hw
        exact absurd rfl hw
    · have l3 : L 3 = true := hdep _ rfl ⟨3, .data⟩ (by simp) (by rfl)
      have l6 : L 6 = true := hdep _ rfl ⟨6, .data⟩ (by simp) (by rfl)
      clear hdep
      obtain rfl := f3.out l3
      obtain ⟨X, rfl, hX⟩ := hS.out.b6 l6 hLi
      have hpre := hS.out.pre hLi
      have hrw : RowX w₁ B (.slice va n vc) css := owns_keep hF.out.row (fun x hx => hpre.block x (owns_lt hF.out.row x hx).2)
      refine wpOp_step rfl (fun K' hKK => ?_)
      replace hKK := hide hKK
      refine step_appK (v := .slice va n vc) (X := X) (by rfl) _ _ rfl rfl rfl hrw hX (by have := hF.out.len; have := hF.out.nn; omega) (Nat.le_trans hF.out.low hpre.size) ?_
      intro v' w' r1 r2 r3
      try go_simp
      refine hKK.out _ _ ?_
      exact ⟨_, _, _, _, _, _, _, _, _, _, _, rfl, hS.out.app hF.out l6 l3 hLi r1 r2 r3, (fun h => f0.out (lkK h (by decide))), (fun h => f1.out (lkK h (by decide))), (fun h => f2.out (lkK h (by decide))), (fun _ => rfl), (fun h => f4.out (lkK h (by decide))), (fun h => f5.out (lkK h (by decide))), (fun h => absurd (hS.out.o8 (lkK h (by decide))) (by rw [hLi]; decide)), (fun h => f10.out (lkK h (by decide))), (fun h => f11.out (lkK h (by decide)))⟩
    · have l7 : L 7 = true := hdep _ rfl ⟨7, .data⟩ (by simp) (by rfl)
      have l5 : L 5 = true := hdep _ rfl ⟨5, .data⟩ (by simp) (by rfl)
      clear hdep
      obtain rfl := f5.out l5
      obtain ⟨g, c, rfl, hrw, _, _⟩ := hS.out.ap l7
      have hi1 : (n : Int) < ((n + 1 : Nat) : Int) := by omega
      have hi2 : (n : Int) < (n : Int) + 1 := by omega
      refine wpOp_step rfl (fun K' hKK => ?_)
      replace hKK := hide hKK
      go_simp
      refine hKK.out _ _ ?_
      exact ⟨_, _, _, _, _, _, _, _, _, _, _, rfl, hS.out.same 8 (by decide) (fun _ => l7), (fun h => f0.out (lkK h (by decide))), (fun h => f1.out (lkK h (by decide))), (fun h => f2.out (lkK h (by decide))), (fun h => f3.out (lkK h (by decide))), (fun h => f4.out (lkK h (by decide))), (fun _ => rfl), (fun _ => ⟨g, c, rfl, rfl⟩), (fun h => f10.out (lkK h (by decide))), (fun h => f11.out (lkK h (by decide)))⟩
    · have l8 : L 8 = true := hdep _ rfl ⟨8, .data⟩ (by simp) (by rfl)
      have l4 : L 4 = true := hdep _ rfl ⟨4, .data⟩ (by simp) (by rfl)
      clear hdep
      obtain rfl := f4.out l4
      obtain ⟨g, c, rfl, rfl⟩ := f8.out l8
      have l7 := hS.out.o8 l8
      obtain ⟨g', c', he, hrw, _, _⟩ := hS.out.ap l7
      cases he
      have hth := rowX_there (j := n) hrw (by have := hF.out.nn; rw [List.length_append, List.length_singleton]; omega)
      refine wpOp_step rfl (fun K' hKK => ?_)
      replace hKK := hide hKK
      refine step_storeK (by rfl) _ _ rfl g (n * 14) rfl tn ta tl tc rfl hth ?_
      try go_simp
      refine hKK.out _ _ ?_
      exact ⟨_, _, _, _, _, _, _, _, _, _, _, rfl, hS.out.st9 hF.out l7 hLi, (fun h => f0.out (lkK h (by decide))), (fun h => f1.out (lkK h (by decide))), (fun h => f2.out (lkK h (by decide))), (fun h => f3.out (lkK h (by decide))), (fun _ => rfl), (fun h => f5.out (lkK h (by decide))), (fun _ => ⟨g, c, rfl, rfl⟩), (fun h => f10.out (lkK h (by decide))), (fun h => f11.out (lkK h (by decide)))⟩
    · have l0 : L 0 = true := hdep _ rfl ⟨0, .data⟩ (by simp) (by rfl)
      clear hdep
      obtain rfl := f0.out l0
      refine wpOp_step rfl (fun K' hKK => ?_)
      replace hKK := hide hKK
      go_simp
      refine hKK.out _ _ ?_
      exact ⟨_, _, _, _, _, _, _, _, _, _, _, rfl, hS.out.same 10 (by decide) (fun h => by omega), (fun _ => rfl), (fun h => f1.out (lkK h (by decide))), (fun h => f2.out (lkK h (by decide))), (fun h => f3.out (lkK h (by decide))), (fun h => f4.out (lkK h (by decide))), (fun h => f5.out (lkK h (by decide))), (fun h => f8.out (lkK h (by decide))), (fun _ => rfl), (fun h => f11.out (lkK h (by decide)))⟩
    · have l10 : L 10 = true := hdep _ rfl ⟨10, .data⟩ (by simp) (by rfl)
      clear hdep
      obtain rfl := f10.out l10
      refine wpOp_step rfl (fun K' hKK => ?_)
      replace hKK := hide hKK
      go_simp
      refine hKK.out _ _ ?_
      exact ⟨_, _, _, _, _, _, _, _, _, _, _, rfl, hS.out.same 11 (by decide) (fun h => by omega), (fun h => f0.out (lkK h (by decide))), (fun h => f1.out (lkK h (by decide))), (fun h => f2.out (lkK h (by decide))), (fun h => f3.out (lkK h (by decide))), (fun h => f4.out (lkK h (by decide))), (fun h => f5.out (lkK h (by decide))), (fun h => f8.out (lkK h (by decide))), (fun _ => rfl), (fun _ => rfl)⟩
    · have l11 : L 11 = true := hdep _ rfl ⟨11, .data⟩ (by simp) (by rfl)
      have l7 : L 7 = true := hdep _ rfl ⟨7, .data⟩ (by simp) (by rfl)
      clear hdep
      obtain rfl := f11.out l11
      obtain ⟨g, c, rfl, _, _, _⟩ := hS.out.ap l7
      have hb := hS.out.qb
      rw [if_neg (by rw [hLi]; decide)] at hb
      have hc : w₁.cell? ⟨q, 1, none⟩ = some (.slice va n vc) := (hb.at' 1).trans hF.out.qj
      have hfr := hb.fr 1
      refine wpOp_step rfl (fun K' hKK => ?_)
      replace hKK := hide hKK
      go_simp
      refine hKK.out _ _ ?_
      exact ⟨_, _, _, _, _, _, _, _, _, _, _, rfl, hS.out.st12 l7 hLi hX4q.out, (fun h => f0.out (lkK h (by decide))), (fun h => f1.out (lkK h (by decide))), (fun h => f2.out (lkK h (by decide))), (fun h => f3.out (lkK h (by decide))), (fun h => f4.out (lkK h (by decide))), (fun h => f5.out (lkK h (by decide))), (fun h => f8.out (lkK h (by decide))), (fun h => f10.out (lkK h (by decide))), (fun _ => rfl)⟩
  intro L a₁ w₁ hall hI
  obtain ⟨x23, x24, x25, x26, x27, x28, x29, x30, x31, x32, x33, ha, hS, hI⟩ := hI
  subst ha
  obtain ⟨f0, f1, f2, f3, f4, f5, f8, f10, f11⟩ := hI
  obtain rfl := f0 (hall 0 (by decide))
  obtain rfl := f1 (hall 1 (by decide))
  obtain rfl := f2 (hall 2 (by decide))
  obtain rfl := f3 (hall 3 (by decide))
  obtain rfl := f4 (hall 4 (by decide))
  obtain rfl := f5 (hall 5 (by decide))
  obtain rfl := f10 (hall 10 (by decide))
  obtain rfl := f11 (hall 11 (by decide))
  obtain ⟨g, c, rfl, hr, hg, hch⟩ := hS.ap (hall 7 (by decide))
  obtain ⟨_, _, _, rfl⟩ := f8 (hall 8 (by decide))
  rw [if_pos (hall 9 (by decide))] at hr
  have hb := hS.qb
  rw [if_pos (hall 12 (by decide))] at hb
  exact hQ _ _ _ _ _ hr hg hch hb
end Go.Proofs.Ytiajoppbgebnpaa
namespace Go.Proofs.Ytiajoppbgebnpaa
open Go.RowKit Go.Sort
set_option linter.unusedVariables false

theorem len_sl9 {w : World} {B n c : Nat} {a : Option Addr} {css : List (Array Value)} (h : RowX w B (.slice a n c) css) : n = css.length := by
  rcases h.2 with ⟨q, h0⟩ | ⟨g, cap, cur, q, _⟩
  · cases q; exact h0.symm
  · cases q; rfl
/-- A Quiet: its block, its two rows. -/
structure QuAt (w : World) (B q : Nat) (vT vW : Value) (css wss : List (Array Value)) : Prop where
  blk : Blk w q #[vT, vW] 32
  ts : RowX w B vT css
  ws : RowX w B vW wss
  ne : ∀ x, vT.ownBlock = some x → vW.ownBlock ≠ some x
  len : css.length = wss.length
theorem QuAt.chg {w w' : World} {B q : Nat} {vT vW : Value} {css wss : List (Array Value)} {m : Nat → Prop} (h : QuAt w B q vT vW css wss) (hc : Chg m w w') (h1 : ¬ m q) (h2 : ∀ x, vT.ownBlock = some x → ¬ m x) (h3 : ∀ x, vW.ownBlock = some x → ¬ m x) : QuAt w' B q vT vW css wss :=
  ⟨(hc.block q h.blk.lt h1).trans h.blk, owns_keep h.ts (fun x hx => hc.block x (owns_lt h.ts x hx).2 (h2 x hx)), owns_keep h.ws (fun x hx => hc.block x (owns_lt h.ws x hx).2 (h3 x hx)), h.ne, h.len⟩
theorem QuAt.below {w w' : World} {B q : Nat} {vT vW : Value} {css wss : List (Array Value)} (h : QuAt w B q vT vW css wss) (hb : Below w.heap.size w w') : QuAt w' B q vT vW css wss := h.chg (m := fun _ => False) (Chg.of_below hb) id (fun _ _ => id) (fun _ _ => id)
/-- What Keep leaves. -/
def KeepP (w w' : World) (B q : Nat) (vT vW : Value) (css wss : List (Array Value)) (ct cw : Array Value) : Prop :=
  ∃ vT' vW', QuAt w' B q vT' vW' (css ++ [ct]) (wss ++ [cw]) ∧ Chg (fun x => x = q ∨ vT.ownBlock = some x ∨ vW.ownBlock = some x) w w' ∧ (vT'.ownBlock = vT.ownBlock ∨ ∃ x, vT'.ownBlock = some x ∧ w.heap.size ≤ x) ∧ (vW'.ownBlock = vW.ownBlock ∨ ∃ x, vW'.ownBlock = some x ∧ w.heap.size ≤ x)
theorem own_new {w w' : World} {B g n c : Nat} {v : Value} {css css' : List (Array Value)} {m : Nat → Prop} (h : RowX w B v css) (hr : RowX w' B (.slice (some ⟨g, 0, none⟩) n c) css') (hg : v.ownBlock = some g ∨ w.heap.size ≤ g) : (Value.slice (some ⟨g, 0, none⟩) n c).ownBlock = v.ownBlock ∨ ∃ x, (Value.slice (some ⟨g, 0, none⟩) n c).ownBlock = some x ∧ w.heap.size ≤ x := by
  rcases hg with e | e
  · exact .inl e.symm
  · exact .inr ⟨g, rfl, e⟩
end Go.Proofs.Ytiajoppbgebnpaa
namespace Go.Proofs.Ytiajoppbgebnpaa
open Go.RowKit Go.Sort
set_option linter.unusedVariables false

set_option maxHeartbeats 4000000 in
set_option maxRecDepth 100000 in
theorem keep_any (w : World) (B q : Nat) (vT vW : Value) (css wss : List (Array Value)) (tn wn : Nd) (ta wa : Option Addr) (tl tc wl wc : Nat) (hq : QuAt w B q vT vW css wss) (hl : css.length < 2000) (hB : B ≤ w.heap.size) :
    Calls Try.prog 9 #[.pointer (some ⟨q, 0, none⟩), exV tn (.slice ta tl tc), exV wn (.slice wa wl wc)] w fun e w' => e = .returned (.tuple #[]) ∧ KeepP w w' B q vT vW css wss (exC tn (.slice ta tl tc)) (exC wn (.slice wa wl wc)) := by
  obtain ⟨aT, nT, cT, rfl⟩ := owns_shape9 hq.ts
  obtain ⟨aW, nW, cW, rfl⟩ := owns_shape9 hq.ws
  have hnT : nT = css.length := len_sl9 hq.ts
  have hnW : nW = wss.length := len_sl9 hq.ws
  have hb2 := step (step (Below.refl w.heap.size w) (exO tn (.slice ta tl tc))) (exO wn (.slice wa wl wc))
  have hq2 := hide (hq.below hb2)
  have X4 := hide ((Blk.new w (exC tn (.slice ta tl tc)) 37).alloc (exO wn (.slice wa wl wc)))
  have X5 := hide (Blk.new1 w (exO tn (.slice ta tl tc)) (exC wn (.slice wa wl wc)) 37)
  have hz : Hid (((w.alloc (exO tn (.slice ta tl tc))).alloc (exO wn (.slice wa wl wc))).heap.size = w.heap.size + 1 + 1) := hide (by simp)
  have hqw := hide hq
  have hl2 : (nT : Int) < 2000 := by omega
  have HnT := hide hnT
  have HnW := hide hnW
  replace hl := hide hl
  obtain ⟨w2, hw2⟩ : ∃ w2, (w.alloc (exO tn (.slice ta tl tc))).alloc (exO wn (.slice wa wl wc)) = w2 := ⟨_, rfl⟩
  rw [hw2] at hb2 hq2 X4 X5 hz
  have e0 : w2.cell? ⟨q, 0, none⟩ = some (.slice aT nT cT) := hq2.out.blk.at' 0
  have HB2 := hide hb2
  have hF2 : Hid (KpF w2 B q 0 w.heap.size nT cT aT #[.slice aT nT cT, .slice aW nW cW] css tn ta tl tc) := hide ⟨hq2.out.ts, hnT, by have := hl.out; omega, Nat.le_trans hB hb2.size, hq2.out.blk, rfl, X4.out, fun e => by have := (owns_lt hq.ts _ e).2; omega⟩
  have hne4 : Hid (w.heap.size ≠ q) := hide (by have := hq.blk.lt; omega)
  have hne5 : Hid (w.heap.size + 1 ≠ q) := hide (by have := hq.blk.lt; omega)
  clear hb2 hnT hnW hq
  go_enter Try.func9, Try.ntmps9
  try simp only [hw2]
  go_upto_region 2 with fail
  try simp only [hw2]
  refine kq2 hF2 hne4 ?_
  intro g c y6 y8 w3 hr hg hch hb
  have hz2 : w2.heap.size ≤ w3.heap.size := hch.size
  have hw3 : RowX w3 B (.slice aW nW cW) wss := owns_keep hq2.out.ws (fun x hx => hch.block x (owns_lt hq2.out.ws x hx).2 (fun e => by
    rcases e with e | e
    · exact hq2.out.ne x e hx
    · exact owns_kind hq2.out.ws hq2.out.blk (by decide) (by rw [hx, e])))
  have x5 : Blk w3 (w.heap.size + 1) (exC wn (.slice wa wl wc)) 37 := (hch.block _ X5.out.lt (fun e => by
    rcases e with e | e
    · have := (owns_lt hqw.out.ts _ e).2; omega
    · exact hne5.out e)).trans X5.out
  have hF3 : Hid (KpF w3 B q 1 (w.heap.size + 1) nW cW aW #[.slice (some ⟨g, 0, none⟩) (nT + 1) c, .slice aW nW cW] wss wn wa wl wc) := hide ⟨hw3, HnW.out, by have := hl.out; have := HnW.out; have := hqw.out.len; omega, Nat.le_trans hB (Nat.le_trans HB2.out.size hz2), hb, rfl, x5, fun e => by have := (owns_lt hqw.out.ws _ e).2; omega⟩
  have QB3 := hide hb
  have R3 := hide hr
  have G3 := hide hg
  have C3 := hide hch
  clear hr hg hch hb hw3 x5 hF2 X4
  go_upto_region 3 with fail
  refine kq3 hF3 hne5 ?_
  intro g2 c2 y6' y8' w4 hr hg hch hb
  go_wp2_with fail
  refine Go.Great.bodyPost_end0 rfl rfl ?_
  refine ⟨rfl, _, _, ⟨hb, owns_keep R3.out (fun x hx => hch.block x (owns_lt R3.out x hx).2 (fun e => ?_)), hr, fun x hx e => ?_, by rw [List.length_append, List.length_append, hqw.out.len]; rfl⟩, ?_, ?_, ?_⟩
  · have hgx : g = x := by simpa [Value.ownBlock] using hx
    rcases e with e | e
    · rcases G3.out with z | z
      · exact hqw.out.ne x (by rw [z, hgx]) e
      · have := (owns_lt hqw.out.ws x e).2
        have := hz.out
        omega
    · exact owns_kind R3.out QB3.out (by decide) (by rw [hx, e])
  · have hgx : g = x := by simpa [Value.ownBlock] using hx
    have hgy : g2 = x := by simpa [Value.ownBlock] using e
    have hlt := (owns_lt R3.out x hx).2
    rcases hg with z | z
    · rcases G3.out with y | y
      · exact hqw.out.ne x (by rw [y, hgx]) (by rw [z, hgy])
      · have := (owns_lt hqw.out.ws g2 z).2
        have := hz.out
        omega
    · omega
  · refine (Chg.of_below HB2.out).trans ((C3.out.wide (fun x hx => ?_)).trans (hch.wide (fun x hx => ?_)))
    · rcases hx with e | e
      · exact .inr (.inl e)
      · exact .inl e
    · rcases hx with e | e
      · exact .inr (.inr e)
      · exact .inl e
  · rcases G3.out with z | z
    · exact .inl z.symm
    · exact .inr ⟨g, rfl, Nat.le_trans HB2.out.size z⟩
  · rcases hg with z | z
    · exact .inl z.symm
    · exact .inr ⟨g2, rfl, Nat.le_trans HB2.out.size (Nat.le_trans hz2 z)⟩
end Go.Proofs.Ytiajoppbgebnpaa
namespace Go.Proofs.Ytiajoppbgebnpaa
open Go.RowKit Go.Sort
set_option linter.unusedVariables false

theorem rowX_at {w : World} {B g n c : Nat} {css : List (Array Value)} (h : RowX w B (.slice (some ⟨g, 0, none⟩) n c) css) (hz : ∀ cs ∈ css, cs.toList.length = 14) (j : Nat) (cs : Array Value) (hj : css[j]? = some cs) : w.rangeAt g (j * 14) cs.toList := by
  intro k v hv
  have hf : ∀ (l : List (Array Value)), (∀ cs ∈ l, cs.toList.length = 14) → ∀ (j : Nat) (cs : Array Value), l[j]? = some cs → cs.toList[k]? = some v → (flX l)[j * 14 + k]? = some v := by
    intro l
    induction l with
    | nil => intro _ j cs h; simp at h
    | cons x r ih =>
      intro hz j cs hj hv
      have hx := hz x (List.mem_cons_self ..)
      have e : flX (x :: r) = x.toList ++ flX r := rfl
      cases j with
      | zero =>
        have : x = cs := by simpa using hj
        subst this
        rw [e, Nat.zero_mul, Nat.zero_add, List.getElem?_append_left (List.getElem?_eq_some_iff.1 hv).1]
        exact hv
      | succ j =>
        rw [e, List.getElem?_append_right (by omega), hx, show (j + 1) * 14 + k - 14 = j * 14 + k by omega]
        exact ih (fun c hc => hz c (List.mem_cons_of_mem _ hc)) j cs (by simpa using hj) hv
  have := World.ownsRow.cells h (g := g) rfl (j * 14 + k) v (hf css hz j cs hj hv)
  rwa [show (⟨g, 0, none⟩ : Addr).add (j * 14 + k) = ⟨g, j * 14 + k, none⟩ by unfold Addr.add; split <;> simp_all] at this
set_option maxHeartbeats 4000000 in
set_option maxRecDepth 100000 in
theorem untouched_any (w : World) (B q : Nat) (vT vW : Value) (css wss : List (Array Value)) (T : List Ex) (hq : QuAt w B q vT vW css wss) (hT : css.length = T.length) (hl : T.length ≤ 100000)
    (ht : ∀ (j : Nat) (t : Ex) (cs : Array Value), T[j]? = some t → css[j]? = some cs → Tree w (.agg cs) t) (hw : ∀ (j : Nat) (t : Ex) (cs : Array Value), T[j]? = some t → wss[j]? = some cs → Tree w (.agg cs) t) :
    Calls Try.prog 13 #[.pointer (some ⟨q, 0, none⟩)] w fun e w' => e = .returned (.bool true) ∧ Below w.heap.size w w' := by
  obtain ⟨aT, nT, cT, rfl⟩ := owns_shape9 hq.ts
  obtain ⟨aW, nW, cW, rfl⟩ := owns_shape9 hq.ws
  have hnT : nT = css.length := len_sl9 hq.ts
  have hnW : nW = wss.length := len_sl9 hq.ws
  have hcs : ∀ (ws : World) (l : List (Array Value)), l.length = T.length → (∀ (j : Nat) (t : Ex) (cs : Array Value), T[j]? = some t → l[j]? = some cs → Tree ws (.agg cs) t) → ∀ cs ∈ l, cs.toList.length = 14 := fun ws l hll h cs hc => by
    obtain ⟨j, hj⟩ := List.getElem?_of_mem hc
    have hjl : j < T.length := by rw [← hll]; exact (List.getElem?_eq_some_iff.1 hj).1
    have h1 := h j _ cs (List.getElem?_eq_getElem hjl) hj
    obtain ⟨nd, ks, e⟩ : ∃ nd ks, T[j] = Ex.mk nd ks := by cases T[j]; exact ⟨_, _, rfl⟩
    rw [e] at h1
    obtain ⟨a, len, cap, hv, _⟩ := In.un h1
    have : cs = exC nd (.slice a len cap) := by simpa [exV] using hv
    rw [this, exC_len]
  have htz := hcs w css hT ht
  have hwz := hcs w wss (by rw [← hq.len]; exact hT) hw
  have htz' := hide htz
  have hwz' := hide hwz
  have HQ := hide hq
  have HT := hide ht
  have HW := hide hw
  have hn : Hid (nT = T.length) := hide (hnT.trans hT)
  have hnt : nT ≤ 100000 := by omega
  have hnw : Hid (nW = nT) := hide (by rw [hnW, hnT, hq.len])
  have hnTc := hide hnT
  clear hcs htz hwz hq ht hw hnT hnW
  go_enter Try.func13, Try.ntmps13
  go_wp2_with fail
  go_loopw [3] (fun iv wr => ∃ (i : Nat), i ≤ nT ∧ iv = .int .i64 i ∧ Hid (Below w.heap.size w wr)) (fun iv _ => nT - (intOf iv).toNat)
  case atStart => exact ⟨0, Nat.zero_le _, rfl, hide (Below.refl _ _)⟩
  case round =>
    obtain ⟨i, hil, rfl, HB⟩ := hrel
    have q2 := HQ.out.below HB.out
    have e0 : wr.cell? ⟨q, 0, none⟩ = some (.slice aT nT cT) := q2.blk.at' 0
    have e1 : wr.cell? ⟨q, 1, none⟩ = some (.slice aW nW cW) := q2.blk.at' 1
    by_cases hlt : i < nT
    · have p0 : (i : Int) < (nT : Int) := by omega
      have p1 : (i : Int) < (nW : Int) := by have := hnw.out; omega
      have hsh : ∀ {v : Value} {l : List (Array Value)} {a : Option Addr} {n c : Nat}, v = .slice a n c → RowX wr B v l → 0 < n → ∃ g, a = some ⟨g, 0, none⟩ := fun {v l a n c} e h h0 => by
        subst e
        rcases h.2 with ⟨z, _⟩ | ⟨g, cap, cur, z, _⟩
        · cases z; omega
        · cases z; exact ⟨g, rfl⟩
      obtain ⟨gT, rfl⟩ := hsh rfl q2.ts (by omega)
      obtain ⟨gW, rfl⟩ := hsh rfl q2.ws (by have := hnw.out; omega)
      have hiT : i < T.length := by have := hn.out; omega
      have hic : i < css.length := by have := hnTc.out; omega
      have hiw : i < wss.length := by rw [← HQ.out.len]; exact hic
      have t1 := (HT.out i _ _ (List.getElem?_eq_getElem hiT) (List.getElem?_eq_getElem hic)).step HB.out
      have t2 := (HW.out i _ _ (List.getElem?_eq_getElem hiT) (List.getElem?_eq_getElem hiw)).step HB.out
      have r1 := rowX_at q2.ts htz'.out i _ (List.getElem?_eq_getElem hic)
      have r2 := rowX_at q2.ws hwz'.out i _ (List.getElem?_eq_getElem hiw)
      obtain ⟨nd, ks, e⟩ : ∃ nd ks, T[i] = Ex.mk nd ks := by cases T[i]; exact ⟨_, _, rfl⟩
      rw [e] at t1 t2
      obtain ⟨a, len, cap, hv, _⟩ := In.un t1
      obtain ⟨a', len', cap', hv', _⟩ := In.un t2
      have hc1 : css[i] = exC nd (.slice a len cap) := by simpa [exV] using hv
      have hc2 : wss[i] = exC nd (.slice a' len' cap') := by simpa [exV] using hv'
      rw [hc1] at r1 t1
      rw [hc2] at r2 t2
      have hE : ∀ d os, Calls Try.prog 8 #[lit14 nd (.slice a len cap), lit14 nd (.slice a' len' cap')] (grow (redrawn wr d) os) fun e w'' => e = .returned (.bool true) ∧ ∃ p : Regrown, w'' = grow (redrawn wr p.d) p.os := fun d' os => by
        have z := leq_any (.mk nd ks) (.mk nd ks) (exV nd (.slice a len cap)) (exV nd (.slice a' len' cap')) (grow (redrawn wr d') os) (t1.step (below_regrown wr d' os)) (t2.step (below_regrown wr d' os))
        rw [same_selfE] at z
        exact Calls.regrown_of z
      obtain ⟨x0, x1, x2, x3, x4, x5, x6, x7, x8, x9, x10, x11, x12, x13⟩ := range14 r1
      obtain ⟨y0, y1, y2, y3, y4, y5, y6, y7, y8, y9, y10, y11, y12, y13⟩ := range14 r2
      have E0 := cell_rg e0
      have E1 := cell_rg e1
      have X0 := cell_rg x0
      have X1 := cell_rg x1
      have X2 := cell_rg x2
      have X3 := cell_rg x3
      have X4 := cell_rg x4
      have X5 := cell_rg x5
      have X6 := cell_rg x6
      have X7 := cell_rg x7
      have X8 := cell_rg x8
      have X9 := cell_rg x9
      have X10 := cell_rg x10
      have X11 := cell_rg x11
      have X12 := cell_rg x12
      have X13 := cell_rg x13
      have Y0 := cell_rg y0
      have Y1 := cell_rg y1
      have Y2 := cell_rg y2
      have Y3 := cell_rg y3
      have Y4 := cell_rg y4
      have Y5 := cell_rg y5
      have Y6 := cell_rg y6
      have Y7 := cell_rg y7
      have Y8 := cell_rg y8
      have Y9 := cell_rg y9
      have Y10 := cell_rg y10
      have Y11 := cell_rg y11
      have Y12 := cell_rg y12
      have Y13 := cell_rg y13
      clear x0 x1 x2 x3 x4 x5 x6 x7 x8 x9 x10 x11 x12 x13 y0 y1 y2 y3 y4 y5 y6 y7 y8 y9 y10 y11 y12 y13 r1 r2 t1 t2 hv hv' hc1 hc2 e e1 q2 hsh
      go_wp2_with fail
      clear e0
      refine wp_region_quiet_below (by kernel_rfl) (by kernel_rfl) ?_
      repeat (go_big_quiet_step (first | (with_reducible exact hE _ _)))
      refine wpQuiet_nil ?_
      intro w2 hw2
      have hb2 : Below wr.heap.size wr w2 := by obtain ⟨⟨dq, osq⟩, hz⟩ := hw2; rw [hz]; exact below_regrown _ dq osq
      have B2 := hide (next HB.out hb2)
      clear hw2 hb2 hE E0 E1 X0 X1 X2 X3 X4 X5 X6 X7 X8 X9 X10 X11 X12 X13 Y0 Y1 Y2 Y3 Y4 Y5 Y6 Y7 Y8 Y9 Y10 Y11 Y12 Y13
      go_wp2_with fail
      exact ⟨⟨i + 1, by omega, rfl, B2⟩, meas_ls hlt⟩
    · have p0 : ¬ (i : Int) < (nT : Int) := by omega
      go_wp2_with fail
      go_ret
      exact ⟨rfl, HB.out⟩
end Go.Proofs.Ytiajoppbgebnpaa
