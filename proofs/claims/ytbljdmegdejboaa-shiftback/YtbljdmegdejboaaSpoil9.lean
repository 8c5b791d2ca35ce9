/- quadrillelaw9.Spoil: what it leaves: nothing is written but the tree's own lists. -/
import Derived.Test.YtbljdmegdejboaaLyM9
namespace Go.Proofs.Ytbljdmegdejboaa
open Go.RowKit Go.Sort
set_option linter.unusedVariables false

mutual
theorem Ow.lt {w : World} : ∀ (t : Ex) {v : Value} {bs : List Nat}, Ow w v t bs → ∀ x ∈ bs, x < w.heap.size
  | .mk nd ks, v, bs, h => by
    unfold Ow at h
    obtain ⟨a, len, cap, _, _, h⟩ := h
    rcases h with ⟨_, _, _, rfl⟩ | ⟨b, cells, bs', _, rfl, hc, _, _, hk⟩
    · intro x hx; cases hx
    · intro x hx
      rcases List.mem_cons.1 hx with rfl | hx
      · exact (Array.getElem?_eq_some_iff.1 hc).1
      · exact OwL.lt ks hk x hx
theorem OwL.lt {w : World} {b : Nat} : ∀ (ks : List Ex) {o : Nat} {bs : List Nat}, OwL w b o ks bs → ∀ x ∈ bs, x < w.heap.size
  | [], o, bs, h => by unfold OwL at h; subst h; intro x hx; cases hx
  | k :: r, o, bs, h => by
    unfold OwL at h
    obtain ⟨cs, b1, b2, rfl, h1, _, h3⟩ := h
    intro x hx
    rcases List.mem_append.1 hx with hx | hx
    · exact Ow.lt k h1 x hx
    · exact OwL.lt r h3 x hx
end
/-- The kids' blocks, kid by kid, apart. -/
theorem OwL.split {w : World} {b : Nat} : ∀ (ks : List Ex) {o : Nat} {bs : List Nat}, OwL w b o ks bs → bs.Nodup →
    ∃ bl : Nat → List Nat, (∀ i (hi : i < ks.length), (∃ cs, Ow w (.agg cs) ks[i] (bl i) ∧ w.rangeAt b (o + i * 14) cs.toList) ∧ (∀ x ∈ bl i, x ∈ bs) ∧ (bl i).Nodup) ∧ ∀ i j, i < ks.length → j < ks.length → i ≠ j → ∀ x ∈ bl i, x ∉ bl j
  | [], o, bs, h, hn => ⟨fun _ => [], fun i hi => absurd hi (Nat.not_lt_zero i), fun i j hi => absurd hi (Nat.not_lt_zero i)⟩
  | k :: r, o, bs, h, hn => by
    unfold OwL at h
    obtain ⟨cs, b1, b2, rfl, h1, h2, h3⟩ := h
    obtain ⟨n1, n2, n3⟩ := List.nodup_append.1 hn
    obtain ⟨bl, hA, hB⟩ := OwL.split r h3 n2
    refine ⟨fun i => match i with | 0 => b1 | i + 1 => bl i, fun i hi => ?_, fun i j hi hj hne x hx => ?_⟩
    · cases i with
      | zero => exact ⟨⟨cs, by simpa using h1, by simpa using h2⟩, fun x hx => List.mem_append_left _ hx, n1⟩
      | succ i =>
        obtain ⟨⟨cs', h4, h5⟩, h6, h7⟩ := hA i (by simpa using hi)
        exact ⟨⟨cs', by simpa only [List.getElem_cons_succ] using h4, by rw [show o + (i + 1) * 14 = o + 14 + i * 14 by omega]; exact h5⟩, fun x hx => List.mem_append_right _ (h6 x hx), h7⟩
    · cases i with
      | zero =>
        cases j with
        | zero => exact absurd rfl hne
        | succ j => exact fun hq => n3 x hx x ((hA j (by simpa using hj)).2.1 x hq) rfl
      | succ i =>
        cases j with
        | zero => exact fun hq => n3 x hq x ((hA i (by simpa using hi)).2.1 x hx) rfl
        | succ j => exact hB i j (by simpa using hi) (by simpa using hj) (fun e => hne (by rw [e])) x hx
theorem Chg.wide {m m' : Nat → Prop} {w w' : World} (h : Chg m w w') (hm : ∀ k, m k → m' k) : Chg m' w w' := ⟨h.os, h.tape, h.output, h.size, fun k hk hn => h.block k hk (fun e => hn (hm k e))⟩
theorem Chg.of_grown {m : Nat → Prop} {w w' : World} {r : Option Nat} (h : w.grownBy w' r) (hm : ∀ k, r = some k → m k) : Chg m w w' := ⟨h.os, h.tape, h.output, h.size, fun k hk hn => h.block k hk (fun e => hn (hm k e.symm))⟩
/-- The list's own block, whatever it holds. -/
def Shp (w : World) (a : Option Addr) (cap : Nat) : Prop := ∀ b, a = some ⟨b, 0, none⟩ → ∃ cur, w.heap[b]? = some (.cells cur 29 (0, 0)) ∧ cur.size = cap * 14
abbrev nd99 (i : Int) : Nd := ⟨99, 0, i, { data := #[115, 112, 111, 105, 108, 116] }, ⟨0, 0, false, false⟩, ⟨0, 0, false, false⟩, 0⟩
abbrev nd98 : Nd := ⟨98, 0, 0, { data := #[103, 114, 111, 119, 110] }, ⟨0, 0, false, false⟩, ⟨0, 0, false, false⟩, 0⟩
/-- One kid is written over. -/
def put99 (w : World) (b j : Nat) : World := w.setCells b (j * 14) (exC (nd99 j) (.slice none 0 0)).toList
def Th (w : World) (b j : Nat) : Prop := w.there b (j * 14) 14
theorem wpList_put99 {ops : Array Oper} {rest : List Oper} {op : Oper} {a : Act} {w : World} {Q : Exit → Act → World → Prop} {b j : Nat} (hgd : op.guard = none) (x y : Operand) (ho : op.op = .store 29 x y)
    (hx : a.eval x = .pointer (some ⟨b, j * 14, none⟩)) (hy : a.eval y = .agg #[.int .i64 99, .int .i64 0, .int .i64 (j : Int), .string { data := #[115, 112, 111, 105, 108, 116] }, .int .i64 0, .int .i64 0, .bool false, .bool false, .int .i64 0, .int .i64 0, .bool false, .bool false, .int .i64 0, .slice none 0 0]) (ht : Th w b j) (h : wpList Try.prog ops Q rest (a.put op.dst undef) (put99 w b j)) : wpList Try.prog ops Q (op :: rest) a w :=
  wpList_store_mid hgd 29 x y ho b (j * 14) (exC (nd99 j) (.slice none 0 0)) hx hy ht (exC_info _ _) (exC_one _ _ _ _) h
end Go.Proofs.Ytbljdmegdejboaa
