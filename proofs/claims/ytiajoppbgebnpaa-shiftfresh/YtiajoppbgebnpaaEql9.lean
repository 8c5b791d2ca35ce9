/- tree.Same: two trees, node by node, with slices.EqualFunc between. -/
import Derived.Test.YtiajoppbgebnpaaSame9
namespace Go.Proofs.Ytiajoppbgebnpaa
open Go.RowKit Go.Sort
set_option linter.unusedVariables false

mutual
/-- Are two trees the same? -/
def sameE : Ex → Ex → Bool
  | .mk n ks, t => ndB n t.nd && sameL ks t.kids
def sameL : List Ex → List Ex → Bool
  | [], l => l.isEmpty
  | k :: r, l => match l with | [] => false | x :: y => sameE k x && sameL r y
end
theorem sameL_len : ∀ (ks ls : List Ex), ks.length ≠ ls.length → sameL ks ls = false
  | [], [], h => absurd rfl h
  | [], x :: y, _ => by rw [sameL]; rfl
  | k :: r, [], _ => by rw [sameL]
  | k :: r, x :: y, h => by rw [sameL]; simp only [sameL_len r y (by simpa using h), Bool.and_false]
theorem sameL_at (ks ls : List Ex) (i : Nat) (h1 : i < ks.length) (h2 : i < ls.length) : sameL (ks.drop i) (ls.drop i) = (sameE ks[i] ls[i] && sameL (ks.drop (i + 1)) (ls.drop (i + 1))) := by
  rw [List.drop_eq_getElem_cons h1, List.drop_eq_getElem_cons h2, sameL]
theorem sameL_end (ks ls : List Ex) (h : ks.length = ls.length) : sameL (ks.drop ks.length) (ls.drop ks.length) = true := by
  rw [List.drop_length, h, List.drop_length, sameL]; rfl
/-- A list of kids in memory. -/
structure KidsAt (w : World) (a : Option Addr) (len : Nat) (ks : List Ex) : Prop where
  lq : len = ks.length
  small : len ≤ 4611686018427387904
  at' : len = 0 ∨ ∃ b o, a = some ⟨b, o, none⟩ ∧ b < w.heap.size ∧ Kids (· < w.heap.size) w b o ks
theorem KidsAt.step {w w' : World} {a : Option Addr} {len : Nat} {ks : List Ex} (h : KidsAt w a len ks) (hb : Below w.heap.size w w') : KidsAt w' a len ks := by
  refine ⟨h.lq, h.small, ?_⟩
  rcases h.at' with h | ⟨b, o, ha, hlt, hk⟩
  · exact .inl h
  · refine .inr ⟨b, o, ha, Nat.lt_of_lt_of_le hlt hb.size, Kids.of fun i hi => ?_⟩
    obtain ⟨cs, h1, h2⟩ := hk.get i hi
    exact ⟨cs, h1.move (fun k hk => ⟨Nat.lt_of_lt_of_le hk hb.size, hb.block k hk⟩), range_of_block h2 (hb.block b hlt)⟩
theorem Tree.kidsAt {w : World} {nd : Nd} {ks : List Ex} {a : Option Addr} {len cap : Nat} (h : Tree w (exV nd (.slice a len cap)) (.mk nd ks)) : KidsAt w a len ks := by
  obtain ⟨a', len', cap', hv, h1, h2, _, h3⟩ := h.un
  have : exC nd (.slice a len cap) = exC nd (.slice a' len' cap') := by simpa [exV] using hv
  have := congrArg (fun x : Array Value => x[13]?) this
  simp only [(at14 _ _).c13, Option.some.injEq, Value.slice.injEq] at this
  obtain ⟨rfl, rfl, rfl⟩ := this
  exact ⟨h1.out, h2.out, h3.out⟩
theorem KidsAt.get {w : World} {a : Option Addr} {len : Nat} {ks : List Ex} (h : KidsAt w a len ks) {i : Nat} (hi : i < len) : ∃ b o, a = some ⟨b, o, none⟩ ∧ ∃ (hk : i < ks.length) (aa : Option Addr) (l c : Nat), Tree w (exV ks[i].nd (.slice aa l c)) ks[i] ∧ w.rangeAt b (o + i * 14) (exC ks[i].nd (.slice aa l c)).toList := by
  rcases h.at' with h' | ⟨b, o, ha, hlt, hk⟩
  · omega
  · have hi' : i < ks.length := by have := h.lq; omega
    obtain ⟨cs, h1, h2⟩ := hk.get i hi'
    obtain ⟨aa, l, c, rfl⟩ := h1.cs
    exact ⟨b, o, ha, hi', aa, l, c, h1, h2⟩
end Go.Proofs.Ytiajoppbgebnpaa
