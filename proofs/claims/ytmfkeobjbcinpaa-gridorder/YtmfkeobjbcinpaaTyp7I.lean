/- Set, Get, Drop and Len of a table of things of type int, in the words of the list that it holds. -/
import Derived.Test.YtmfkeobjbcinpaaAll7I
import Derived.Test.YtmfkeobjbcinpaaSet7
namespace Go.Proofs.Ytmfkeobjbcinpaa
open Go.RowKit Go.Maps
set_option linter.unusedVariables false

theorem tsetI {w : World} {Bt b : Nat} {L : Tb (Int)} {r c : Int} (h : TabI w Bt b L) (x : Int) : Calls Try.prog 11 #[.pointer (some ⟨Bt, 0, none⟩), spotV r c, .int .i64 x] w fun e w' => e = .returned (.int .i64 (setE L (r, c))) ∧ TabI w' Bt b (setL L (r, c) x) ∧ w.grownBy w' (some b) := by
  have hv := has_valI L (r, c)
  have hle : ((L.map valI).length : Int) = (L.length : Int) := by rw [List.length_map]
  rcases setE_cases L (r, c) x with ⟨hm, e1, e2⟩ | ⟨hm, hh, hf, e1, e2⟩ | ⟨hm, hh, hf, e1, e2⟩ | ⟨hm, hh, e1, e2⟩
  · rw [e1, e2]
    exact (setI_no h _ hm).mono fun e w' ⟨he, hb⟩ => ⟨he, h.keep hb, grown_of_below hb _⟩
  · rw [e1, e2]
    exact (setI_full h _ hm (hv.trans hh) (by rw [hle]; exact hf)).mono fun e w' ⟨he, hb⟩ => ⟨he, h.keep hb, grown_of_below hb _⟩
  · rw [e1, e2]
    refine (setI_room h _ hm (hv.trans hh) (by rw [hle]; exact hf)).mono fun e w' ⟨he, ht, hg⟩ => ⟨he, ?_, hg⟩
    rw [ins_valI] at ht
    exact ht
  · rw [e1, e2]
    refine (setI_has h _ hm (hv.trans hh)).mono fun e w' ⟨he, ht, hg⟩ => ⟨he, ?_, hg⟩
    rw [ins_valI] at ht
    exact ht
theorem tgetI {w : World} {Bt b : Nat} {L : Tb (Int)} {r c : Int} (h : TabI w Bt b L) (hr : wfI r) (hc : wfI c) : Calls Try.prog 16 #[.pointer (some ⟨Bt, 0, none⟩), spotV r c] w fun e w' => e = .returned (.tuple #[.int .i64 ((getT L (r, c)).getD 0), .bool (hasT L (r, c))]) ∧ Below w.heap.size w w' := by
  have hg := getI_any h hr hc
  rw [has_valI, get_valI] at hg
  have e : ((getT L (r, c)).map (Value.int .i64)).getD (.int .i64 0) = Value.int .i64 ((getT L (r, c)).getD 0) := by cases getT L (r, c) <;> rfl
  rw [e] at hg
  exact hg
theorem tdropI {w : World} {Bt b : Nat} {L : Tb (Int)} {r c : Int} (h : TabI w Bt b L) (hr : wfI r) (hc : wfI c) : Calls Try.prog 42 #[.pointer (some ⟨Bt, 0, none⟩), spotV r c] w fun e w' => e = .returned (.bool (hasT L (r, c))) ∧ TabI w' Bt b (delT L (r, c)) ∧ w.grownBy w' (some b) := by
  have hd := dropI_any h hr hc
  rw [has_valI, del_valI] at hd
  exact hd
theorem tlenI {w : World} {Bt b : Nat} {L : Tb (Int)} (h : TabI w Bt b L) : Calls Try.prog 18 #[.pointer (some ⟨Bt, 0, none⟩)] w fun e w' => e = .returned (.int .i64 L.length) ∧ w' = w := by
  have hn := lenI_any h
  rw [List.length_map] at hn
  exact hn
theorem tnewI (w : World) : Calls Try.prog 8 #[] w fun e w' => ∃ Bt b, e = .returned (.pointer (some ⟨Bt, 0, none⟩)) ∧ w.heap.size ≤ Bt ∧ w.heap.size ≤ b ∧ TabI w' Bt b [] ∧ Below w.heap.size w w' := newI_any w
end Go.Proofs.Ytmfkeobjbcinpaa
