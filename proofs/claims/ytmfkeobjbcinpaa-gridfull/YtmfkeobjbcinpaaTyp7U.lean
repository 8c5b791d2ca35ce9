/- Set, Get, Drop and Len of a table of things of type uint8, in the words of the list that it holds. -/
import Derived.Test.YtmfkeobjbcinpaaAll7U
import Derived.Test.YtmfkeobjbcinpaaSet7
namespace Go.Proofs.Ytmfkeobjbcinpaa
open Go.RowKit Go.Maps
set_option linter.unusedVariables false

theorem tsetU {w : World} {Bt b : Nat} {L : Tb (Int)} {r c : Int} (h : TabU w Bt b L) (x : Int) : Calls Try.prog 28 #[.pointer (some ⟨Bt, 0, none⟩), spotV r c, .int .u8 x] w fun e w' => e = .returned (.int .i64 (setE L (r, c))) ∧ TabU w' Bt b (setL L (r, c) x) ∧ w.grownBy w' (some b) := by
  have hv := has_valU L (r, c)
  have hle : ((L.map valU).length : Int) = (L.length : Int) := by rw [List.length_map]
  rcases setE_cases L (r, c) x with ⟨hm, e1, e2⟩ | ⟨hm, hh, hf, e1, e2⟩ | ⟨hm, hh, hf, e1, e2⟩ | ⟨hm, hh, e1, e2⟩
  · rw [e1, e2]
    exact (setU_no h _ hm).mono fun e w' ⟨he, hb⟩ => ⟨he, h.keep hb, grown_of_below hb _⟩
  · rw [e1, e2]
    exact (setU_full h _ hm (hv.trans hh) (by rw [hle]; exact hf)).mono fun e w' ⟨he, hb⟩ => ⟨he, h.keep hb, grown_of_below hb _⟩
  · rw [e1, e2]
    refine (setU_room h _ hm (hv.trans hh) (by rw [hle]; exact hf)).mono fun e w' ⟨he, ht, hg⟩ => ⟨he, ?_, hg⟩
    rw [ins_valU] at ht
    exact ht
  · rw [e1, e2]
    refine (setU_has h _ hm (hv.trans hh)).mono fun e w' ⟨he, ht, hg⟩ => ⟨he, ?_, hg⟩
    rw [ins_valU] at ht
    exact ht
theorem tgetU {w : World} {Bt b : Nat} {L : Tb (Int)} {r c : Int} (h : TabU w Bt b L) (hr : wfI r) (hc : wfI c) : Calls Try.prog 30 #[.pointer (some ⟨Bt, 0, none⟩), spotV r c] w fun e w' => e = .returned (.tuple #[.int .u8 ((getT L (r, c)).getD 0), .bool (hasT L (r, c))]) ∧ Below w.heap.size w w' := by
  have hg := getU_any h hr hc
  rw [has_valU, get_valU] at hg
  have e : ((getT L (r, c)).map (Value.int .u8)).getD (.int .u8 0) = Value.int .u8 ((getT L (r, c)).getD 0) := by cases getT L (r, c) <;> rfl
  rw [e] at hg
  exact hg
theorem tdropU {w : World} {Bt b : Nat} {L : Tb (Int)} {r c : Int} (h : TabU w Bt b L) (hr : wfI r) (hc : wfI c) : Calls Try.prog 31 #[.pointer (some ⟨Bt, 0, none⟩), spotV r c] w fun e w' => e = .returned (.bool (hasT L (r, c))) ∧ TabU w' Bt b (delT L (r, c)) ∧ w.grownBy w' (some b) := by
  have hd := dropU_any h hr hc
  rw [has_valU, del_valU] at hd
  exact hd
theorem tlenU {w : World} {Bt b : Nat} {L : Tb (Int)} (h : TabU w Bt b L) : Calls Try.prog 29 #[.pointer (some ⟨Bt, 0, none⟩)] w fun e w' => e = .returned (.int .i64 L.length) ∧ w' = w := by
  have hn := lenU_any h
  rw [List.length_map] at hn
  exact hn
theorem tnewU (w : World) : Calls Try.prog 27 #[] w fun e w' => ∃ Bt b, e = .returned (.pointer (some ⟨Bt, 0, none⟩)) ∧ w.heap.size ≤ Bt ∧ w.heap.size ≤ b ∧ TabU w' Bt b [] ∧ Below w.heap.size w w' := newU_any w
end Go.Proofs.Ytmfkeobjbcinpaa
