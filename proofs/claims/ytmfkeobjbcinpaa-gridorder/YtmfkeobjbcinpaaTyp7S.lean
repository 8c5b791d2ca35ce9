/- Set, Get, Drop and Len of a table of things of type string, in the words of the list that it holds. -/
import Derived.Test.YtmfkeobjbcinpaaAll7S
import Derived.Test.YtmfkeobjbcinpaaSet7
namespace Go.Proofs.Ytmfkeobjbcinpaa
open Go.RowKit Go.Maps
set_option linter.unusedVariables false

theorem tsetS {w : World} {Bt b : Nat} {L : Tb (ByteArray)} {r c : Int} (h : TabS w Bt b L) (x : ByteArray) : Calls Try.prog 34 #[.pointer (some ⟨Bt, 0, none⟩), spotV r c, .string x] w fun e w' => e = .returned (.int .i64 (setE L (r, c))) ∧ TabS w' Bt b (setL L (r, c) x) ∧ w.grownBy w' (some b) := by
  have hv := has_valS L (r, c)
  have hle : ((L.map valS).length : Int) = (L.length : Int) := by rw [List.length_map]
  rcases setE_cases L (r, c) x with ⟨hm, e1, e2⟩ | ⟨hm, hh, hf, e1, e2⟩ | ⟨hm, hh, hf, e1, e2⟩ | ⟨hm, hh, e1, e2⟩
  · rw [e1, e2]
    exact (setS_no h _ hm).mono fun e w' ⟨he, hb⟩ => ⟨he, h.keep hb, grown_of_below hb _⟩
  · rw [e1, e2]
    exact (setS_full h _ hm (hv.trans hh) (by rw [hle]; exact hf)).mono fun e w' ⟨he, hb⟩ => ⟨he, h.keep hb, grown_of_below hb _⟩
  · rw [e1, e2]
    refine (setS_room h _ hm (hv.trans hh) (by rw [hle]; exact hf)).mono fun e w' ⟨he, ht, hg⟩ => ⟨he, ?_, hg⟩
    rw [ins_valS] at ht
    exact ht
  · rw [e1, e2]
    refine (setS_has h _ hm (hv.trans hh)).mono fun e w' ⟨he, ht, hg⟩ => ⟨he, ?_, hg⟩
    rw [ins_valS] at ht
    exact ht
theorem tgetS {w : World} {Bt b : Nat} {L : Tb (ByteArray)} {r c : Int} (h : TabS w Bt b L) (hr : wfI r) (hc : wfI c) : Calls Try.prog 35 #[.pointer (some ⟨Bt, 0, none⟩), spotV r c] w fun e w' => e = .returned (.tuple #[.string ((getT L (r, c)).getD ⟨#[]⟩), .bool (hasT L (r, c))]) ∧ Below w.heap.size w w' := by
  have hg := getS_any h hr hc
  rw [has_valS, get_valS] at hg
  have e : ((getT L (r, c)).map (Value.string)).getD (.string ⟨#[]⟩) = Value.string ((getT L (r, c)).getD ⟨#[]⟩) := by cases getT L (r, c) <;> rfl
  rw [e] at hg
  exact hg
theorem tdropS {w : World} {Bt b : Nat} {L : Tb (ByteArray)} {r c : Int} (h : TabS w Bt b L) (hr : wfI r) (hc : wfI c) : Calls Try.prog 39 #[.pointer (some ⟨Bt, 0, none⟩), spotV r c] w fun e w' => e = .returned (.bool (hasT L (r, c))) ∧ TabS w' Bt b (delT L (r, c)) ∧ w.grownBy w' (some b) := by
  have hd := dropS_any h hr hc
  rw [has_valS, del_valS] at hd
  exact hd
theorem tlenS {w : World} {Bt b : Nat} {L : Tb (ByteArray)} (h : TabS w Bt b L) : Calls Try.prog 38 #[.pointer (some ⟨Bt, 0, none⟩)] w fun e w' => e = .returned (.int .i64 L.length) ∧ w' = w := by
  have hn := lenS_any h
  rw [List.length_map] at hn
  exact hn
theorem tnewS (w : World) : Calls Try.prog 33 #[] w fun e w' => ∃ Bt b, e = .returned (.pointer (some ⟨Bt, 0, none⟩)) ∧ w.heap.size ≤ Bt ∧ w.heap.size ≤ b ∧ TabS w' Bt b [] ∧ Below w.heap.size w w' := newS_any w
end Go.Proofs.Ytmfkeobjbcinpaa
