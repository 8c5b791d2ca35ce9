/- More for HashFresh: how far a list is grown, texts as bytes, the same bytes told by their texts. Proved of the Go text. -/
import Derived.Test.YtdbdonpcdoeeiaaLed6b
import Derived.Lib.ConvBytes
namespace Go.Proofs.Ytdbdonpcdoeeiaa
open Go.RowKit Go.Sort
set_option linter.unusedVariables false

theorem info_sl : (Try.prog.info? 28).map (fun i => (i.zero, i.size, i.bytes)) = some (some (.slice none 0 0), 1, 24) := by kernel_rfl
theorem info_st : (Try.prog.info? 9).map (fun i => (i.zero, i.size, i.bytes)) = some (some (.string no), 1, 16) := by kernel_rfl
set_option maxHeartbeats 1000000 in
theorem room_yes (n a : Nat) (hn : n ≤ 102768) (h : n + 70000 < a) : CallIs 14 #[.int .i64 n, .int .i64 a] (.int .i64 ((n + 70000 : Nat) : Int)) := by
  intro w
  have h1 : (a : Int) > (n : Int) + 70000 := by omega
  have h2 : (n : Int) ≤ 102768 := by omega
  have e : Hid (((n + 70000 : Nat) : Int) = (n : Int) + 70000) := hide (by omega)
  rw [e.out]
  go_enter Try.func14, Try.ntmps14
  go_wp2_with fail
  go_ret
  exact ⟨rfl, by go_grown⟩
set_option maxHeartbeats 1000000 in
theorem room_no (n a : Nat) (hn : n ≤ 102768) (h : ¬ n + 70000 < a) : CallIs 14 #[.int .i64 n, .int .i64 a] (.int .i64 a) := by
  intro w
  have h1 : ¬ (a : Int) > (n : Int) + 70000 := by omega
  have h2 : (n : Int) ≤ 102768 := by omega
  go_enter Try.func14, Try.ntmps14
  go_wp2_with fail
  go_ret
  exact ⟨rfl, by go_grown⟩
theorem room_any (n a : Nat) (hn : n ≤ 32768) (ha : n ≤ a) : ∃ r : Nat, CallIs 14 #[.int .i64 n, .int .i64 a] (.int .i64 r) ∧ n ≤ r ∧ r ≤ a ∧ r ≤ 102768 := by
  by_cases h : n + 70000 < a
  · exact ⟨n + 70000, room_yes n a (by omega) h, by omega, by omega, by omega⟩
  · exact ⟨a, room_no n a (by omega) h, ha, Nat.le_refl _, by omega⟩
set_option maxHeartbeats 1000000 in
theorem eq_conv {w : World} {v v' : Value} {L L' : List UInt8} (c : (convert 28 9 v).run Try.prog w = .ok (.string ⟨L.toArray⟩) w) (c' : (convert 28 9 v').run Try.prog w = .ok (.string ⟨L'.toArray⟩) w) :
    Calls Try.prog 8 #[v, v'] w fun e w' => e = .returned (.bool (L == L')) ∧ w' = w := by
  go_enter Try.func8, Try.ntmps8
  go_wp2_with fail
  go_ret
  refine ⟨?_, rfl⟩
  show Ending.returned _ = _
  congr 2
/-- A text as bytes: a new slice, the other blocks as they were; back again it is the text. -/
theorem text_bytes (w : World) (M : List UInt8) : ∃ (v : Value) (w' : World), (convert 9 28 (.string ⟨M.toArray⟩)).run Try.prog w = .ok v w' ∧ Below w.heap.size w w' ∧ (convert 28 9 v).run Try.prog w' = .ok (.string ⟨M.toArray⟩) w' := by
  have hs : (⟨M.toArray⟩ : ByteArray).size = M.length := rfl
  refine ⟨_, _, Lib.run_convert_string_bytes (P := Try.prog) w 9 28 5 ⟨M.toArray⟩ Try.underlying9 Try.underlying28 Try.underlying5, ?_, ?_⟩
  · exact ⟨rfl, rfl, rfl, by rw [Lib.bytesWorld_size]; omega, fun k hk => Lib.bytesWorld_at_old w _ _ k hk⟩
  · have hc := run_convert_bytes_arg (P := Try.prog) (Lib.bytesWorld w 5 ⟨M.toArray⟩) 28 5 Try.underlying28 Try.underlying5 w.heap.size 0 M.length (grownCap w M.length 0 5) (M.map fun x => (x.toNat : Int)) (by simp) (fun i hi => by
      have := Lib.bytesWorld_cell w 5 ⟨M.toArray⟩ i (by rw [hs]; exact hi)
      rw [Nat.zero_add, this]
      simp [List.getD, hi]) 9 Try.underlying9
    rw [hs, hc]
    congr 2
    unfold strOfNums
    congr 2
    rw [List.map_map]
    conv => rhs; rw [← List.map_id M]
    apply List.map_congr_left
    intro x _
    simp
theorem own_slice {w : World} {B e n : Nat} {v : Value} {xs : List Value} (h : w.ownsRow B e 1 v n xs) : ∃ a c, v = .slice a n c := by
  rcases h.2 with ⟨rfl, rfl⟩ | ⟨g, cap, cur, rfl, _⟩
  · exact ⟨none, 0, rfl⟩
  · exact ⟨_, cap, rfl⟩
theorem St.bel {W w : World} {N : Nat} {s3 s4 s5 : Value} {gl cl nl gq cq : Nat → Nat} {L : Nat → List UInt8} (h : St W w N s3 s4 s5 gl cl nl gq cq L) : Below W.heap.size W w := h.2.2.2.2.1
theorem St.start {W w : World} (hb : Below W.heap.size W w) : St W w 0 (.slice none 0 0) (.slice none 0 0) (.slice none 0 0) id id (lens fun _ => []) id id (fun _ => []) :=
  ⟨World.ownsRow_nil _ _ _ _, World.ownsRow_nil _ _ _ _, World.ownsRow_nil _ _ _ _, fun j hj => absurd hj (by omega), hb, fun _ => rfl⟩
theorem lens_upd (L : Nat → List UInt8) (N : Nat) (M : List UInt8) : upd (lens L) N M.length = lens (upd L N M) := by
  funext j
  show _ = (upd L N M j).length
  by_cases h : j = N
  · subst h; rw [upd_at, upd_at]
  · rw [upd_ne _ _ _ h, upd_ne _ _ _ h]
/-- How long the row is that a list's cell tells. -/
def lenAt (w : World) (G m : Nat) : Nat := match w.cell? ⟨G, m, none⟩ with
  | some (.slice _ n _) => n
  | _ => 0
theorem lenAt_of {w : World} {G m n c : Nat} {a : Option Addr} (h : w.cell? ⟨G, m, none⟩ = some (.slice a n c)) : lenAt w G m = n := by unfold lenAt; rw [h]
end Go.Proofs.Ytdbdonpcdoeeiaa
