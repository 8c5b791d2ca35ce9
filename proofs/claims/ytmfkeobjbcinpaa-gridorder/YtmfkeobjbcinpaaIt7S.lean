/- The iterator that a table of things of type string gives: it hands over the places and the things that it keeps, in order, till a round says no more; asItLies, which makes it. Proved of the Go text, for every loop body that leaves the kept blocks alone. -/
import Derived.Test.YtmfkeobjbcinpaaIt7
import Derived.Test.YtmfkeobjbcinpaaOps7S
namespace Go.Proofs.Ytmfkeobjbcinpaa
open Go.RowKit Go.Shelf Go.Sort Go.Maps
set_option linter.unusedVariables false
attribute [local go_sem] Oper.semAt_some

/-- What lies at a place, as a value. -/
abbrev valS (p : Sp × ByteArray) : Sp × Value := (p.1, .string p.2)
def thingsS (M : List (Sp × ByteArray)) : List Value := M.map fun p => .string p.2
theorem keys_valS (M : List (Sp × ByteArray)) : keysT (M.map valS) = keysT M := by simp [keysT]
theorem vals_valS (M : List (Sp × ByteArray)) : (M.map valS).map (·.2) = thingsS M := by simp [thingsS]
abbrev ElS (M : List (Sp × ByteArray)) := {x : Sp × ByteArray // x ∈ M}
abbrev elES {M : List (Sp × ByteArray)} (x : ElS M) : Array Value := #[spotV x.1.1.1 x.1.1.2, .string x.1.2]
abbrev ItYieldsS (n l : Nat) (bs : List Nat) (M : List (Sp × ByteArray)) (J Jx : List (ElS M) → World → Prop) : Prop :=
  ∀ pre x W, J pre W → pre.length < M.length → YieldAt Fence.wide (n - 1) Try.prog l (elES x) W fun e W' =>
      (e = .returned (.bool true) ∧ J (pre ++ [x]) W' ∧ KS bs W W') ∨ (e = .returned (.bool false) ∧ Jx (pre ++ [x]) W')
abbrev GivesS (n : Nat) (lb : Array Value) (bs : List Nat) (M : List (Sp × ByteArray)) (w : World) : Prop :=
  SeqStopsK Fence.wide n Try.prog 77 lb (elES (M := M)) (KS bs) (fun ys => ys = M.attach) (fun pre => ∃ k, k ≤ M.length ∧ pre = M.attach.take k) M.length w

set_option maxRecDepth 100000 in
set_option maxHeartbeats 2000000 in
theorem it1S_in (n : Nat) (hn : 1 ≤ n) (lo Bp Bq : Nat) (bs : List Nat) (M : List (Sp × ByteArray)) (hl : M.length ≤ 65536) (J Jx : List (ElS M) → World → Prop) (HY : Hid (ItYieldsS n lo bs M J Jx)) (W : World) (hJ : AbidesFrom W.heap.size J)
    (HI : ItAt W 77 127 (.func (.func 77) #[] #[.pointer (some ⟨Bp, 0, none⟩), .pointer (some ⟨Bq, 0, none⟩)]) (M.map valS) bs) (h0 : J [] W) :
    CallsIn Fence.wide n Try.prog 77 #[.func (.yield lo) #[] #[], .pointer (some ⟨Bp, 0, none⟩), .pointer (some ⟨Bq, 0, none⟩)] W fun e W' => (∃ v, e = .returned v) ∧ (J M.attach W' ∨ ∃ k, k ≤ M.length ∧ Jx (M.attach.take k) W') := by
  obtain ⟨hlt, Bp', Bq', a, cap, a', cap', ev, m1, m2, b1, b2, s1, s2⟩ := HI
  obtain ⟨rfl, rfl⟩ : Bp = Bp' ∧ Bq = Bq' := by simpa using ev
  clear ev
  simp only [List.length_map] at b1 b2
  rw [keys_valS] at s1
  rw [vals_valS] at s2
  have p0 := b1.c1
  replace hJ := hide hJ
  replace hlt := hide hlt
  replace s1 := hide s1
  replace s2 := hide s2
  replace b2 := hide b2
  replace m1 := hide m1
  replace m2 := hide m2
  refine callsIn_of_wp Try.func77 rfl trivial ?_ rfl
  simp only [Try.ntmps77, List.size_toArray, List.length_cons, List.length_nil, Nat.reduceAdd, Nat.reduceSub, Array.replicate_succ, Array.replicate_zero, List.push_toArray, List.append_toArray, List.nil_append, List.cons_append]
  gi_wp2
  clear p0
  gi_loopw [8] (fun i wr => ∃ k : Nat, k ≤ M.length ∧ i = .int .i64 k ∧ Hid (J (M.attach.take k) wr) ∧ Hid (KS bs W wr)) (fun i _ => M.length - (intOf i).toNat)
  case atStart => exact ⟨0, Nat.zero_le _, rfl, hide h0, hide (KS.refl _ _)⟩
  case round =>
    obtain ⟨k, hk, rfl, Jk, Kk⟩ := hrel
    by_cases hlk : k < M.length
    · have hki : (k : Int) < (M.length : Int) := by omega
      obtain ⟨g, rfl, mg, hc⟩ : ∃ g, a = some ⟨g, 0, none⟩ ∧ g ∈ bs ∧ ∀ j (h : j < (keysT M).length), SpotAt W g j (keysT M)[j] := by
        rcases s1.out with h | h
        · rw [keysT, List.map_eq_nil_iff] at h; subst h; simp at hlk
        · exact h
      obtain ⟨g', rfl, mg', hc'⟩ : ∃ g, a' = some ⟨g, 0, none⟩ ∧ g ∈ bs ∧ ∀ j (h : j < (thingsS M).length), W.cell? ⟨g, j, none⟩ = some (thingsS M)[j] := by
        rcases s2.out with h | h
        · rw [thingsS, List.map_eq_nil_iff] at h; subst h; simp at hlk
        · exact h
      have e1 := hc k (by simpa [keysT] using hlk)
      have e2 := hc' k (by simpa [thingsS] using hlk)
      simp only [keysT, thingsS, List.getElem_map] at e1 e2
      have hS := hide (attach_take M k hlk)
      have hx := List.getElem_mem hlk
      obtain ⟨⟨⟨r, c⟩, y⟩, hM⟩ : ∃ p, M[k] = p := ⟨_, rfl⟩
      simp only [hM] at e1 e2 hx hS
      have q0 := (b2.out : Blk W Bq _ _)
      have q1 : Blk wr Bq #[.slice (some ⟨g', 0, none⟩) M.length cap'] 127 := (Kk.out.2 _ m2.out (hlt.out _ m2.out)).trans q0
      have q2 := fun o => (q1.alloc o).c1
      obtain ⟨x0, x1⟩ := e1.same (w' := wr) (Kk.out.2 _ mg (hlt.out _ mg))
      have y0 : wr.cell? ⟨g', k, none⟩ = some (.string y) := (World.cell?_of_block (a := ⟨g', k, none⟩) (Kk.out.2 _ mg' (hlt.out _ mg'))).trans e2
      have y1 := fun o => keep1 ((Below.refl wr.heap.size wr).alloc (Nat.le_refl _) o) y0
      have J2 : Hid (J (M.attach.take k) (wr.alloc (spotO r c)).drew) := hide (hJ.out _ _ _ none (hJ.out _ _ (wr.alloc (spotO r c)) none Jk.out (World.grownBy_alloc _ _ _) (fun q e => by cases e)) ⟨rfl, rfl, rfl, Nat.le_refl _, fun _ _ _ => rfl⟩ (fun q e => by cases e))
      obtain ⟨fn, tmps, assign, body, hy, hR⟩ := HY.out _ ⟨((r, c), y), hx⟩ _ J2.out (by rw [attach_len M k hk]; exact hlk)
      try dsimp only at hy
      have hR2 := hR.mono (R' := fun e W' => ∃ q : Bool, e = .returned (.bool q) ∧ Hid ((q = true ∧ J (M.attach.take (k + 1)) W' ∧ KS bs (wr.alloc (spotO r c)).drew W') ∨ (q = false ∧ Jx (M.attach.take (k + 1)) W'))) (by
        rintro e W3 (⟨rfl, hJ3, hk3⟩ | ⟨rfl, hJx3⟩)
        · exact ⟨true, rfl, hide (.inl ⟨rfl, by rw [hS.out]; exact hJ3, hk3⟩)⟩
        · exact ⟨false, rfl, hide (.inr ⟨rfl, by rw [hS.out]; exact hJx3⟩)⟩)
      have KA : Hid (KS bs W (wr.alloc (spotO r c)).drew) := hide (KS_t Kk.out ⟨by simp, fun k _ hl => Below.heap_alloc wr _ k hl⟩)
      clear hR hS e1 e2 hc hc' J2 q0 q1 hM
      gi_wp2
      gi_region_with (refine hR2.mono ?_; rintro e W3 ⟨q, rfl, hq⟩)
      all_goals (
        rcases hq.out with ⟨rfl, hJ3, hk3⟩ | ⟨rfl, hJx3⟩
        · gi_wp2
          go_roundw
          case rel => exact ⟨k + 1, hlk, by go_num, hide hJ3, hide (KS_t KA.out hk3)⟩
          case measure => simp [intOf]; omega
        · gi_wp2
          refine bodyPost_ret (results_none rfl _ _ _) rfl ?_
          exact ⟨⟨_, rfl⟩, .inr ⟨k + 1, hlk, hJx3⟩⟩)
    · have hki : ¬ (k : Int) < (M.length : Int) := by omega
      obtain rfl : k = M.length := by omega
      gi_wp2
      go_end0
      have hJ4 := Jk.out
      rw [show M.length = M.attach.length by simp, List.take_length] at hJ4
      exact ⟨⟨_, rfl⟩, .inl hJ4⟩
/-- The iterator's contract. -/
theorem itS_gives (n : Nat) (hn : 1 ≤ n) {M : List (Sp × ByteArray)} (hl : M.length ≤ 65536) {w : World} {v : Value} {bs : List Nat} (h : ItAt w 77 127 v (M.map valS) bs) : ∃ lb, v = .func (.func 77) #[] lb ∧ GivesS n lb bs M w := by
  obtain ⟨h0, Bp, Bq, a, cap, a', cap', rfl, hh⟩ := h
  exact ⟨_, rfl, fun lo J Jx W hW hJ _ hY hz => (it1S_in n hn lo Bp Bq bs M hl J Jx (hide hY) W hJ (ItAt.keep ⟨h0, Bp, Bq, a, cap, a', cap', rfl, hh⟩ hW) hz).mono fun e W' ⟨h, h'⟩ =>
    ⟨h, h'.elim (fun x => .inl ⟨_, rfl, x⟩) (fun ⟨k, hk, x⟩ => .inr ⟨_, ⟨k, hk, rfl⟩, x⟩)⟩⟩
end Go.Proofs.Ytmfkeobjbcinpaa
