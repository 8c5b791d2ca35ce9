/- A range over what runes.All gave, its runes told by their numbers: outside a round, and within one. -/
import Derived.Test.YtllbgjeibcaajaaDoorBlk5
namespace Go.Proofs.YtllbgjeibcaajaaDoor
open Go.RowKit Go.Shelf Go.Sort
set_option linter.unusedVariables false
attribute [local go_sem] Oper.semAt_some

abbrev YieldsN (s : ByteArray) (n l N : Nat) (J Jx : List Nat → World → Prop) : Prop :=
  ∀ pre x W, J pre W → pre.length < N → YieldAt Fence.wide (n - 1) Tryd.prog l (runeE (plc s x)) W fun e W' =>
      (e = .returned (.bool true) ∧ J (pre ++ [x]) W' ∧ KeepsWalks W W') ∨ (e = .returned (.bool false) ∧ Jx (pre ++ [x]) W')

set_option maxRecDepth 100000 in
set_option maxHeartbeats 2000000 in
theorem allN_in (n : Nat) (hn : 1 ≤ n) (lo Bn : Nat) (s : ByteArray) (J Jx : List Nat → World → Prop)
    (HY : Hid (YieldsN s n lo (rc s 0) J Jx)) (W : World) (hJ : AbidesFrom W.heap.size J) (hc : W.cell? ⟨Bn, 0, none⟩ = some (.string s)) (h0 : J [] W) :
    CallsIn Fence.wide n Tryd.prog 23 #[.func (.yield lo) #[] #[], .pointer (some ⟨Bn, 0, none⟩)] W fun e W' => (∃ v, e = .returned v) ∧
      (J (List.range (rc s 0)) W' ∨ (∃ k, k ≤ rc s 0 ∧ Jx (List.range k) W')) := by
  refine callsIn_of_wp Tryd.func23 rfl trivial ?_ rfl
  simp only [Tryd.ntmps23, List.size_toArray, List.length_cons, List.length_nil, Nat.reduceAdd, Nat.reduceSub, Array.replicate_succ, Array.replicate_zero, List.push_toArray, List.append_toArray, List.nil_append, List.cons_append]
  gi_wp2
  have J1 := hide (hJ _ _ (W.iter s 0) none h0 (grown_below (iter_below W s 0) none) (fun r h => by cases h))
  have R1 := hide (World.iter_heap W s 0)
  replace hJ := hide hJ
  clear h0 hc
  gi_loopw [3, 4] (fun _ _ wr => ∃ i : Nat, i ≤ rc s 0 ∧ Hid (J (List.range i) wr) ∧ Hid (wr.heap[W.heap.size]? = some (.stringIter s (sk s i 0)))) (fun _ _ wr => s.size - wr.iterPos W.heap.size)
  case atStart => exact ⟨0, Nat.zero_le _, J1, R1⟩
  case round =>
    obtain ⟨i, hi, Ji, Ri⟩ := hrel
    by_cases hlt : sk s i 0 < s.size
    · have hnx := fun ty => next_at wr W.heap.size s (sk s i 0) ty Ri.out hlt
      have hin := (sk_lt_iff s i 0 (Nat.zero_le _)).1 hlt
      have hwp := hide (wd_pos s _ hlt)
      have hst : sk s i 0 + wd s (sk s i 0) = sk s (i + 1) 0 := by rw [sk_succ, nx, if_pos hlt]
      have hms : Hid (wr.iterPos W.heap.size = sk s i 0) := hide (by simp [World.iterPos, Ri.out])
      rw [hst] at hnx
      have J2 := hide (hJ.out _ _ (wr.putObj W.heap.size (.stringIter s (sk s (i + 1) 0))) (some W.heap.size) Ji.out (grownBy_putObj' _ _ _) (fun r h => by cases h; exact ⟨Nat.le_refl _, _, Ri.out, rfl⟩))
      have R2 : Hid ((wr.putObj W.heap.size (.stringIter s (sk s (i + 1) 0))).heap[W.heap.size]? = some (.stringIter s (sk s (i + 1) 0))) := hide (World.putObj_heap_same (Array.getElem?_eq_some_iff.1 Ri.out).1)
      have hls : Hid (sk s i 0 < sk s (i + 1) 0) := hide (by rw [← hst]; have := hwp.out; omega)
      replace hst := hide hst
      obtain ⟨fn, tmps, assign, body, hy, hR⟩ := HY.out _ i _ J2.out (by rw [List.length_range]; exact hin)
      have hS : Hid (List.range (i + 1) = List.range i ++ [i]) := hide List.range_succ
      unfold plc at hy
      try dsimp only at hy
      generalize wr.putObj W.heap.size (.stringIter s (sk s (i + 1) 0)) = wp at *
      generalize nr s (sk s i 0) = x2 at *
      generalize h3 : sk s (i + 1) 0 = x3 at *
      generalize h1 : sk s i 0 = x1 at *
      replace h3 := hide h3
      replace h1 := hide h1
      gi_wp2
      refine hR.mono ?_
      rintro e W3 (⟨rfl, hJ3, hk3⟩ | ⟨rfl, hJx3⟩)
      · have R3 := hide (hk3.same _ _ R2.out rfl)
        gi_wp2
        go_roundw
        case rel => exact ⟨i + 1, hin, hide (by rw [hS.out]; exact hJ3), hide (by rw [h3.out]; exact R3.out)⟩
        case measure =>
          have e : W3.iterPos W.heap.size = x3 := by simp [World.iterPos, R3.out]
          rw [e, hms.out]
          have := hls.out
          omega
      · gi_wp2
        refine bodyPost_ret (results_none rfl _ _ _) rfl ?_
        exact ⟨⟨_, rfl⟩, .inr ⟨i + 1, hin, by rw [← hS.out] at hJx3; exact hJx3⟩⟩
    · have hnx := fun ty => stop_at wr W.heap.size s (sk s i 0) ty Ri.out hlt
      have hie : Hid (i = rc s 0) := by
        rcases Nat.lt_or_ge i (rc s 0) with h | h
        · exact absurd ((sk_lt_iff s i 0 (Nat.zero_le _)).2 h) hlt
        · exact hide (by omega)
      gi_wp2
      go_end0
      exact ⟨⟨_, rfl⟩, .inl (by rw [← hie.out]; exact Ji.out)⟩
/-- The contract of runes.All's iterator. -/
abbrev GivesN (n Bn : Nat) (s : ByteArray) (w : World) : Prop :=
  SeqStopsK Fence.wide n Tryd.prog 23 #[.pointer (some ⟨Bn, 0, none⟩)] (fun x => runeE (plc s x)) KeepsWalks (fun ys => ys = List.range (rc s 0)) (fun pre => ∃ k, k ≤ rc s 0 ∧ pre = List.range k) (rc s 0) w
theorem givesN (n Bn : Nat) (hn : 1 ≤ n) (s : ByteArray) (w : World) (hc : w.cell? ⟨Bn, 0, none⟩ = some (.string s)) : GivesN n Bn s w := fun lo J Jx W hW hJ _ hY h0 =>
  (allN_in n hn lo Bn s J Jx (hide hY) W hJ (keep1 hW hc) h0).mono fun e W' ⟨h, h'⟩ => ⟨h, h'.elim (fun a => .inl ⟨_, rfl, a⟩) (fun ⟨k, hk, a⟩ => .inr ⟨_, ⟨k, hk, rfl⟩, a⟩)⟩


theorem range_outN {n : Nat} (h1 : 1 ≤ n) {g : Operand} {p q : Tmp} {assign body : Code} {Q : Exit → Act → World → Prop} {a : Act} {w : World} (st : Array Value → Nat → Array Value) {Bn : Nat} {s : ByteArray} (hseq : GivesN (n - 1) Bn s w)
    (hg : a.eval g = .func (.func 23) #[] #[.pointer (some ⟨Bn, 0, none⟩)])
    (I : List Nat → World → Prop) (Ix : Code → List Nat → World → Prop) (hI : OwnFrom w.heap.size I) (hIx : ∀ c, OwnFrom w.heap.size (Ix c)) (h0 : I [] w)
    (hassign : ∀ (lo : Nat) (x : Nat) (W : World) (K : Act → World → Prop), K { tmps := st (fr2 a.tmps p q (plc s x)) x, defers := [] } W →
      assign.wpIn (Fence.wide.inRound lo) (n - 1 - 1) Tryd.prog (Exit.then K (fun _ _ _ => False)) { tmps := fr2 a.tmps p q (plc s x), defers := [] } W)
    (hbody : ∀ (lo : Nat) (pre : List Nat) (x : Nat) (W : World), w.heap.size ≤ lo → (∃ r, W.heap[lo]? = some (.loop r)) → I pre W → pre.length < rc s 0 →
      body.wpIn (Fence.wide.inRound lo) (n - 1 - 1) Tryd.prog (ownPostG w.heap.size KeepsWalks I Ix (pre ++ [x]) W) { tmps := st (fr2 a.tmps p q (plc s x)) x, defers := [] } W)
    (hdone : ∀ (D : Nat) (W : World), w.heap.size ≤ D → I (List.range (rc s 0)) W → W.heap[D]? = some (.deferred (some [])) → Q .normal { a with defers := { target := .collected D, args := #[] } :: a.defers } W)
    (hstop : ∀ (D : Nat) (c : Code) (k : Nat) (W : World), w.heap.size ≤ D → k ≤ rc s 0 → Ix c (List.range k) W → W.heap[D]? = some (.deferred (some [])) → c.wp Tryd.prog Q { a with defers := { target := .collected D, args := #[] } :: a.defers } W) :
    (Code.rangeFunc g #[p, q] assign body).wp Tryd.prog Q a w :=
  (wpIn_wide (n := n)).1 (wpIn_rangeFunc_ownH (F := Fence.wide) rfl h1 hg trivial (enters_of Tryd.func23 (by kernel_rfl) rfl) hseq (fun h k => h.trans k) (walksK_b (w := w)) (Below.refl _ _) (fun _ => rfl) I Ix hI hIx h0
    (fun x a' W => a' = { tmps := st (fr2 a.tmps p q (plc s x)) x, defers := [] })
    (fun x a' _ X Y row hs hg' hr => hs)
    (fun lo pre x W K hi hK => by rw [show runeE (plc s x) = #[.int .i64 (plc s x).1, .int .i32 (plc s x).2] from rfl, fold_two]; exact hassign lo x W K (hK _ _ ((KeepsOthers.refl _).from _) (KeepsWalks.refl _) hi rfl))
    (fun lo pre x a' W hl hr hi e3 hlt => by subst e3; exact hbody lo pre x W hl hr hi hlt)
    (fun D xs W hD hS hi hk => by subst hS; exact hdone D W hD hi hk)
    (fun D c pre W hD hS hi hk => by obtain ⟨k, hk', rfl⟩ := hS; exact wpIn_wide.2 (hstop D c k W hD hk' hi hk)))

theorem range_inN {n : Nat} (h1 : 1 ≤ n) {l₀ : Nat} {r₀ : Loop} {g : Operand} {p q : Tmp} {assign body : Code} {Q : Exit → Act → World → Prop} {a : Act} {w : World} (st : Array Value → Nat → Array Value) {Bn : Nat} {s : ByteArray} (hl₀ : w.heap[l₀]? = some (.loop r₀)) (hseq : GivesN (n - 1) Bn s w)
    (hg : a.eval g = .func (.func 23) #[] #[.pointer (some ⟨Bn, 0, none⟩)])
    (I : List Nat → World → Prop) (Ix : Code → List Nat → World → Prop) (hI : OwnFrom w.heap.size I) (hIx : ∀ c, OwnFrom w.heap.size (Ix c)) (h0 : I [] w)
    (hassign : ∀ (lo : Nat) (x : Nat) (W : World) (K : Act → World → Prop), K { tmps := st (fr2 a.tmps p q (plc s x)) x, defers := [] } W →
      assign.wpIn ((Fence.wide.inRound l₀).inRound lo) (n - 1 - 1) Tryd.prog (Exit.then K (fun _ _ _ => False)) { tmps := fr2 a.tmps p q (plc s x), defers := [] } W)
    (hbody : ∀ (lo : Nat) (pre : List Nat) (x : Nat) (W : World), w.heap.size ≤ lo → (∃ r, W.heap[lo]? = some (.loop r)) → I pre W → pre.length < rc s 0 →
      body.wpIn ((Fence.wide.inRound l₀).inRound lo) (n - 1 - 1) Tryd.prog (ownPostG w.heap.size KeepsWalks I Ix (pre ++ [x]) W) { tmps := st (fr2 a.tmps p q (plc s x)) x, defers := [] } W)
    (hdone : ∀ (W : World), I (List.range (rc s 0)) W → Q .normal a W)
    (hstop : ∀ (c : Code) (k : Nat) (W : World), k ≤ rc s 0 → Ix c (List.range k) W → c.wpIn (Fence.wide.inRound l₀) n Tryd.prog Q a W) :
    (Code.rangeFunc g #[p, q] assign body).wpIn (Fence.wide.inRound l₀) n Tryd.prog Q a w :=
  wpIn_rangeFunc_ownN (F := Fence.wide.inRound l₀) (l₀ := l₀) (r₀ := r₀) rfl hl₀ h1 hg trivial (enters_of Tryd.func23 (by kernel_rfl) rfl) (SeqStopsK.inRound l₀ hseq) (fun h k => h.trans k) (walksK_b (w := w)) (Below.refl _ _) (fun _ => rfl) I Ix hI hIx h0
    (fun x a' W => a' = { tmps := st (fr2 a.tmps p q (plc s x)) x, defers := [] })
    (fun x a' _ X Y row hs hg' hr => hs)
    (fun lo pre x W K hi hK => by rw [show runeE (plc s x) = #[.int .i64 (plc s x).1, .int .i32 (plc s x).2] from rfl, fold_two]; exact hassign lo x W K (hK _ _ ((KeepsOthers.refl _).from _) (KeepsWalks.refl _) hi rfl))
    (fun lo pre x a' W hl hr hi e3 hlt => by subst e3; exact hbody lo pre x W hl hr hi hlt)
    (fun xs W hS hi => by subst hS; exact hdone W hi)
    (fun c pre W hS hi => by obtain ⟨k, hk', rfl⟩ := hS; exact hstop c k W hk' hi)

/-- A list that is no front of the runes' numbers. -/
def NoFrontN (N : Nat) (pre : List Nat) : Prop := ¬ ∃ k, k ≤ N ∧ pre = List.range k
theorem noFrontN_of {N m x : Nat} (h : x ≠ m) : NoFrontN N (List.range m ++ [x]) := by
  rintro ⟨k, hk, e⟩
  have hl := congrArg List.length e
  simp at hl
  subst hl
  rw [List.range_succ] at e
  exact h (by simpa using e)
theorem sk_inj {s : ByteArray} {m x : Nat} (hm : m < rc s 0) (h : x ≠ m) : sk s x 0 ≠ sk s m 0 := by
  rcases Nat.lt_or_ge x m with hx | hx
  · have := sk_strict s (Nat.zero_le _) hx (by omega)
    omega
  · have := sk_strict s (Nat.zero_le _) (show m < x by omega) hm
    omega
end Go.Proofs.YtllbgjeibcaajaaDoor
