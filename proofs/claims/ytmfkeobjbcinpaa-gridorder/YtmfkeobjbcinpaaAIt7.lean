/- Ranging over the places of an area, told by their numbers; a range over places as a law. Proved of the Go text. -/
import Derived.Test.YtmfkeobjbcinpaaUpto7
namespace Go.Proofs.Ytmfkeobjbcinpaa
open Go.RowKit Go.Shelf Go.Sort
set_option linter.unusedVariables false

/-- The place of a number, whatever the number. -/
def plm (t l : Int) (nc N k : Nat) : Sp := plc t l nc (k % N)
theorem KS_c4 {B : Nat} {W W' : World} {v0 v1 v2 v3 : Value} (h : KS [B] W W') (c : C4 W B v0 v1 v2 v3) : C4 W' B v0 v1 v2 v3 := by
  have hb := h.2 B (by simp) (block_lt_of_cell c.1)
  exact ⟨(World.cell?_of_block (a := ⟨B, 0, none⟩) hb).trans c.1, (World.cell?_of_block (a := ⟨B, 1, none⟩) hb).trans c.2.1, (World.cell?_of_block (a := ⟨B, 2, none⟩) hb).trans c.2.2.1, (World.cell?_of_block (a := ⟨B, 3, none⟩) hb).trans c.2.2.2⟩
abbrev YieldsM (t l0 : Int) (nc n l Bn N : Nat) (J Jx : List Nat → World → Prop) : Prop :=
  ∀ pre x W, J pre W → pre.length < N → YieldAt Fence.wide (n - 1) Try.prog l #[spotV (plm t l0 nc N x).1 (plm t l0 nc N x).2] W fun e W' =>
      (e = .returned (.bool true) ∧ J (pre ++ [x]) W' ∧ KS [Bn] W W') ∨ (e = .returned (.bool false) ∧ Jx (pre ++ [x]) W')
set_option maxRecDepth 100000 in
set_option maxHeartbeats 2000000 in
theorem allM_in (n : Nat) (hn : 1 ≤ n) (lo Bn : Nat) (t l b r : Int) (nr nc : Nat) (ho : 0 ≤ t ∧ t ≤ b ∧ b < 65536 ∧ 0 ≤ l ∧ l ≤ r ∧ r < 702) (hr : b + 1 = t + nr) (hc' : r + 1 = l + nc) (HM : MayIs t l b r 0) (J Jx : List Nat → World → Prop)
    (hN : 0 < nr * nc) (HY : Hid (YieldsM t l nc n lo Bn (nr * nc) J Jx)) (W : World)
    (hJ : AbidesFrom W.heap.size J) (hc : C4 W Bn (.int .i64 t) (.int .i64 l) (.int .i64 b) (.int .i64 r)) (h0 : J [] W) :
    CallsIn Fence.wide n Try.prog 85 #[.func (.yield lo) #[] #[], .pointer (some ⟨Bn, 0, none⟩)] W fun e W' => (∃ v, e = .returned v) ∧
      (J (List.range (nr * nc)) W' ∨ (∃ k, k ≤ nr * nc ∧ Jx (List.range k) W')) := by
  obtain ⟨o1, o2, o3, o4, o5, o6⟩ := ho
  have hW := hc
  obtain ⟨c0, c1, c2, c3⟩ := hc
  refine callsIn_of_wp Try.func85 rfl trivial ?_ rfl
  simp only [Try.ntmps85, List.size_toArray, List.length_cons, List.length_nil, Nat.reduceAdd, Nat.reduceSub, Array.replicate_succ, Array.replicate_zero, List.push_toArray, List.append_toArray, List.nil_append, List.cons_append]
  gi_wp2_with (refine ⟨trivial, ?_⟩; gi_at_call 72; refine (callsIn_wide.2 (HM.out _)).mono ?_; rintro e w1 ⟨rfl, hb1⟩; obtain ⟨a0, a1, a2, a3⟩ := C4.keep hW hb1)
  have J1 := hide (hJ _ _ _ none h0 (grown_below hb1 none) (fun r h => by cases h))
  have C1 := hide (C4.keep hW hb1)
  clear hJ h0 hW c0 c1 c2 c3 HM a0 a1 a2 a3
  gi_loopw [3] (fun row wr => ∃ i : Nat, i ≤ nr ∧ row = .int .i64 (t + i) ∧ Hid (J (List.range (i * nc)) wr) ∧ Hid (C4 wr Bn (.int .i64 t) (.int .i64 l) (.int .i64 b) (.int .i64 r)))
    (fun row wr => (b + 1 - intOf row).toNat)
  case atStart => exact ⟨0, by omega, by simp, by rw [Nat.zero_mul]; exact J1, C1⟩
  case round =>
    obtain ⟨i, hi, rfl, Ji, Ci⟩ := hrel
    obtain ⟨c0, c1, c2, c3⟩ := Ci.out
    by_cases hlt : i < nr
    · have hle : t + (i : Int) ≤ b := by omega
      gi_wp2
      clear c0 c1 c2 c3
      gi_loopw [4] (fun col wr => ∃ j : Nat, j ≤ nc ∧ col = .int .i64 (l + j) ∧ Hid (J (List.range (i * nc + j)) wr) ∧ Hid (C4 wr Bn (.int .i64 t) (.int .i64 l) (.int .i64 b) (.int .i64 r)))
        (fun col wr => (r + 1 - intOf col).toNat)
      case atStart => exact ⟨0, by omega, by simp, Ji, Ci⟩
      case round =>
        obtain ⟨j, hj, rfl, Jj, Cj⟩ := hrel
        obtain ⟨c0, c1, c2, c3⟩ := Cj.out
        by_cases hlt2 : j < nc
        · have hle2 : l + (j : Int) ≤ r := by omega
          have hin : i * nc + j < nr * nc := by
            have := Nat.mul_le_mul_right nc (show i + 1 ≤ nr from hlt)
            rw [Nat.add_mul] at this
            omega
          obtain ⟨fn, tmps, assign, body, hy, hR⟩ := HY.out _ (i * nc + j) _ Jj.out (by rw [List.length_range]; exact hin)
          have hS := hide (List.range_succ (n := i * nc + j))
          unfold plm at hy
          rw [Nat.mod_eq_of_lt hin, plc_at t l nc i j hlt2] at hy
          dsimp only at hy
          gi_wp2
          refine hR.mono ?_
          rintro e W3 (⟨rfl, hJ3, hk3⟩ | ⟨rfl, hJx3⟩)
          · gi_wp2
            go_roundw
            case rel => exact ⟨j + 1, by omega, by go_num, by rw [← hS.out] at hJ3; exact hJ3, hide (KS_c4 hk3 Cj.out)⟩
            case measure => simp [intOf]; omega
          · gi_wp2
            refine bodyPost_ret (results_none rfl _ _ _) rfl ?_
            exact ⟨⟨_, rfl⟩, .inr ⟨i * nc + j + 1, hin, by rw [← hS.out] at hJx3; exact hJx3⟩⟩
        · have hle2 : ¬ l + (j : Int) ≤ r := by omega
          obtain rfl : j = nc := by omega
          gi_wp2
          go_roundw
          case rel => exact ⟨i + 1, by omega, by go_num, by rw [Nat.add_mul, Nat.one_mul]; exact Jj, Cj⟩
          case measure => simp [intOf]; omega
    · have hle : ¬ t + (i : Int) ≤ b := by omega
      obtain rfl : i = nr := by omega
      gi_wp2
      go_end0
      exact ⟨⟨_, rfl⟩, .inl Ji.out⟩

/-- The contract of area.All's iterator, its places told by their numbers. -/
theorem allM_gives (n : Nat) (hn : 1 ≤ n) (Bn : Nat) (t l b r : Int) (nr nc : Nat) (ho : 0 ≤ t ∧ t ≤ b ∧ b < 65536 ∧ 0 ≤ l ∧ l ≤ r ∧ r < 702) (hr : b + 1 = t + nr) (hc' : r + 1 = l + nc) (hN : 0 < nr * nc) (w : World)
    (hc : C4 w Bn (.int .i64 t) (.int .i64 l) (.int .i64 b) (.int .i64 r)) :
    SeqStopsK Fence.wide n Try.prog 85 #[.pointer (some ⟨Bn, 0, none⟩)] (fun x : Nat => #[spotV (plm t l nc (nr * nc) x).1 (plm t l nc (nr * nc) x).2]) (KS [Bn]) (fun ys => ys = List.range (nr * nc)) (fun _ => True) (nr * nc) w := fun lo J Jx W hW hJ _ hY h0 =>
  (allM_in n hn lo Bn t l b r nr nc ho hr hc' (by have := amay_any t l b r; rw [eA_ok ho] at this; exact hide this) J Jx hN (hide hY) W hJ (C4.keep hc hW) h0).mono fun e W' ⟨h, h'⟩ =>
    ⟨h, h'.elim (fun a => .inl ⟨_, rfl, a⟩) (fun ⟨k, hk, a⟩ => .inr ⟨_, trivial, a⟩)⟩

/-- A range over places, outside a round. -/
theorem range_one {α : Type} (f : α → Sp) {n : Nat} (h1 : 1 ≤ n) {G : Nat} {lb : Array Value} {Kp : World → World → Prop} {S Sx : List α → Prop} {N : Nat} {w0 : World} (hent : ∀ args w, (callFunc G args).run Try.prog w = .ok (.enter G args) w)
    {g : Operand} {p : Tmp} {assign body : Code} {Q : Exit → Act → World → Prop} {a : Act} {w : World} (s : Tmp) (hseq : SeqStopsK Fence.wide (n - 1) Try.prog G lb (fun x => #[spotV (f x).1 (f x).2]) Kp S Sx N w0) (hb0 : Below w0.heap.size w0 w)
    (Kt : ∀ {A B C : World}, Kp A B → Kp B C → Kp A C) (Kb : ∀ (W : World) (l : Nat) (o o' : Obj), w.heap.size ≤ l → W.heap[l]? = some o → o.isCells = false → o.isWalk = false → Kp W (W.putObj l o')) (Ka : ∀ (W : World) (o : Obj), Kp W (W.alloc o))
    (hg : a.eval g = .func (.func G) #[] lb) (I : List α → World → Prop) (Ix : Code → List α → World → Prop) (hI : OwnFrom w.heap.size I) (hIx : ∀ c, OwnFrom w.heap.size (Ix c)) (h0 : I [] w) (hIs : ∀ pre W, I pre W → w.heap.size ≤ W.heap.size)
    (hassign : ∀ (lo : Nat) (x : Sp) (W : World) (K : Act → World → Prop), K { tmps := (a.tmps.setIfInBounds p (spotV x.1 x.2)).setIfInBounds s (.pointer (some ⟨W.heap.size, 0, none⟩)), defers := [] } (W.alloc (spotO x.1 x.2)) →
      assign.wpIn (Fence.wide.inRound lo) (n - 1 - 1) Try.prog (Exit.then K (fun _ _ _ => False)) { tmps := a.tmps.setIfInBounds p (spotV x.1 x.2), defers := [] } W)
    (hbody : ∀ (lo : Nat) (pre : List α) (x : α) (W : World) (Bx : Nat), w.heap.size ≤ lo → (∃ r, W.heap[lo]? = some (.loop r)) → I pre W → w.heap.size ≤ Bx → Blk W Bx #[.int .i64 (f x).1, .int .i64 (f x).2] 35 → pre.length < N →
      body.wpIn (Fence.wide.inRound lo) (n - 1 - 1) Try.prog (ownPostG w.heap.size Kp I Ix (pre ++ [x]) W) { tmps := (a.tmps.setIfInBounds p (spotV (f x).1 (f x).2)).setIfInBounds s (.pointer (some ⟨Bx, 0, none⟩)), defers := [] } W)
    (hdone : ∀ (D : Nat) (ys : List α) (W : World), w.heap.size ≤ D → S ys → I ys W → W.heap[D]? = some (.deferred (some [])) → Q .normal { a with defers := { target := .collected D, args := #[] } :: a.defers } W)
    (hstop : ∀ (D : Nat) (c : Code) (pre : List α) (W : World), w.heap.size ≤ D → Sx pre → Ix c pre W → W.heap[D]? = some (.deferred (some [])) → c.wp Try.prog Q { a with defers := { target := .collected D, args := #[] } :: a.defers } W) :
    (Code.rangeFunc g #[p] assign body).wp Try.prog Q a w :=
  (wpIn_wide (n := n)).1 (wpIn_rangeFunc_ownH (F := Fence.wide) rfl h1 hg trivial hent hseq Kt Kb hb0 (fun _ => rfl) I Ix hI hIx h0
    (fun x a' W => ∃ Bx, w.heap.size ≤ Bx ∧ Blk W Bx #[.int .i64 (f x).1, .int .i64 (f x).2] 35 ∧ a' = { tmps := (a.tmps.setIfInBounds p (spotV (f x).1 (f x).2)).setIfInBounds s (.pointer (some ⟨Bx, 0, none⟩)), defers := [] })
    (fun x a' _ X Y row hs hg' hr => by obtain ⟨Bx, e1, e2, e3⟩ := hs; exact ⟨Bx, e1, Blk.own Bx 35 (fun (_ : Unit) => #[.int .i64 (f x).1, .int .i64 (f x).2]) () X Y row e2 hg' (fun r e => (hr r e).2), e3⟩)
    (fun lo pre x W K hi hK => by rw [fold_one]; exact hassign lo (f x) W K (hK _ _ ((KeepsOthers.alloc _ _).from _) (Ka _ _) (hI.alloc _ hi) ⟨W.heap.size, hIs _ _ hi, Blk.new W _ _, rfl⟩))
    (fun lo pre x a' W hl hr hi ⟨Bx, e1, e2, e3⟩ hlt => by subst e3; exact hbody lo pre x W Bx hl hr hi e1 e2 hlt)
    (fun D xs W hD hS hi hk => hdone D xs W hD hS hi hk)
    (fun D c pre W hD hS hi hk => wpIn_wide.2 (hstop D c pre W hD hS hi hk)))
end Go.Proofs.Ytmfkeobjbcinpaa
