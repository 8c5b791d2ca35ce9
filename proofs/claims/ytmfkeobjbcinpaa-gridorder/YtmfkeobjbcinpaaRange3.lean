/- A range over what area.All gave, as a law: outside a round and within one; the loop's variable, a place, lies in a box of its own in every round. -/
import Derived.Test.YtmfkeobjbcinpaaBlk3
namespace Go.Proofs.Ytmfkeobjbcinpaa
open Go.RowKit Go.Shelf Go.Sort
set_option linter.unusedVariables false

abbrev spotE (x : Int × Int) : Array Value := #[spotV x.1 x.2]
/-- What the iterator over block Bn's area does: N places in row order. -/
abbrev Gives (n Bn : Nat) (t l : Int) (nc N : Nat) (w : World) : Prop :=
  SeqStopsK Fence.wide n Try.prog 85 #[.pointer (some ⟨Bn, 0, none⟩)] spotE (KB Bn) (fun ys => ys = upto t l nc N) (fun pre => ∃ k, k ≤ N ∧ pre = upto t l nc k) N w
/-- The area has N places, nc in a row. -/
def HasN (t l b r : Int) (nc N : Nat) : Prop :=
  ((0 ≤ t ∧ t ≤ b ∧ b < 65536 ∧ 0 ≤ l ∧ l ≤ r ∧ r < 702) ∧ ∃ nr : Nat, b + 1 = t + nr ∧ r + 1 = l + nc ∧ N = nr * nc) ∨ (¬ (0 ≤ t ∧ t ≤ b ∧ b < 65536 ∧ 0 ≤ l ∧ l ≤ r ∧ r < 702) ∧ N = 0)
theorem gives (n Bn : Nat) (hn : 1 ≤ n) (t l b r : Int) (nc N : Nat) (h : HasN t l b r nc N) (w : World) (hc : C4 w Bn (.int .i64 t) (.int .i64 l) (.int .i64 b) (.int .i64 r)) : Gives n Bn t l nc N w := by
  rcases h with ⟨ho, nr, h1, h2, rfl⟩ | ⟨ho, rfl⟩
  · exact all_stops n hn Bn t l b r nr nc ho h1 h2 w (block_lt_of_cell hc.1) hc
  · intro lo J Jx W hW hJ hJx hY h0
    refine (all_stops_bad n hn Bn t l b r ho w (block_lt_of_cell hc.1) hc lo J Jx W hW hJ hJx hY h0).mono ?_
    rintro e W' ⟨hv, ⟨xs, rfl, hx⟩ | ⟨_, h, _⟩⟩
    · exact ⟨hv, .inl ⟨_, rfl, hx⟩⟩
    · exact h.elim

theorem fold_one (ts : Array Value) (p : Tmp) (v : Value) : (Array.zip #[p] #[v]).foldl (fun t (p, v) => t.setIfInBounds p v) ts = ts.setIfInBounds p v := by simp

theorem range_out {n : Nat} (h1 : 1 ≤ n) {g : Operand} {p : Tmp} {assign body : Code} {Q : Exit → Act → World → Prop} {a : Act} {w : World} (s : Tmp) {Bn : Nat} {t l : Int} {nc N : Nat} (hseq : Gives (n - 1) Bn t l nc N w)
    (hg : a.eval g = .func (.func 85) #[] #[.pointer (some ⟨Bn, 0, none⟩)]) (hB : Bn < w.heap.size)
    (I : List (Int × Int) → World → Prop) (Ix : Code → List (Int × Int) → World → Prop) (hI : OwnFrom w.heap.size I) (hIx : ∀ c, OwnFrom w.heap.size (Ix c)) (h0 : I [] w) (hIs : ∀ pre W, I pre W → w.heap.size ≤ W.heap.size)
    (hassign : ∀ (lo : Nat) (x : Int × Int) (W : World) (K : Act → World → Prop), K { tmps := (a.tmps.setIfInBounds p (spotV x.1 x.2)).setIfInBounds s (.pointer (some ⟨W.heap.size, 0, none⟩)), defers := [] } (W.alloc (spotO x.1 x.2)) →
      assign.wpIn (Fence.wide.inRound lo) (n - 1 - 1) Try.prog (Exit.then K (fun _ _ _ => False)) { tmps := a.tmps.setIfInBounds p (spotV x.1 x.2), defers := [] } W)
    (hbody : ∀ (lo : Nat) (pre : List (Int × Int)) (x : Int × Int) (W : World) (Bx : Nat), w.heap.size ≤ lo → (∃ r, W.heap[lo]? = some (.loop r)) → I pre W → w.heap.size ≤ Bx → Blk W Bx #[.int .i64 x.1, .int .i64 x.2] 35 → pre.length < N →
      body.wpIn (Fence.wide.inRound lo) (n - 1 - 1) Try.prog (ownPostG w.heap.size (KB Bn) I Ix (pre ++ [x]) W) { tmps := (a.tmps.setIfInBounds p (spotV x.1 x.2)).setIfInBounds s (.pointer (some ⟨Bx, 0, none⟩)), defers := [] } W)
    (hdone : ∀ (D : Nat) (W : World), w.heap.size ≤ D → I (upto t l nc N) W → W.heap[D]? = some (.deferred (some [])) → Q .normal { a with defers := { target := .collected D, args := #[] } :: a.defers } W)
    (hstop : ∀ (D : Nat) (c : Code) (k : Nat) (W : World), w.heap.size ≤ D → k ≤ N → Ix c (upto t l nc k) W → W.heap[D]? = some (.deferred (some [])) → c.wp Try.prog Q { a with defers := { target := .collected D, args := #[] } :: a.defers } W) :
    (Code.rangeFunc g #[p] assign body).wp Try.prog Q a w :=
  (wpIn_wide (n := n)).1 (wpIn_rangeFunc_ownH (F := Fence.wide) rfl h1 hg trivial (enters_of Try.func85 (by kernel_rfl) rfl) hseq KB_t (KB_b hB) (Below.refl _ _) (fun _ => rfl) I Ix hI hIx h0
    (fun x a' W => ∃ Bx, w.heap.size ≤ Bx ∧ Blk W Bx #[.int .i64 x.1, .int .i64 x.2] 35 ∧ a' = { tmps := (a.tmps.setIfInBounds p (spotV x.1 x.2)).setIfInBounds s (.pointer (some ⟨Bx, 0, none⟩)), defers := [] })
    (fun x a' _ X Y row hs hg' hr => by obtain ⟨Bx, e1, e2, e3⟩ := hs; exact ⟨Bx, e1, Blk.own Bx 35 (fun (_ : Unit) => #[.int .i64 x.1, .int .i64 x.2]) () X Y row e2 hg' (fun r e => (hr r e).2), e3⟩)
    (fun lo pre x W K hi hK => by rw [show spotE x = #[spotV x.1 x.2] from rfl, fold_one]; exact hassign lo x W K (hK _ _ ((KeepsOthers.alloc _ _).from _) (Below.heap_alloc W _ Bn (Nat.lt_of_lt_of_le hB (hIs _ _ hi))) (hI.alloc _ hi) ⟨W.heap.size, hIs _ _ hi, Blk.new W _ _, rfl⟩))
    (fun lo pre x a' W hl hr hi ⟨Bx, e1, e2, e3⟩ hlt => by subst e3; exact hbody lo pre x W Bx hl hr hi e1 e2 hlt)
    (fun D xs W hD hS hi hk => by subst hS; exact hdone D W hD hi hk)
    (fun D c pre W hD hS hi hk => by obtain ⟨k, hk', rfl⟩ := hS; exact wpIn_wide.2 (hstop D c k W hD hk' hi hk)))

theorem range_in {n : Nat} (h1 : 1 ≤ n) {l₀ : Nat} {r₀ : Loop} {g : Operand} {p : Tmp} {assign body : Code} {Q : Exit → Act → World → Prop} {a : Act} {w : World} (s : Tmp) {Bn : Nat} {t l : Int} {nc N : Nat} (hl₀ : w.heap[l₀]? = some (.loop r₀)) (hseq : Gives (n - 1) Bn t l nc N w)
    (hg : a.eval g = .func (.func 85) #[] #[.pointer (some ⟨Bn, 0, none⟩)]) (hB : Bn < w.heap.size)
    (I : List (Int × Int) → World → Prop) (Ix : Code → List (Int × Int) → World → Prop) (hI : OwnFrom w.heap.size I) (hIx : ∀ c, OwnFrom w.heap.size (Ix c)) (h0 : I [] w) (hIs : ∀ pre W, I pre W → w.heap.size ≤ W.heap.size)
    (hassign : ∀ (lo : Nat) (x : Int × Int) (W : World) (K : Act → World → Prop), K { tmps := (a.tmps.setIfInBounds p (spotV x.1 x.2)).setIfInBounds s (.pointer (some ⟨W.heap.size, 0, none⟩)), defers := [] } (W.alloc (spotO x.1 x.2)) →
      assign.wpIn ((Fence.wide.inRound l₀).inRound lo) (n - 1 - 1) Try.prog (Exit.then K (fun _ _ _ => False)) { tmps := a.tmps.setIfInBounds p (spotV x.1 x.2), defers := [] } W)
    (hbody : ∀ (lo : Nat) (pre : List (Int × Int)) (x : Int × Int) (W : World) (Bx : Nat), w.heap.size ≤ lo → (∃ r, W.heap[lo]? = some (.loop r)) → I pre W → w.heap.size ≤ Bx → Blk W Bx #[.int .i64 x.1, .int .i64 x.2] 35 → pre.length < N →
      body.wpIn ((Fence.wide.inRound l₀).inRound lo) (n - 1 - 1) Try.prog (ownPostG w.heap.size (KB Bn) I Ix (pre ++ [x]) W) { tmps := (a.tmps.setIfInBounds p (spotV x.1 x.2)).setIfInBounds s (.pointer (some ⟨Bx, 0, none⟩)), defers := [] } W)
    (hdone : ∀ (W : World), I (upto t l nc N) W → Q .normal a W)
    (hstop : ∀ (c : Code) (k : Nat) (W : World), k ≤ N → Ix c (upto t l nc k) W → c.wpIn (Fence.wide.inRound l₀) n Try.prog Q a W) :
    (Code.rangeFunc g #[p] assign body).wpIn (Fence.wide.inRound l₀) n Try.prog Q a w :=
  wpIn_rangeFunc_ownN (F := Fence.wide.inRound l₀) (l₀ := l₀) (r₀ := r₀) rfl hl₀ h1 hg trivial (enters_of Try.func85 (by kernel_rfl) rfl) (SeqStopsK.inRound l₀ hseq) KB_t (KB_b hB) (Below.refl _ _) (fun _ => rfl) I Ix hI hIx h0
    (fun x a' W => ∃ Bx, w.heap.size ≤ Bx ∧ Blk W Bx #[.int .i64 x.1, .int .i64 x.2] 35 ∧ a' = { tmps := (a.tmps.setIfInBounds p (spotV x.1 x.2)).setIfInBounds s (.pointer (some ⟨Bx, 0, none⟩)), defers := [] })
    (fun x a' _ X Y row hs hg' hr => by obtain ⟨Bx, e1, e2, e3⟩ := hs; exact ⟨Bx, e1, Blk.own Bx 35 (fun (_ : Unit) => #[.int .i64 x.1, .int .i64 x.2]) () X Y row e2 hg' (fun r e => (hr r e).2), e3⟩)
    (fun lo pre x W K hi hK => by rw [show spotE x = #[spotV x.1 x.2] from rfl, fold_one]; exact hassign lo x W K (hK _ _ ((KeepsOthers.alloc _ _).from _) (Below.heap_alloc W _ Bn (Nat.lt_of_lt_of_le hB (hIs _ _ hi))) (hI.alloc _ hi) ⟨W.heap.size, hIs _ _ hi, Blk.new W _ _, rfl⟩))
    (fun lo pre x a' W hl hr hi ⟨Bx, e1, e2, e3⟩ hlt => by subst e3; exact hbody lo pre x W Bx hl hr hi e1 e2 hlt)
    (fun xs W hS hi => by subst hS; exact hdone W hi)
    (fun c pre W hS hi => by obtain ⟨k, hk', rfl⟩ := hS; exact hstop c k W hk' hi)
end Go.Proofs.Ytmfkeobjbcinpaa
