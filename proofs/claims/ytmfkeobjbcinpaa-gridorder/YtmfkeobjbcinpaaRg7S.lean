/- A range over what a table of things of type string gave, as a law. -/
import Derived.Test.YtmfkeobjbcinpaaOver7S
namespace Go.Proofs.Ytmfkeobjbcinpaa
open Go.RowKit Go.Shelf Go.Sort Go.Maps
set_option linter.unusedVariables false

theorem fold_twoS (ts : Array Value) (p q : Tmp) (u v : Value) : (Array.zip #[p, q] #[u, v]).foldl (fun t (p, v) => t.setIfInBounds p v) ts = (ts.setIfInBounds p u).setIfInBounds q v := by simp
theorem itS_at (n : Nat) (hn : 1 ≤ n) {M : List (Sp × ByteArray)} (hl : M.length ≤ 65536) {w : World} {lb : Array Value} {bs : List Nat} (h : ItAt w 77 127 (.func (.func 77) #[] lb) (M.map valS) bs) : GivesS n lb bs M w := by
  obtain ⟨lb', e, hg⟩ := itS_gives n hn hl h
  have e' : lb = lb' := by simpa using e
  rw [e']
  exact hg
theorem itS_func {M : List (Sp × ByteArray)} {w : World} {v : Value} {bs : List Nat} (h : ItAt w 77 127 v (M.map valS) bs) : ∃ lb, v = .func (.func 77) #[] lb := by
  obtain ⟨_, Bp, Bq, a, cap, a', cap', e, _⟩ := h
  exact ⟨_, e⟩
theorem enter_itS : ∀ args w, (callFunc 77 args).run Try.prog w = .ok (.enter 77 args) w := enters_of Try.func77 (by kernel_rfl) rfl
theorem rangeSAB {n : Nat} (h1 : 1 ≤ n) {M : List (Sp × ByteArray)} {lb : Array Value} {bs : List Nat} {w0 : World} {g : Operand} {p1 p2 : Tmp} {assign body : Code} {Q : Exit → Act → World → Prop} {a : Act} {w : World} (s1 : Tmp) (s2 : Tmp) (hseq : GivesS (n - 1) lb bs M w0) (hb0 : Below w0.heap.size w0 w) (hbs : ∀ k ∈ bs, k < w.heap.size)
    (hg : a.eval g = .func (.func 77) #[] lb) (I : List (ElS M) → World → Prop) (Ix : Code → List (ElS M) → World → Prop) (hI : OwnFrom w.heap.size I) (hIx : ∀ c, OwnFrom w.heap.size (Ix c)) (h0 : I [] w) (hIs : ∀ pre W, I pre W → w.heap.size ≤ W.heap.size)
    (hassign : ∀ (lo : Nat) (x : ElS M) (W : World) (K : Act → World → Prop), K { tmps := (((a.tmps.setIfInBounds p1 (spotV x.1.1.1 x.1.1.2)).setIfInBounds p2 (.string x.1.2)).setIfInBounds s1 (.pointer (some ⟨W.heap.size, 0, none⟩))).setIfInBounds s2 (.string x.1.2), defers := [] } (W.alloc (spotO x.1.1.1 x.1.1.2)) → assign.wpIn (Fence.wide.inRound lo) (n - 1 - 1) Try.prog (Exit.then K (fun _ _ _ => False)) { tmps := (a.tmps.setIfInBounds p1 (spotV x.1.1.1 x.1.1.2)).setIfInBounds p2 (.string x.1.2), defers := [] } W)
    (hbody : ∀ (lo : Nat) (pre : List (ElS M)) (x : ElS M) (W : World) (Bx : Nat), w.heap.size ≤ lo → (∃ r, W.heap[lo]? = some (.loop r)) → I pre W → w.heap.size ≤ Bx → Blk W Bx #[.int .i64 x.1.1.1, .int .i64 x.1.1.2] 35 → pre.length < M.length →
      body.wpIn (Fence.wide.inRound lo) (n - 1 - 1) Try.prog (ownPostG w.heap.size (KS bs) I Ix (pre ++ [x]) W) { tmps := (((a.tmps.setIfInBounds p1 (spotV x.1.1.1 x.1.1.2)).setIfInBounds p2 (.string x.1.2)).setIfInBounds s1 (.pointer (some ⟨Bx, 0, none⟩))).setIfInBounds s2 (.string x.1.2), defers := [] } W)
    (hdone : ∀ (D : Nat) (W : World), w.heap.size ≤ D → I M.attach W → W.heap[D]? = some (.deferred (some [])) → Q .normal { a with defers := { target := .collected D, args := #[] } :: a.defers } W)
    (hstop : ∀ (D : Nat) (c : Code) (k : Nat) (W : World), w.heap.size ≤ D → k ≤ M.length → Ix c (M.attach.take k) W → W.heap[D]? = some (.deferred (some [])) → c.wp Try.prog Q { a with defers := { target := .collected D, args := #[] } :: a.defers } W) : (Code.rangeFunc g #[p1, p2] assign body).wp Try.prog Q a w :=
  (wpIn_wide (n := n)).1 (wpIn_rangeFunc_ownH (F := Fence.wide) rfl h1 hg trivial enter_itS hseq KS_t (KS_b hbs) hb0 (fun _ => rfl) I Ix hI hIx h0
    (fun x a' W => ∃ Bx, w.heap.size ≤ Bx ∧ Blk W Bx #[.int .i64 x.1.1.1, .int .i64 x.1.1.2] 35 ∧ a' = { tmps := (((a.tmps.setIfInBounds p1 (spotV x.1.1.1 x.1.1.2)).setIfInBounds p2 (.string x.1.2)).setIfInBounds s1 (.pointer (some ⟨Bx, 0, none⟩))).setIfInBounds s2 (.string x.1.2), defers := [] })
    (fun x a' _ X Y row hs hg' hr => by obtain ⟨Bx, e1, e2, e3⟩ := hs; exact ⟨Bx, e1, Blk.own Bx 35 (fun (_ : Unit) => #[.int .i64 x.1.1.1, .int .i64 x.1.1.2]) () X Y row e2 hg' (fun r e => (hr r e).2), e3⟩)
    (fun lo pre x W K hi hK => by rw [show elES x = #[spotV x.1.1.1 x.1.1.2, (.string x.1.2)] from rfl, fold_twoS]; exact hassign lo x W K (hK _ _ ((KeepsOthers.alloc _ _).from _) (KS.alloc _ _ _) (hI.alloc _ hi) ⟨W.heap.size, hIs _ _ hi, Blk.new W _ _, rfl⟩))
    (fun lo pre x a' W hl hr hi ⟨Bx, e1, e2, e3⟩ hlt => by subst e3; exact hbody lo pre x W Bx hl hr hi e1 e2 hlt)
    (fun D xs W hD hS hi hk => by subst hS; exact hdone D W hD hi hk)
    (fun D c pre W hD hS hi hk => by obtain ⟨k, hk', rfl⟩ := hS; exact wpIn_wide.2 (hstop D c k W hD hk' hi hk)))
theorem rangeSB {n : Nat} (h1 : 1 ≤ n) {M : List (Sp × ByteArray)} {lb : Array Value} {bs : List Nat} {w0 : World} {g : Operand} {p1 p2 : Tmp} {assign body : Code} {Q : Exit → Act → World → Prop} {a : Act} {w : World} (s2 : Tmp) (hseq : GivesS (n - 1) lb bs M w0) (hb0 : Below w0.heap.size w0 w) (hbs : ∀ k ∈ bs, k < w.heap.size)
    (hg : a.eval g = .func (.func 77) #[] lb) (I : List (ElS M) → World → Prop) (Ix : Code → List (ElS M) → World → Prop) (hI : OwnFrom w.heap.size I) (hIx : ∀ c, OwnFrom w.heap.size (Ix c)) (h0 : I [] w)
    (hassign : ∀ (lo : Nat) (x : ElS M) (W : World) (K : Act → World → Prop), K { tmps := ((a.tmps.setIfInBounds p1 (spotV x.1.1.1 x.1.1.2)).setIfInBounds p2 (.string x.1.2)).setIfInBounds s2 (.string x.1.2), defers := [] } W → assign.wpIn (Fence.wide.inRound lo) (n - 1 - 1) Try.prog (Exit.then K (fun _ _ _ => False)) { tmps := (a.tmps.setIfInBounds p1 (spotV x.1.1.1 x.1.1.2)).setIfInBounds p2 (.string x.1.2), defers := [] } W)
    (hbody : ∀ (lo : Nat) (pre : List (ElS M)) (x : ElS M) (W : World), w.heap.size ≤ lo → (∃ r, W.heap[lo]? = some (.loop r)) → I pre W → pre.length < M.length →
      body.wpIn (Fence.wide.inRound lo) (n - 1 - 1) Try.prog (ownPostG w.heap.size (KS bs) I Ix (pre ++ [x]) W) { tmps := ((a.tmps.setIfInBounds p1 (spotV x.1.1.1 x.1.1.2)).setIfInBounds p2 (.string x.1.2)).setIfInBounds s2 (.string x.1.2), defers := [] } W)
    (hdone : ∀ (D : Nat) (W : World), w.heap.size ≤ D → I M.attach W → W.heap[D]? = some (.deferred (some [])) → Q .normal { a with defers := { target := .collected D, args := #[] } :: a.defers } W)
    (hstop : ∀ (D : Nat) (c : Code) (k : Nat) (W : World), w.heap.size ≤ D → k ≤ M.length → Ix c (M.attach.take k) W → W.heap[D]? = some (.deferred (some [])) → c.wp Try.prog Q { a with defers := { target := .collected D, args := #[] } :: a.defers } W) : (Code.rangeFunc g #[p1, p2] assign body).wp Try.prog Q a w :=
  (wpIn_wide (n := n)).1 (wpIn_rangeFunc_ownH (F := Fence.wide) rfl h1 hg trivial enter_itS hseq KS_t (KS_b hbs) hb0 (fun _ => rfl) I Ix hI hIx h0
    (fun x a' W => a' = { tmps := ((a.tmps.setIfInBounds p1 (spotV x.1.1.1 x.1.1.2)).setIfInBounds p2 (.string x.1.2)).setIfInBounds s2 (.string x.1.2), defers := [] })
    (fun x a' _ X Y row hs hg' hr => hs)
    (fun lo pre x W K hi hK => by rw [show elES x = #[spotV x.1.1.1 x.1.1.2, (.string x.1.2)] from rfl, fold_twoS]; exact hassign lo x W K (hK _ _ (KeepsFrom.refl _ _) (KS.refl _ _) hi rfl))
    (fun lo pre x a' W hl hr hi e3 hlt => by subst e3; exact hbody lo pre x W hl hr hi hlt)
    (fun D xs W hD hS hi hk => by subst hS; exact hdone D W hD hi hk)
    (fun D c pre W hD hS hi hk => by obtain ⟨k, hk', rfl⟩ := hS; exact wpIn_wide.2 (hstop D c k W hD hk' hi hk)))
end Go.Proofs.Ytmfkeobjbcinpaa
