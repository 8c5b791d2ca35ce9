/- Whose memory is whose: a round more, a byte more. -/
import Derived.Test.YtdbdonpcdoeeiaaLed6
namespace Go.Proofs.Ytdbdonpcdoeeiaa
open Go.RowKit Go.Sort
set_option linter.unusedVariables false

theorem sl_ne {a b n m c d : Nat} (h : b ≠ a) : sl b n c ≠ sl a m d := fun e => h (by injection e with e1; injection e1 with e2; injection e2)
theorem kinds_ne {w : World} {e e' B n B' n' : Nat} {v v' : Value} {xs ys : List Value} (h : w.ownsRow B e 1 v n xs) (h' : w.ownsRow B' e' 1 v' n' ys) (hne : e ≠ e') : v.ownBlock = none ∨ v.ownBlock ≠ v'.ownBlock := by
  rcases h.2 with ⟨rfl, _⟩ | ⟨g, c, cur, rfl, _, hg, _⟩
  · exact .inl rfl
  · refine .inr fun e0 => ?_
    rcases h'.2 with ⟨rfl, _⟩ | ⟨g', c', cur', rfl, _, hg', _⟩
    · simp [Value.ownBlock] at e0
    · have : g = g' := by simpa [Value.ownBlock] using e0
      subst this
      rw [hg'] at hg
      cases hg
      exact hne rfl
theorem below_row {W w w' : World} {e n : Nat} {v : Value} {xs : List Value} (hb : Below W.heap.size W w) (h : w.ownsRow W.heap.size e 1 v n xs) (hg : w.grownBy w' v.ownBlock) : Below W.heap.size W w' :=
  hb.grown hg hb.size (fun k e => (h.lt k e).1)
abbrev lens (L : Nat → List UInt8) : Nat → Nat := fun j => (L j).length
/-- Behind the first, the second of three lists' growing. -/
def St3 (W w : World) (N : Nat) (s3 s4 s5 : Value) (gl cl nl gq cq : Nat → Nat) (L : Nat → List UInt8) (ga ma ca gb cb : Nat) (xa xb : List Value) : Prop :=
  w.ownsRow W.heap.size 28 1 s3 (N + 1) (lvs gl nl cl N ++ [sl ga ma ca]) ∧ w.ownsRow W.heap.size 28 1 s4 N (lvs gq (lens L) cq N) ∧ w.ownsRow W.heap.size 9 1 s5 N (wvs L N) ∧ Led W w N gl cl nl gq cq L ∧ Below W.heap.size W w ∧ (N = 0 → s4 = .slice none 0 0) ∧ RB w 5 ga ca xa ∧ RB w 5 gb cb xb
def St4 (W w : World) (N : Nat) (s3 s4 s5 : Value) (gl cl nl gq cq : Nat → Nat) (L : Nat → List UInt8) (ga ma ca gb mb cb : Nat) (xa xb : List Value) : Prop :=
  w.ownsRow W.heap.size 28 1 s3 (N + 1) (lvs gl nl cl N ++ [sl ga ma ca]) ∧ w.ownsRow W.heap.size 28 1 s4 (N + 1) (lvs gq (lens L) cq N ++ [sl gb mb cb]) ∧ w.ownsRow W.heap.size 9 1 s5 N (wvs L N) ∧ Led W w N gl cl nl gq cq L ∧ Below W.heap.size W w ∧ RB w 5 ga ca xa ∧ RB w 5 gb cb xb
theorem led_row {W w w' : World} {N : Nat} {gl cl nl gq cq : Nat → Nat} {L : Nat → List UInt8} {B e n : Nat} {v : Value} {xs : List Value} (h : Led W w N gl cl nl gq cq L) (hv : w.ownsRow B e 1 v n xs) (he : 5 ≠ e) (hg : w.grownBy w' v.ownBlock) : Led W w' N gl cl nl gq cq L :=
  h.kept hg (fun j hj => ⟨type_ne (h j hj).2.1 hv he, type_ne (h j hj).2.2 hv he⟩)
theorem St.grow3 {W w w' : World} {N : Nat} {s3 s4 s5 v' : Value} {gl cl nl gq cq : Nat → Nat} {L : Nat → List UInt8} {ga ma ca gb cb : Nat} {xa xb : List Value} {o : Obj} (h : St W w N s3 s4 s5 gl cl nl gq cq L) (ra : RB w 5 ga ca xa) (rb : RB w 5 gb cb xb)
    (hown' : w'.ownsRow W.heap.size 28 1 v' (N + 1) (lvs gl nl cl N ++ [sl ga ma ca])) (hg0 : (w.alloc o).grownBy w' s3.ownBlock) : St3 W w' N v' s4 s5 gl cl nl gq cq L ga ma ca gb cb xa xb := by
  obtain ⟨h1, h2, h3, h4, h5, h6⟩ := h
  have hg := grown_after hg0
  refine ⟨hown', h2.kept hg ?_, h3.kept hg (kinds_ne h3 h1 (by decide)), led_row h4 h1 (by decide) hg, below_row h5 h1 hg, h6, ra.kept hg (type_ne ra h1 (by decide)), rb.kept hg (type_ne rb h1 (by decide))⟩
  by_cases hN : N = 0
  · exact .inl (by rw [h6 hN]; rfl)
  · refine head_ne h2 h1 (lvs_get _ _ _ N 0 (by omega)) (lvs_get _ _ _ N 0 (by omega)) ?_
    exact sl_ne (by have := (h4 0 (by omega)).1.2.1; omega)
theorem St3.grow4 {W w w' : World} {N : Nat} {s3 s4 s5 v' : Value} {gl cl nl gq cq : Nat → Nat} {L : Nat → List UInt8} {ga ma ca gb mb cb : Nat} {xa xb : List Value} {o : Obj} (h : St3 W w N s3 s4 s5 gl cl nl gq cq L ga ma ca gb cb xa xb)
    (hown' : w'.ownsRow W.heap.size 28 1 v' (N + 1) (lvs gq (lens L) cq N ++ [sl gb mb cb])) (hg0 : (w.alloc o).grownBy w' s4.ownBlock) : St4 W w' N s3 v' s5 gl cl nl gq cq L ga ma ca gb mb cb xa xb := by
  obtain ⟨h1, h2, h3, h4, h5, h6, ra, rb⟩ := h
  have hg := grown_after hg0
  refine ⟨h1.kept hg ?_, hown', h3.kept hg (kinds_ne h3 h2 (by decide)), led_row h4 h2 (by decide) hg, below_row h5 h2 hg, ra.kept hg (type_ne ra h2 (by decide)), rb.kept hg (type_ne rb h2 (by decide))⟩
  by_cases hN : N = 0
  · rw [h6 hN]
    exact Classical.em _
  · refine head_ne h1 h2 (x := sl (gl 0) (nl 0) (cl 0)) ?_ (lvs_get _ _ _ N 0 (by omega)) ?_
    · rw [List.getElem?_append_left (by rw [lvs_len]; omega)]
      exact lvs_get _ _ _ N 0 (by omega)
    · exact sl_ne (by have := (h4 0 (by omega)).1.2.1; omega)
theorem St4.grow5 {W w w' : World} {N : Nat} {s3 s4 s5 v' : Value} {gl cl nl gq cq : Nat → Nat} {L : Nat → List UInt8} {ga ca gb cb : Nat} {M : List UInt8} {o : Obj} (h : St4 W w N s3 s4 s5 gl cl nl gq cq L ga M.length ca gb M.length cb (fil N M.length) (vs M))
    (hown' : w'.ownsRow W.heap.size 9 1 v' (N + 1) (wvs L N ++ [.string ⟨M.toArray⟩])) (hg0 : (w.alloc o).grownBy w' s5.ownBlock)
    (hB : W.heap.size ≤ ga) (hab : ga < gb) (hf : ∀ j, j < N → gq j < ga) (l1 : 1 ≤ M.length) (l2 : M.length ≤ 32768) :
    St W w' (N + 1) s3 s4 v' (upd gl N ga) (upd cl N ca) (upd nl N M.length) (upd gq N gb) (upd cq N cb) (upd L N M) := by
  obtain ⟨h1, h2, h3, h4, h5, ra, rb⟩ := h
  have hg := grown_after hg0
  have k4 := led_row h4 h3 (by decide) hg
  have ka := ra.kept hg (type_ne ra h3 (by decide))
  have kb := rb.kept hg (type_ne rb h3 (by decide))
  refine ⟨?_, ?_, ?_, ?_, below_row h5 h3 hg, fun e => by omega⟩
  · rw [lvs_upd]
    exact h1.kept hg (kinds_ne h1 h3 (by decide))
  · have e : (fun j => (upd L N M j).length) = upd (lens L) N M.length := by
      funext j
      unfold upd lens
      split <;> rfl
    rw [e, lvs_upd]
    exact h2.kept hg (kinds_ne h2 h3 (by decide))
  · rw [wvs_upd]
    exact hown'
  · intro j hj
    by_cases e : j = N
    · subst e
      rw [upd_at, upd_at, upd_at, upd_at, upd_at, upd_at]
      refine ⟨⟨hB, hab, fun i hi => ?_, l1, l2, Nat.le_refl _, by omega⟩, ka, kb⟩
      rw [upd_ne _ _ _ (by omega)]
      exact hf i hi
    · rw [upd_ne _ _ _ e, upd_ne _ _ _ e, upd_ne _ _ _ e, upd_ne _ _ _ e, upd_ne _ _ _ e, upd_ne _ _ _ e]
      obtain ⟨⟨a1, a2, a3, a4⟩, r⟩ := k4 j (by omega)
      refine ⟨⟨a1, a2, fun i hi => ?_, a4⟩, r⟩
      rw [upd_ne _ _ _ (by omega)]
      exact a3 i hi
/-- The first list, not empty: its block. -/
theorem St.blk3 {W w : World} {N : Nat} {s3 s4 s5 : Value} {gl cl nl gq cq : Nat → Nat} {L : Nat → List UInt8} (h : St W w N s3 s4 s5 gl cl nl gq cq L) (hN : 1 ≤ N) : ∃ G c, s3 = sl G N c ∧ N ≤ c := by
  rcases h.1.2 with ⟨_, e⟩ | ⟨g, cap, cur, hv, _, _, hc, _⟩
  · omega
  · exact ⟨g, cap, hv, hc⟩
theorem St.blk4 {W w : World} {N : Nat} {s3 s4 s5 : Value} {gl cl nl gq cq : Nat → Nat} {L : Nat → List UInt8} (h : St W w N s3 s4 s5 gl cl nl gq cq L) (hN : 1 ≤ N) : ∃ G c, s4 = sl G N c ∧ N ≤ c := by
  rcases h.2.1.2 with ⟨_, e⟩ | ⟨g, cap, cur, hv, _, _, hc, _⟩
  · omega
  · exact ⟨g, cap, hv, hc⟩
theorem St.blk5 {W w : World} {N : Nat} {s3 s4 s5 : Value} {gl cl nl gq cq : Nat → Nat} {L : Nat → List UInt8} (h : St W w N s3 s4 s5 gl cl nl gq cq L) (hN : 1 ≤ N) : ∃ G c, s5 = sl G N c ∧ N ≤ c := by
  rcases h.2.2.1.2 with ⟨_, e⟩ | ⟨g, cap, cur, hv, _, _, hc, _⟩
  · omega
  · exact ⟨g, cap, hv, hc⟩
theorem row_of {w : World} {B e N G c : Nat} {xs : List Value} (h : w.ownsRow B e 1 (sl G N c) N xs) : xs.length = N ∧ B ≤ G ∧ RB w e G c xs := by
  have hl : xs.length = N := by simpa using h.1
  rcases h.2 with ⟨e0, _⟩ | ⟨g, cap, cur, hv, hb, hg, hc, hm, hs, ht⟩
  · cases e0
  · cases hv
    exact ⟨hl, hb, RB.mk hg (by omega) (by omega) hm (by rw [hl]; simpa using ht)⟩
theorem of_row {w : World} {B e N G c : Nat} {xs : List Value} (h : RB w e G c xs) (hl : xs.length = N) (hb : B ≤ G) : w.ownsRow B e 1 (sl G N c) N xs := by
  obtain ⟨cur, hg, hs, hx, hm, ht⟩ := h.get
  subst hl
  exact ⟨by simp, .inr ⟨G, c, cur, rfl, hb, hg, hx, hm, by omega, by simpa using ht⟩⟩
theorem St.cell3 {W w : World} {N G c : Nat} {s4 s5 : Value} {gl cl nl gq cq : Nat → Nat} {L : Nat → List UInt8} (h : St W w N (sl G N c) s4 s5 gl cl nl gq cq L) {i : Nat} (hi : i < N) : w.cell? ⟨G, i, none⟩ = some (sl (gl i) (nl i) (cl i)) :=
  (row_of h.1).2.2.cell (lvs_get _ _ _ N i hi)
theorem St.cell4 {W w : World} {N G c : Nat} {s3 s5 : Value} {gl cl nl gq cq : Nat → Nat} {L : Nat → List UInt8} (h : St W w N s3 (sl G N c) s5 gl cl nl gq cq L) {i : Nat} (hi : i < N) : w.cell? ⟨G, i, none⟩ = some (sl (gq i) (L i).length (cq i)) :=
  (row_of h.2.1).2.2.cell (lvs_get _ _ _ N i hi)
theorem St.cell5 {W w : World} {N G c : Nat} {s3 s4 : Value} {gl cl nl gq cq : Nat → Nat} {L : Nat → List UInt8} (h : St W w N s3 s4 (sl G N c) gl cl nl gq cq L) {i : Nat} (hi : i < N) : w.cell? ⟨G, i, none⟩ = some (.string ⟨(L i).toArray⟩) :=
  (row_of h.2.2.1).2.2.cell (wvs_get _ N i hi)
theorem St.froz3 {W w : World} {N G c : Nat} {s4 s5 : Value} {gl cl nl gq cq : Nat → Nat} {L : Nat → List UInt8} (h : St W w N (sl G N c) s4 s5 gl cl nl gq cq L) (i : Nat) : w.frozen? ⟨G, i, none⟩ = false := (row_of h.1).2.2.frozen i
/-- One byte more in the spare room of a row, and the list told so. -/
theorem St.more {W w w1 : World} {N G c i : Nat} {s4 s5 : Value} {gl cl nl gq cq : Nat → Nat} {L : Nat → List UInt8} {o : Obj} (h : St W w N (sl G N c) s4 s5 gl cl nl gq cq L) (hi : i < N) (hn : nl i + 1 ≤ 102768)
    (hr : RB w1 5 (gl i) (cl i) (fil i (nl i + 1))) (hg0 : (w.alloc o).grownBy w1 (some (gl i))) :
    St W (w1.setCell ⟨G, i, none⟩ (sl (gl i) (nl i + 1) (cl i))) N (sl G N c) s4 s5 gl cl (upd nl i (nl i + 1)) gq cq L := by
  obtain ⟨h1, h2, h3, h4, h5, h6⟩ := h
  have hg := grown_after hg0
  have q := (h4 i hi).2.1
  have i1 : w1.ownsRow W.heap.size 28 1 (sl G N c) N (lvs gl nl cl N) := h1.kept hg (.inr (type_ne q h1 (by decide)))
  have i2 := h2.kept hg (.inr (type_ne q h2 (by decide)))
  have i3 := h3.kept hg (.inr (type_ne q h3 (by decide)))
  have i5 : Below W.heap.size W w1 := h5.grown hg h5.size (fun k e => by cases e; exact (h4 i hi).1.1)
  obtain ⟨_, hB, r1⟩ := row_of i1
  have hs := grown_set w1 G i (sl (gl i) (nl i + 1) (cl i))
  have hne : ∀ {g c : Nat} {xs : List Value}, RB w1 5 g c xs → some G ≠ some g := fun r => type_ne r i1 (by decide)
  refine ⟨?_, ?_, i3.kept hs (kinds_ne i3 i1 (by decide)), ?_, i5.setCell (p := ⟨G, i, none⟩) hB _, h6⟩
  · refine of_row ?_ (lvs_len _ _ _ _) hB
    rw [← lvs_set gl nl cl N i (nl i + 1) hi]
    exact r1.set i _ (by rw [lvs_len]; exact hi)
  · refine i2.kept hs (head_ne i2 i1 (lvs_get _ _ _ N 0 (by omega)) (lvs_get _ _ _ N 0 (by omega)) ?_)
    exact sl_ne (by have := (h4 0 (by omega)).1.2.1; omega)
  · intro j hj
    obtain ⟨⟨a1, a2, a3, a4, a5, a6, a7⟩, p, r⟩ := h4 j hj
    have r' := r.kept hg (fun e => by exact (Led.apart h4 hi hj).1 (Option.some.inj e))
    by_cases e : j = i
    · subst e
      rw [upd_at]
      exact ⟨⟨a1, a2, a3, a4, a5, by omega, hn⟩, hr.kept hs (hne hr), r'.kept hs (hne r')⟩
    · rw [upd_ne _ _ _ e]
      have p' := p.kept hg (fun e' => by exact (Led.apart h4 hi hj).2 (fun h => e h.symm) (Option.some.inj e'))
      exact ⟨⟨a1, a2, a3, a4, a5, a6, a7⟩, p'.kept hs (hne p'), r'.kept hs (hne r')⟩
end Go.Proofs.Ytdbdonpcdoeeiaa
