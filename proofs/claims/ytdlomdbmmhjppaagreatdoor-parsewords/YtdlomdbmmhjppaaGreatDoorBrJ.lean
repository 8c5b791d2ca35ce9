/- parse.bracket: what stands in brackets. Proved of the Go text. parse.arguments. Proved of the Go text. parse.arguments: its loop. Proved of the Go text. -/
import Derived.Test.YtdlomdbmmhjppaaGreatDoorLnJ
namespace Go.Proofs.YtdlomdbmmhjppaaGreatDoor.T9
open Go.RowKit Go.Sort
set_option linter.unusedVariables false

/-- What a reading in brackets comes to, the word ahead at i. -/
def brkR (l : List Wd) (i o : Nat) (r : PR) : PR :=
  if sgAt l i = [40] then if 256 < o + 1 then .bad 2 (plAt l i) else match r with
    | .bad e a => .bad e a
    | .ok t j => if sgAt l j = [41] then .ok t (j + 1) else .bad 20 (plAt l j)
  else .bad 20 (plAt l i)
variable {B g c mB : Nat} {l : List Wd} {i o : Nat}
set_option maxHeartbeats 2000000 in
set_option maxRecDepth 100000 in
theorem bracket_is (hE : EndW l) (hi : i < l.length) (ho : o ≤ 256) {r : PR} (HL : i + 1 < l.length → o + 1 ≤ 256 → CallP 79 B g c mB l (i + 1) (o + 1) [.int .i64 1] r) : CallP 188 B g c mB l i o [] (brkR l i o r) := by
  intro w hR hM
  have hB := hide hR.lt
  have hgl := hide (hR.glt hi)
  have st := step (Below.refl w.heap.size w) z14O
  have hRa := hR.keep st
  have hMa := hide (hM.keep hR (grown_of st _))
  unfold brkR
  by_cases hs : sgAt l i = [40]
  · rw [if_pos hs]
    by_cases hl : 256 < o + 1
    · rw [if_pos hl]
      have H1 := hide (enter_long hRa hi hs hl ho)
      replace st := hide st
      clear hR hM hRa HL
      go_enter Tryz.func188, Tryz.ntmps188
      go_wp2_with fail
      refine H1.out.mono ?_
      rintro e w1 ⟨rfl, hg⟩
      exact ⟨rfl, rfl, grown_trans (grown_of st.out _) hg⟩
    · rw [if_neg hl]
      have H1 := hide (enter_yes hRa hi hs (by omega))
      have hi1 := hide (hE.sg hi hs (by decide))
      have HL1 := hide (HL hi1.out (by omega))
      replace st := hide st
      replace hRa := hide hRa
      clear hR hM HL hs
      cases r with
      | bad er at' =>
        go_enter Tryz.func188, Tryz.ntmps188
        go_wp2_with (first
          | (go_at_call 210; refine H1.out.mono ?_; rintro e w1 ⟨rfl, hon⟩; have O1 := hide hon; have H2 := hide (HL1.out w1 hon.rd (hMa.out.keep hRa.out hon.gr)); clear hon))
        refine H2.out.mono ?_
        rintro e w2 ⟨rfl, hg⟩
        exact ⟨rfl, rfl, grown_trans (grown_of st.out _) (grown_trans O1.out.gr hg)⟩
      | ok t j =>
        show Calls _ _ _ _ (fun e w' => PRP w B g c mB l i o e w' (if sgAt l j = [41] then .ok t (j + 1) else .bad 20 (plAt l j)))
        by_cases hc : sgAt l j = [41]
        · rw [if_pos hc]
          go_enter Tryz.func188, Tryz.ntmps188
          go_wp2_with (first
            | (go_at_call 210; refine H1.out.mono ?_; rintro e w1 ⟨rfl, hon⟩; have O1 := hide hon; have H2 := hide (HL1.out w1 hon.rd (hMa.out.keep hRa.out hon.gr)); clear hon)
            | (go_at_call 79; (refine H2.out.mono ?_; rintro e w2 ⟨a, len, cap, bs, rfl, hN, hO, hij, hjl, hsm⟩; have hw1 := O1.out.gr.size; have e9 : (w.alloc z14O).heap.size = w.heap.size + 1 := (by simp); have G2 := hide ((Got.of (lo := w.heap.size + 1) O1.out.gr hN hO hsm (by omega)).keep (step (Below.refl _ w2) (exO t.nd (.slice a len cap)))); have K2 := hide (Blk.new w2 (exC t.nd (.slice a len cap)) 30); have hbs := hide (fun k (hk : k ∈ bs) => (Nat.ne_of_lt (hN.at' k hk).2)); have hX2 := hide (show w.heap.size + 1 ≤ w2.heap.size from by have h9 := hO.gr.size; omega); have hsn := run_putnew w2 t.nd a len cap; have hJ := hide (show i + 1 < j ∧ j < l.length ∧ j + 1 < l.length from ⟨hij, hjl, hE.sg hjl hc (by decide)⟩); have H3 := hide (leave_yes G2.out.rd hjl hc (by omega)); clear hN hO hij hjl hsm hw1 e9))
            | (go_at_call 212; (refine H3.out.mono ?_; rintro e w3 ⟨rfl, hon3⟩; have G3 := hide (G2.out.on (by have := hB.out; omega) hon3); have K3 := hide (blk_on K2.out (by have := hB.out; have := hX2.out; omega) hon3.gr); have F3 := hide (fun cs => G3.out.fin (cs := cs) hB.out hgl.out); have hsn3 := run_putrow t.nd a len cap (F3.out z14).1 rfl; replace hon3 := hide hon3))
            | (refine wpList_load_blk rfl 30 _ rfl _ rfl _ (by with_reducible exact K3.out) _ Tryz.underlying30 rfl (exC_info _ _) ?_))
          refine bodyPost_ret (v := exV t.nd (.slice a len cap)) (results_cell_row Tryz.results188 _ _ w.heap.size 30 (exC t.nd (.slice a len cap)) (0, 0) _ rfl (F3.out _).2.2.2 Tryz.underlying30 rfl (exC_info _ _)) rfl ?_
          exact ⟨a, len, cap, bs, rfl, (F3.out _).2.1, (F3.out _).2.2.1, by have := hJ.out; omega, hJ.out.2.2, G3.out.sm⟩
        · rw [if_neg hc]
          go_enter Tryz.func188, Tryz.ntmps188
          go_wp2_with (first
            | (go_at_call 210; refine H1.out.mono ?_; rintro e w1 ⟨rfl, hon⟩; have O1 := hide hon; have H2 := hide (HL1.out w1 hon.rd (hMa.out.keep hRa.out hon.gr)); clear hon)
            | (go_at_call 79; refine H2.out.mono ?_; rintro e w2 ⟨a, len, cap, bs, rfl, hN, hO, hij, hjl, hsm⟩; have O2 := hide ((O1.out.trans hO).keep (step (Below.refl _ w2) (exO t.nd (.slice a len cap)))); have hsn := run_putnew w2 t.nd a len cap; have H3 := hide (leave_no O2.out.rd hjl hc); clear hN hO hij hjl hsm)
            | (go_at_call 212; refine H3.out.mono ?_; rintro e w3 ⟨rfl, hg3⟩; replace hg3 := hide hg3))
          exact ⟨rfl, rfl, grown_trans (grown_of st.out _) (grown_trans O2.out.gr hg3.out)⟩
  · rw [if_neg hs]
    have H1 := hide (enter_no hRa hi hs)
    replace st := hide st
    clear hR hM hRa HL
    go_enter Tryz.func188, Tryz.ntmps188
    go_wp2_with fail
    refine H1.out.mono ?_
    rintro e w1 ⟨rfl, hg⟩
    exact ⟨rfl, rfl, grown_trans (grown_of st.out _) hg⟩
end Go.Proofs.YtdlomdbmmhjppaaGreatDoor.T9
namespace Go.Proofs.YtdlomdbmmhjppaaGreatDoor.T9
open Go.RowKit Go.Sort
set_option linter.unusedVariables false

/-- A list of trees that has been read, in the midst of a function that began in the world w. -/
structure ArSt (w wr : World) (B g c mB : Nat) (l : List Wd) (j o : Nat) (v : Value) (css : List (Array Value)) (ts : List Ex) (bs : List Nat) : Prop where
  gr : w.grownBy wr (some B)
  rd : Rdr wr B g c mB l j o
  row : RowX wr w.heap.size v css
  kids : OwK wr css ts bs
  nd : bs.Nodup
  new : ∀ x ∈ bs, w.heap.size ≤ x ∧ x < wr.heap.size ∧ v.ownBlock ≠ some x
  sm : ∀ t ∈ ts, SmE t
variable {B g c mB : Nat} {l : List Wd} {i o : Nat}
theorem ArSt.on {w wr w' : World} {j j' o' : Nat} {v : Value} {css : List (Array Value)} {ts : List Ex} {bs : List Nat} (h : ArSt w wr B g c mB l j o v css ts bs) (hB : B < w.heap.size) (hO : On wr w' B g c mB l j' o') : ArSt w w' B g c mB l j' o' v css ts bs := by
  have hb : ∀ x, x < wr.heap.size → x ≠ B → w'.heap[x]? = wr.heap[x]? := fun x hx hne => hO.gr.block x hx (fun e => hne (by injection e with e))
  refine ⟨grown_trans h.gr hO.gr, hO.rd, owns_keep h.row (fun x hx => ?_), h.kids.move (fun x hx => ?_), h.nd, fun x hx => ⟨(h.new x hx).1, Nat.lt_of_lt_of_le (h.new x hx).2.1 hO.gr.size, (h.new x hx).2.2⟩, h.sm⟩
  · have := owns_lt h.row x hx
    exact hb x this.2 (by omega)
  · have := h.new x hx
    exact hb x this.2.1 (by omega)
theorem ArSt.low {w wr w' : World} {j : Nat} {v : Value} {css : List (Array Value)} {ts : List Ex} {bs : List Nat} (h : ArSt w wr B g c mB l j o v css ts bs) (hB : B < w.heap.size) (hb : Below wr.heap.size wr w') : ArSt w w' B g c mB l j o v css ts bs := h.on hB ⟨h.rd.keep hb, grown_of hb _⟩
theorem ArSt.more {w wr w2 w3 : World} {j j2 : Nat} {v v' : Value} {css : List (Array Value)} {ts : List Ex} {bs bk : List Nat} {n : Nd} {sa : Option Addr} {sl sc : Nat} {u : Ex} (h : ArSt w wr B g c mB l j o v css ts bs) (hB : B < w.heap.size) (hg : g < w.heap.size)
    (hN : New wr w2 (exV n (.slice sa sl sc)) u bk) (hO : On wr w2 B g c mB l j2 o) (hs : SmE u) (hr : RowX w3 w.heap.size v' (css ++ [exC n (.slice sa sl sc)])) (hgr : (w2.alloc (exO n (.slice sa sl sc))).grownBy w3 v.ownBlock)
    (hv : v'.ownBlock = v.ownBlock ∨ v'.ownBlock = some (w2.alloc (exO n (.slice sa sl sc))).heap.size) : ArSt w w3 B g c mB l j2 o v' (css ++ [exC n (.slice sa sl sc)]) (ts ++ [u]) (bs ++ bk) := by
  have h2 := h.on hB hO
  have hal : (w2.alloc (exO n (.slice sa sl sc))).heap.size = w2.heap.size + 1 := by simp
  have hs2 := hO.gr.size
  have hs0 := h.gr.size
  have hs3 := hgr.size
  have hown : ∀ x, v.ownBlock = some x → w.heap.size ≤ x ∧ x < wr.heap.size := owns_lt h.row
  have hkeep : ∀ x, x < w2.heap.size → v.ownBlock ≠ some x → w3.heap[x]? = w2.heap[x]? := fun x hx hne => (hgr.block x (by omega) (Ne.symm hne)).trans (Below.heap_alloc w2 _ x hx)
  have hlow : ∀ x, x < w.heap.size → w3.heap[x]? = w2.heap[x]? := fun x hx => hkeep x (by omega) (fun e => by have := (hown x e).1; omega)
  have hne2 : ∀ x ∈ bk, v.ownBlock ≠ some x := fun x hx e => by have := (hN.at' x hx).1; have := (hown x e).2; omega
  refine ⟨⟨hgr.os.trans h2.gr.os, hgr.tape.trans h2.gr.tape, hgr.output.trans h2.gr.output, by omega, fun x hx hne => (hlow x hx).trans (h2.gr.block x hx hne)⟩, h2.rd.other (hlow B hB) (hlow g hg), hr, ?_, ?_, ?_, ?_⟩
  · refine OwK.snoc (h2.kids.move (fun x hx => ?_)) (hN.ow.move _ (fun x hx => hkeep x (hN.at' x hx).2 (hne2 x hx)))
    have := h2.new x hx
    exact hkeep x this.2.1 this.2.2
  · refine List.nodup_append.2 ⟨h.nd, hN.nd, fun a ha b hb e => ?_⟩
    have := h.new a ha; have := hN.at' b hb; omega
  · intro x hx
    have hx' : w.heap.size ≤ x ∧ x < w2.heap.size ∧ v.ownBlock ≠ some x := by
      rcases List.mem_append.1 hx with hx | hx
      · exact h2.new x hx
      · exact ⟨by have := (hN.at' x hx).1; omega, (hN.at' x hx).2, hne2 x hx⟩
    refine ⟨hx'.1, by omega, fun e => ?_⟩
    rcases hv with hv | hv
    · exact hx'.2.2 (hv ▸ e)
    · rw [hv] at e
      injection e with e
      omega
  · intro t ht
    rcases List.mem_append.1 ht with ht | ht
    · exact h.sm t ht
    · rw [List.mem_singleton.1 ht]; exact hs
theorem ArSt.one {w w1 : World} {j : Nat} {n : Nd} {sa : Option Addr} {sl sc : Nat} {u : Ex} {bk : List Nat} (hN : New w w1 (exV n (.slice sa sl sc)) u bk) (hO : On w w1 B g c mB l j o) (hs : SmE u) : ArSt w (w1.alloc (exO n (.slice sa sl sc))) B g c mB l j o (.slice (some ⟨w1.heap.size, 0, none⟩) 1 1) [exC n (.slice sa sl sc)] [u] bk := by
  have hb := step (Below.refl w1.heap.size w1) (exO n (.slice sa sl sc))
  have hz : (w1.alloc (exO n (.slice sa sl sc))).heap.size = w1.heap.size + 1 := by simp
  refine ⟨grown_trans hO.gr (grown_of hb _), hO.rd.keep hb, ?_, ⟨bk, [], by simp, hN.ow.move _ (fun x hx => hb.block x (hN.at' x hx).2), rfl⟩, hN.nd, fun x hx => ⟨(hN.at' x hx).1, by have := (hN.at' x hx).2; omega, fun e => ?_⟩, fun t ht => by rw [List.mem_singleton.1 ht]; exact hs⟩
  · refine ⟨by simp [flX, exC_size], .inr ⟨w1.heap.size, 1, exC n (.slice sa sl sc), rfl, hO.gr.size, Blk.new w1 _ _, Nat.le_refl _, by decide, by rw [exC_size], ?_⟩⟩
    have e1 : flX [exC n (.slice sa sl sc)] = (exC n (.slice sa sl sc)).toList := by simp [flX]
    rw [e1]
    exact List.take_of_length_le (by rw [exC_len]; exact Nat.le_refl _)
  · have := (hN.at' x hx).2
    have e2 : w1.heap.size = x := by simpa [Value.ownBlock] using e
    omega
/-- What the arguments come to. -/
def PLP (w : World) (B g c mB : Nat) (l : List Wd) (i o : Nat) (e : Ending) (w' : World) : PL → Prop
  | .bad er a => e = .panicked (flt er a) ∧ w.grownBy w' (some B)
  | .ok ts j => ∃ (v : Value) (css : List (Array Value)) (bs : List Nat), e = .returned v ∧ ArSt w w' B g c mB l j o v css ts bs ∧ i ≤ j ∧ j < l.length ∧ ts.length ≤ j
abbrev CallA (fn : FuncId) (B g c mB : Nat) (l : List Wd) (i o : Nat) (r : PL) : Prop := ∀ w, Rdr w B g c mB l i o → OpsM w mB → Calls Tryz.prog fn #[.pointer (some ⟨B, 0, none⟩)] w fun e w' => PLP w B g c mB l i o e w' r
set_option maxHeartbeats 2000000 in
set_option maxRecDepth 100000 in
theorem args_none (hi : i < l.length) (hc : sgAt l i = [41]) : CallA 211 B g c mB l i o (.ok [] i) := by
  intro w hR hM
  have S1 := hide (sign_any hR hi)
  have hB := hide hR.lt
  have hR' := hide hR
  have hq : (sgAt l i == ([41] : List UInt8)) = true := by rw [hc]; rfl
  generalize sgAt l i = sg at S1 hq
  clear hR hM hc
  go_enter Tryz.func211, Tryz.ntmps211
  go_wp2_with (first
    | (go_at_call 104; refine S1.out.mono ?_; rintro e w1 ⟨rfl, hb⟩; replace hb := hide hb))
  go_ret
  exact ⟨.slice none 0 0, [], [], rfl, ⟨grown_of hb.out _, hR'.out.keep hb.out, ⟨rfl, .inl ⟨rfl, rfl⟩⟩, rfl, List.nodup_nil, fun x hx => absurd hx List.not_mem_nil, fun t ht => absurd ht List.not_mem_nil⟩, Nat.le_refl _, hi, Nat.zero_le _⟩
set_option maxHeartbeats 2000000 in
set_option maxRecDepth 100000 in
theorem args_bad (hi : i < l.length) (hc : ¬ sgAt l i = [41]) {er at' : Nat} (HP : CallP 79 B g c mB l i o [.int .i64 1] (.bad er at')) : CallA 211 B g c mB l i o (.bad er at') := by
  intro w hR hM
  have S1 := hide (sign_any hR hi)
  have hR' := hide hR
  have hM' := hide hM
  have hq : (sgAt l i == ([41] : List UInt8)) = false := by rw [beq_eq_false_iff_ne]; exact hc
  generalize sgAt l i = sg at S1 hq
  replace HP := hide HP
  clear hR hM hc
  go_enter Tryz.func211, Tryz.ntmps211
  go_wp2_with (first
    | (go_at_call 104; refine S1.out.mono ?_; rintro e w1 ⟨rfl, hb⟩; have H2 := hide (HP.out w1 (hR'.out.keep hb) (hM'.out.low hb)); replace hb := hide hb))
  refine H2.out.mono ?_
  rintro e w2 ⟨rfl, hg⟩
  exact ⟨rfl, rfl, grown_trans (grown_of hb.out _) hg⟩
end Go.Proofs.YtdlomdbmmhjppaaGreatDoor.T9
namespace Go.Proofs.YtdlomdbmmhjppaaGreatDoor.T9
open Go.RowKit Go.Sort
set_option linter.unusedVariables false

variable {B g c mB : Nat} {l : List Wd} {i o : Nat}
set_option maxHeartbeats 4000000 in
set_option maxRecDepth 100000 in
theorem args_ok (hE : EndW l) (hi : i < l.length) (hc : ¬ sgAt l i = [41]) {f : Nat} {t0 : Ex} {j0 : Nat} (h0 : i < j0 → j0 < l.length → 8 * (l.length - j0) + 1 ≤ f) {R : PL} (MR : Nat → List Ex → Nat → PL) (LN : Nat → Nat → PR) (hR0 : MR f [t0] j0 = R)
    (hSt : ∀ f' ts j, MR (f' + 1) ts j = if sgAt l j = [44] then (match LN f' (j + 1) with | .bad e a => .bad e a | .ok u k => MR f' (ts ++ [u]) k) else .ok ts j)
    (HP : CallP 79 B g c mB l i o [.int .i64 1] (.ok t0 j0))
    (HL : ∀ f' j, f' < f → i < j → j < l.length → 8 * (l.length - j) + 8 ≤ f' → CallP 79 B g c mB l j o [.int .i64 1] (LN f' j)) : CallA 211 B g c mB l i o R := by
  intro w hR hM
  have S1 := hide (sign_any hR hi)
  have hR' := hide hR
  have hM' := hide hM
  have hB := hide hR.lt
  have hgl := hide (hR.glt hi)
  have hl5 := hide hR.len
  have hq : (sgAt l i == ([41] : List UInt8)) = false := by rw [beq_eq_false_iff_ne]; exact hc
  generalize sgAt l i = sg at S1 hq
  replace HP := hide HP
  replace HL := hide HL
  replace hE := hide hE
  replace h0 := hide h0
  replace hR0 := hide hR0
  replace hSt := hide hSt
  clear hR hM hc
  go_enter Tryz.func211, Tryz.ntmps211
  go_wp2_with (first
    | (go_at_call 104; refine S1.out.mono ?_; rintro e w1 ⟨rfl, hb⟩; have H2 := hide (HP.out w1 (hR'.out.keep hb) (hM'.out.low hb)); replace hb := hide hb))
  refine H2.out.mono ?_
  rintro e w2 ⟨a, len, cap, bs0, rfl, hN, hO, hij, hjl, hsm⟩
  have A2 : Hid (ArSt w (w2.alloc (exO t0.nd (.slice a len cap))) B g c mB l j0 o (.slice (some ⟨w2.heap.size, 0, none⟩) 1 1) [exC t0.nd (.slice a len cap)] [t0] bs0) := hide (ArSt.one (w := w) ⟨hN.ow, hN.nd, fun x hx => ⟨Nat.le_trans hb.out.size (hN.at' x hx).1, (hN.at' x hx).2⟩⟩ ⟨hO.rd, grown_trans (grown_of hb.out _) hO.gr⟩ hsm)
  have hJ0 := hide (show i < j0 ∧ j0 < l.length from ⟨hij, hjl⟩)
  clear hN hO hij hjl hsm H2 S1
  go_wp2_with (first
    | (refine Go.Great.wpList_buildSliceTo rfl 28 30 1 _ rfl w2.heap.size rfl _ rfl Tryz.underlying28 (exC t0.nd (.slice a len cap)) (by rw [Array.toList_map]; exact built1 _ _) ?_))
  go_loopw [3] (fun sv wr => ∃ (f' j : Nat) (ts : List Ex) (css : List (Array Value)) (bs : List Nat) (la : Option Addr) (ll lc : Nat), sv = .slice la ll lc ∧ Hid (ArSt w wr B g c mB l j o (.slice la ll lc) css ts bs) ∧ Hid (MR f' ts j = R) ∧ Hid (i < j ∧ j < l.length ∧ f' ≤ f ∧ 8 * (l.length - j) + 1 ≤ f' ∧ ts.length ≤ j)) (fun _ wr => l.length - nextOf wr B)
  case atStart => exact ⟨f, j0, [t0], _, bs0, _, _, _, rfl, A2, hR0, hide ⟨hJ0.out.1, hJ0.out.2, Nat.le_refl _, h0.out hJ0.out.1 hJ0.out.2, by have := hJ0.out; simp; omega⟩⟩
  case round =>
    obtain ⟨f', j, ts, css, bs, la, ll, lc, rfl, HA, HF, HJ⟩ := hrel
    have S2 := hide (sign_any HA.out.rd HJ.out.2.1)
    obtain ⟨f', rfl⟩ : ∃ f2, f' = f2 + 1 := ⟨f' - 1, by have := HJ.out; omega⟩
    have hS := hSt.out f' ts j
    rw [HF.out] at hS
    by_cases hk : sgAt l j = [44]
    · rw [if_pos hk] at hS
      have hj1 := hide (hE.out.sg HJ.out.2.1 hk (by decide))
      have hq2 : (sgAt l j == ([44] : List UInt8)) = true := by rw [hk]; rfl
      generalize sgAt l j = sg2 at S2 hq2
      cases hr : LN f' (j + 1) with
      | bad er at' =>
        rw [hr] at hS
        subst hS
        go_wp2_with (first
          | (go_at_call 104; refine S2.out.mono ?_; rintro e w3 ⟨rfl, hb3⟩; have A3 := hide (HA.out.low hB.out hb3); have c1 := A3.out.rd.at1; have f1 := A3.out.rd.fr1 1; obtain ⟨w4, hw4⟩ : ∃ w4, w3.setCell ⟨B, 1, none⟩ (.int .i64 (wrap64 ((j : Int) + 1))) = w4 := ⟨_, rfl⟩; have O4 := hide (next4 A3.out.rd HJ.out.2.1 hw4); have H7 := hide (hr ▸ HL.out f' (j + 1) (by have := HJ.out; omega) (by have := HJ.out; omega) hj1.out (by have := HJ.out; omega) w4 O4.out.rd (hM'.out.keep hR'.out (grown_trans A3.out.gr O4.out.gr))); replace hb3 := hide hb3))
        refine H7.out.mono ?_
        rintro e w7 ⟨rfl, hg7⟩
        exact ⟨rfl, rfl, grown_trans A3.out.gr (grown_trans O4.out.gr hg7)⟩
      | ok u k =>
        rw [hr] at hS
        go_wp2_with (first
          | (go_at_call 104; refine S2.out.mono ?_; rintro e w3 ⟨rfl, hb3⟩; have A3 := hide (HA.out.low hB.out hb3); have c1 := A3.out.rd.at1; have f1 := A3.out.rd.fr1 1; obtain ⟨w4, hw4⟩ : ∃ w4, w3.setCell ⟨B, 1, none⟩ (.int .i64 (wrap64 ((j : Int) + 1))) = w4 := ⟨_, rfl⟩; have O4 := hide (next4 A3.out.rd HJ.out.2.1 hw4); have H7 := hide (hr ▸ HL.out f' (j + 1) (by have := HJ.out; omega) (by have := HJ.out; omega) hj1.out (by have := HJ.out; omega) w4 O4.out.rd (hM'.out.keep hR'.out (grown_trans A3.out.gr O4.out.gr))); replace hb3 := hide hb3))
        rename_i K Q' hK'
        refine H7.out.mono ?_
        rintro e w7 ⟨ak, lk, ck, bk, rfl, hN, hO, hjk, hkl, hsm⟩
        dsimp only
        refine hK' _ _ ?_
        refine Go.Great.wpList_buildSliceTo rfl 28 30 1 _ rfl w7.heap.size rfl _ rfl Tryz.underlying28 (exC u.nd (.slice ak lk ck)) ?hf ?_
        case hf =>
          rw [Array.toList_map]
          exact built1 _ _
        have A4 := A3.out.on hB.out O4.out
        have A7 := A4.on hB.out hO
        have hrx : RowX (w7.alloc (exO u.nd (.slice ak lk ck))) w.heap.size (.slice la ll lc) css := (A7.low hB.out (step (Below.refl _ _) _)).row
        have hrg := range_ex w7 u.nd (.slice ak lk ck)
        have hbs : w.heap.size ≤ (w7.alloc (exO u.nd (.slice ak lk ck))).heap.size := Nat.le_trans A7.gr.size (by simp)
        have hcl : css.length < 1000000 := by have h1 := A7.kids.len.1; have := HJ.out; have := hl5.out; omega
        refine wpList_appX (v := .slice la ll lc) (css := css) (n := u.nd) (sa := ak) (sl := lk) (sc := ck) rfl _ _ rfl rfl rfl hrx hrg hcl hbs ?_
        intro v' w8 r1 r2 r3
        obtain ⟨va, vl, vc, rfl⟩ := owns_shape9 r1
        have hnx := hide (A4.more hB.out hgl.out hN hO hsm r1 r2 r3)
        have hjk' := hide (show j + 1 < k ∧ k < l.length from ⟨hjk, hkl⟩)
        clear r1 r2 r3 hrx hrg hbs hN hO A4 A7 hjk hkl
        go_wp2_with fail
        refine ⟨⟨f', k, ts ++ [u], _, _, _, _, _, rfl, hnx, hide hS.symm, hide ⟨by have := HJ.out; have := hjk'.out; omega, hjk'.out.2, by have := HJ.out; omega, by have := HJ.out; have := hjk'.out; omega, by have := HJ.out; have := hjk'.out; simp; omega⟩⟩, ?_⟩
        rw [nextOf_is hnx.out.rd, nextOf_is HA.out.rd]
        have := hjk'.out
        omega
    · rw [if_neg hk] at hS
      subst hS
      have hq2 : (sgAt l j == ([44] : List UInt8)) = false := by rw [beq_eq_false_iff_ne]; exact hk
      generalize sgAt l j = sg2 at S2 hq2
      go_wp2_with (first
        | (go_at_call 104; refine S2.out.mono ?_; rintro e w3 ⟨rfl, hb3⟩; have A3 := hide (HA.out.low hB.out hb3); replace hb3 := hide hb3))
      go_ret
      exact ⟨_, css, bs, rfl, A3.out, by have := HJ.out; omega, HJ.out.2.1, HJ.out.2.2.2.2⟩
end Go.Proofs.YtdlomdbmmhjppaaGreatDoor.T9
