/- parse.primary (written by gen10d.py). Proved of the Go text. parse: every reading of the grammar, by its fuel. Proved of the Go text. -/
import Derived.Test.YtdlomdbmmhjppaaGreatDoorCaJ
namespace Go.Proofs.YtdlomdbmmhjppaaGreatDoor.T9
open Go.RowKit Go.Sort
set_option linter.unusedVariables false

variable {B g c mB : Nat} {l : List Wd} {i o : Nat}
theorem PRP.leaf2 {w w' : World} {j : Nat} {nd : Nd} (ho : On w w' B g c mB l j o) (h1 : i < j) (h2 : j < l.length) (ht : nd.text.size ≤ 4611686018427387904) : PRP w B g c mB l i o (.returned (exV nd sN)) w' (.ok (.mk nd []) j) := by
  refine ⟨none, 0, 0, [], rfl, ⟨?_, List.nodup_nil, fun k hk => absurd hk List.not_mem_nil⟩, ho, h1, h2, ?_⟩
  · unfold Ow
    exact ⟨none, 0, 0, rfl, rfl, .inl ⟨rfl, rfl, rfl, rfl⟩⟩
  · unfold SmE
    exact ⟨ht, Nat.zero_le _, by unfold SmL; trivial⟩
set_option maxHeartbeats 2000000 in
set_option maxRecDepth 100000 in
theorem prim_ref (hi : i < l.length) (hk : (wdAt l i).kind = 3) {r : PR} (HP : CallP 186 B g c mB l i o [] r) : CallP 152 B g c mB l i o [] r := by
  intro w hR hM
  have hB := hide hR.lt
  have hgl := hide (hR.glt hi)
  have st0 := step (Below.refl w.heap.size w) z14O
  have st := st0.drew
  have hR0 := hR.keep st0
  obtain ⟨k0, -, -⟩ := hR0.wd hi
  have b0 : (w.alloc z14O).cell? ⟨B, 0, none⟩ = some (.slice (some ⟨g, 0, none⟩) l.length c) := hR0.blk.at' 0
  have b1 : (w.alloc z14O).cell? ⟨B, 1, none⟩ = some (.int .i64 (i : Int)) := hR0.blk.at' 1
  have q1 : (i : Int) < (l.length : Int) := by omega
  have q2 : (l.length : Int) ≤ (c : Int) := by have := hR.len; omega
  have e9 := hide (show (w.alloc z14O).heap.size = w.heap.size + 1 by simp)
  have gd := hide (grown_of ((Below.refl (w.alloc z14O).heap.size (w.alloc z14O)).drew) (some B))
  have H1 := hide (HP (w.alloc z14O).drew (hR.keep st) (hM.keep hR (grown_of st _)))
  rw [hk] at k0
  clear HP hk
  replace st := hide st
  replace st0 := hide st0
  clear hR hM hR0
  cases r with
  | bad er at' =>
    go_enter Tryz.func152, Tryz.ntmps152
    go_wp2_with fail
    refine all10 (by kernel_rfl) (by kernel_rfl) ?_
    repeat still_step
    refine wpStill_nil ?_
    clear b0 b1 k0
    go_wp2_with fail
    refine H1.out.mono ?_
    rintro e w1 ⟨rfl, hg⟩
    exact ⟨rfl, rfl, grown_trans (grown_of st.out _) hg⟩
  | ok t j =>
    go_enter Tryz.func152, Tryz.ntmps152
    go_wp2_with fail
    refine all10 (by kernel_rfl) (by kernel_rfl) ?_
    repeat still_step
    refine wpStill_nil ?_
    clear b0 b1 k0
    go_wp2_with fail
    refine H1.out.mono ?_
    rintro e w1 ⟨a, len, cap, bs, rfl, hN, hO, hij, hjl, hsm⟩
    have G1 := hide (Got.of (lo := w.heap.size + 1) gd.out hN hO hsm (Nat.le_of_eq e9.out.symm))
    have F1 := hide (fun cs => G1.out.fin (cs := cs) hB.out hgl.out)
    have hsn := run_putrow t.nd a len cap (F1.out z14).1 rfl
    clear hN hO
    go_wp2_with fail
    refine bodyPost_ret (v := exV t.nd (.slice a len cap)) (results_cell_row Tryz.results152 _ _ w.heap.size 30 (exC t.nd (.slice a len cap)) (0, 0) _ rfl (F1.out _).2.2.2 Tryz.underlying30 rfl (exC_info _ _)) rfl ?_
    exact ⟨a, len, cap, bs, rfl, (F1.out _).2.1, (F1.out _).2.2.1, hij, hjl, hsm⟩
set_option maxHeartbeats 2000000 in
set_option maxRecDepth 100000 in
theorem prim_call (hi : i < l.length) (hk : (wdAt l i).kind = 4) {r : PR} (HP : CallP 187 B g c mB l i o [] r) : CallP 152 B g c mB l i o [] r := by
  intro w hR hM
  have hB := hide hR.lt
  have hgl := hide (hR.glt hi)
  have st0 := step (Below.refl w.heap.size w) z14O
  have st := st0.drew
  have hR0 := hR.keep st0
  obtain ⟨k0, -, -⟩ := hR0.wd hi
  have b0 : (w.alloc z14O).cell? ⟨B, 0, none⟩ = some (.slice (some ⟨g, 0, none⟩) l.length c) := hR0.blk.at' 0
  have b1 : (w.alloc z14O).cell? ⟨B, 1, none⟩ = some (.int .i64 (i : Int)) := hR0.blk.at' 1
  have q1 : (i : Int) < (l.length : Int) := by omega
  have q2 : (l.length : Int) ≤ (c : Int) := by have := hR.len; omega
  have e9 := hide (show (w.alloc z14O).heap.size = w.heap.size + 1 by simp)
  have gd := hide (grown_of ((Below.refl (w.alloc z14O).heap.size (w.alloc z14O)).drew) (some B))
  have H1 := hide (HP (w.alloc z14O).drew (hR.keep st) (hM.keep hR (grown_of st _)))
  rw [hk] at k0
  clear HP hk
  replace st := hide st
  replace st0 := hide st0
  clear hR hM hR0
  cases r with
  | bad er at' =>
    go_enter Tryz.func152, Tryz.ntmps152
    go_wp2_with fail
    refine all10 (by kernel_rfl) (by kernel_rfl) ?_
    repeat still_step
    refine wpStill_nil ?_
    clear b0 b1 k0
    go_wp2_with fail
    refine H1.out.mono ?_
    rintro e w1 ⟨rfl, hg⟩
    exact ⟨rfl, rfl, grown_trans (grown_of st.out _) hg⟩
  | ok t j =>
    go_enter Tryz.func152, Tryz.ntmps152
    go_wp2_with fail
    refine all10 (by kernel_rfl) (by kernel_rfl) ?_
    repeat still_step
    refine wpStill_nil ?_
    clear b0 b1 k0
    go_wp2_with fail
    refine H1.out.mono ?_
    rintro e w1 ⟨a, len, cap, bs, rfl, hN, hO, hij, hjl, hsm⟩
    have G1 := hide (Got.of (lo := w.heap.size + 1) gd.out hN hO hsm (Nat.le_of_eq e9.out.symm))
    have F1 := hide (fun cs => G1.out.fin (cs := cs) hB.out hgl.out)
    have hsn := run_putrow t.nd a len cap (F1.out z14).1 rfl
    clear hN hO
    go_wp2_with fail
    refine bodyPost_ret (v := exV t.nd (.slice a len cap)) (results_cell_row Tryz.results152 _ _ w.heap.size 30 (exC t.nd (.slice a len cap)) (0, 0) _ rfl (F1.out _).2.2.2 Tryz.underlying30 rfl (exC_info _ _)) rfl ?_
    exact ⟨a, len, cap, bs, rfl, (F1.out _).2.1, (F1.out _).2.2.1, hij, hjl, hsm⟩
set_option maxHeartbeats 2000000 in
set_option maxRecDepth 100000 in
theorem prim_brk (hi : i < l.length) (hk : (wdAt l i).kind = 7) {r : PR} (HP : CallP 188 B g c mB l i o [] r) : CallP 152 B g c mB l i o [] r := by
  intro w hR hM
  have hB := hide hR.lt
  have hgl := hide (hR.glt hi)
  have st0 := step (Below.refl w.heap.size w) z14O
  have st := st0.drew
  have hR0 := hR.keep st0
  obtain ⟨k0, -, -⟩ := hR0.wd hi
  have b0 : (w.alloc z14O).cell? ⟨B, 0, none⟩ = some (.slice (some ⟨g, 0, none⟩) l.length c) := hR0.blk.at' 0
  have b1 : (w.alloc z14O).cell? ⟨B, 1, none⟩ = some (.int .i64 (i : Int)) := hR0.blk.at' 1
  have q1 : (i : Int) < (l.length : Int) := by omega
  have q2 : (l.length : Int) ≤ (c : Int) := by have := hR.len; omega
  have e9 := hide (show (w.alloc z14O).heap.size = w.heap.size + 1 by simp)
  have gd := hide (grown_of ((Below.refl (w.alloc z14O).heap.size (w.alloc z14O)).drew) (some B))
  have H1 := hide (HP (w.alloc z14O).drew (hR.keep st) (hM.keep hR (grown_of st _)))
  rw [hk] at k0
  clear HP hk
  replace st := hide st
  replace st0 := hide st0
  clear hR hM hR0
  cases r with
  | bad er at' =>
    go_enter Tryz.func152, Tryz.ntmps152
    go_wp2_with fail
    refine all10 (by kernel_rfl) (by kernel_rfl) ?_
    repeat still_step
    refine wpStill_nil ?_
    clear b0 b1 k0
    go_wp2_with fail
    refine H1.out.mono ?_
    rintro e w1 ⟨rfl, hg⟩
    exact ⟨rfl, rfl, grown_trans (grown_of st.out _) hg⟩
  | ok t j =>
    go_enter Tryz.func152, Tryz.ntmps152
    go_wp2_with fail
    refine all10 (by kernel_rfl) (by kernel_rfl) ?_
    repeat still_step
    refine wpStill_nil ?_
    clear b0 b1 k0
    go_wp2_with fail
    refine H1.out.mono ?_
    rintro e w1 ⟨a, len, cap, bs, rfl, hN, hO, hij, hjl, hsm⟩
    have G1 := hide (Got.of (lo := w.heap.size + 1) gd.out hN hO hsm (Nat.le_of_eq e9.out.symm))
    have F1 := hide (fun cs => G1.out.fin (cs := cs) hB.out hgl.out)
    have hsn := run_putrow t.nd a len cap (F1.out z14).1 rfl
    clear hN hO
    go_wp2_with fail
    refine bodyPost_ret (v := exV t.nd (.slice a len cap)) (results_cell_row Tryz.results152 _ _ w.heap.size 30 (exC t.nd (.slice a len cap)) (0, 0) _ rfl (F1.out _).2.2.2 Tryz.underlying30 rfl (exC_info _ _)) rfl ?_
    exact ⟨a, len, cap, bs, rfl, (F1.out _).2.1, (F1.out _).2.2.1, hij, hjl, hsm⟩
set_option maxHeartbeats 2000000 in
set_option maxRecDepth 100000 in
theorem prim_end (hi : i < l.length) (hk : (wdAt l i).kind = 0) : CallP 152 B g c mB l i o [] (.bad 20 (plAt l i)) := by
  intro w hR hM
  have hB := hide hR.lt
  have hgl := hide (hR.glt hi)
  have st0 := step (Below.refl w.heap.size w) z14O
  have st := st0.drew
  have hR0 := hR.keep st0
  obtain ⟨k0, -, -⟩ := hR0.wd hi
  have b0 : (w.alloc z14O).cell? ⟨B, 0, none⟩ = some (.slice (some ⟨g, 0, none⟩) l.length c) := hR0.blk.at' 0
  have b1 : (w.alloc z14O).cell? ⟨B, 1, none⟩ = some (.int .i64 (i : Int)) := hR0.blk.at' 1
  have q1 : (i : Int) < (l.length : Int) := by omega
  have q2 : (l.length : Int) ≤ (c : Int) := by have := hR.len; omega
  have e9 := hide (show (w.alloc z14O).heap.size = w.heap.size + 1 by simp)
  have gd := hide (grown_of ((Below.refl (w.alloc z14O).heap.size (w.alloc z14O)).drew) (some B))
  have H1 := hide (refuse_any (hR.keep st) hi)
  rw [hk] at k0
  clear hk
  replace st := hide st
  replace st0 := hide st0
  clear hR hM hR0
  go_enter Tryz.func152, Tryz.ntmps152
  go_wp2_with fail
  refine all10 (by kernel_rfl) (by kernel_rfl) ?_
  repeat still_step
  refine wpStill_nil ?_
  clear b0 b1 k0
  go_wp2_with fail
  refine H1.out.mono ?_
  rintro e w1 ⟨rfl, hb⟩
  exact ⟨rfl, rfl, grown_of (next st.out hb) _⟩
set_option maxHeartbeats 2000000 in
set_option maxRecDepth 100000 in
theorem prim_leaf (hi : i < l.length) (hE : EndW l) (h0 : (wdAt l i).kind ≠ 0) (h3 : (wdAt l i).kind ≠ 3) (h4 : (wdAt l i).kind ≠ 4) (h7 : (wdAt l i).kind ≠ 7) {nd : Nd} (ht : nd.text.size ≤ 4611686018427387904) (HL0 : ∀ w, Calls Tryz.prog 189 #[wdV (wdAt l i).kind (ba (wdAt l i).text) (wdAt l i).at'] w fun e w' => e = .returned (exV nd sN) ∧ Below w.heap.size w w') : CallP 152 B g c mB l i o [] (.ok (.mk nd []) (i + 1)) := by
  intro w hR hM
  have hB := hide hR.lt
  have hgl := hide (hR.glt hi)
  have st0 := step (Below.refl w.heap.size w) z14O
  have st := st0.drew
  have hR0 := hR.keep st0
  obtain ⟨k0, -, -⟩ := hR0.wd hi
  have b0 : (w.alloc z14O).cell? ⟨B, 0, none⟩ = some (.slice (some ⟨g, 0, none⟩) l.length c) := hR0.blk.at' 0
  have b1 : (w.alloc z14O).cell? ⟨B, 1, none⟩ = some (.int .i64 (i : Int)) := hR0.blk.at' 1
  have q1 : (i : Int) < (l.length : Int) := by omega
  have q2 : (l.length : Int) ≤ (c : Int) := by have := hR.len; omega
  have e9 := hide (show (w.alloc z14O).heap.size = w.heap.size + 1 by simp)
  have gd := hide (grown_of ((Below.refl (w.alloc z14O).heap.size (w.alloc z14O)).drew) (some B))
  have HT := hide (take_any (hR.keep st) hi)
  have HL := hide HL0
  have hi1 := hide (hE.adv hi h0)
  replace ht := hide ht
  have m0 : (((wdAt l i).kind : Int) == 0) = false := by rw [beq_eq_false_iff_ne]; omega
  have m3 : (((wdAt l i).kind : Int) == 3) = false := by rw [beq_eq_false_iff_ne]; omega
  have m4 : (((wdAt l i).kind : Int) == 4) = false := by rw [beq_eq_false_iff_ne]; omega
  have m7 : (((wdAt l i).kind : Int) == 7) = false := by rw [beq_eq_false_iff_ne]; omega
  clear HL0 h0 h3 h4 h7
  generalize wdAt l i = x at *
  obtain ⟨xk, xt, xa⟩ := x
  simp only at *
  replace st := hide st
  replace st0 := hide st0
  clear hR hM hR0
  go_enter Tryz.func152, Tryz.ntmps152
  go_wp2_with fail
  refine all10 (by kernel_rfl) (by kernel_rfl) ?_
  repeat still_step
  refine wpStill_nil ?_
  clear b0 b1 k0
  go_wp2_with (first
    | (go_at_call 106; (refine HT.out.mono ?_; rintro e w1 ⟨rfl, hon⟩; have O1 := hide (show On (w.alloc z14O) w1 B g c mB l (i + 1) o from ⟨hon.rd, grown_trans gd.out hon.gr⟩); replace hon := hide hon))
    | (go_at_call 189; (refine (HL.out _).mono ?_; rintro e w2 ⟨rfl, hb2⟩; have F2 := hide (fun cs => (O1.out.keep hb2).fin cs hB.out hgl.out); have hsn := run_putrow nd none 0 0 (F2.out z14).1 rfl; replace hb2 := hide hb2)))
  refine bodyPost_ret (v := exV nd sN) (results_cell_row Tryz.results152 _ _ w.heap.size 30 (exC nd sN) (0, 0) _ rfl (F2.out _).2.2 Tryz.underlying30 rfl (exC_info _ _)) rfl ?_
  exact PRP.leaf2 (F2.out _).2.1 (Nat.lt_succ_self i) hi1.out ht.out
end Go.Proofs.YtdlomdbmmhjppaaGreatDoor.T9
namespace Go.Proofs.YtdlomdbmmhjppaaGreatDoor.T9
open Go.RowKit Go.Sort
set_option linter.unusedVariables false

/-- A word that is a tree by itself: what it is read as. -/
def LfOk (Fd : List UInt8 → Option (Int × Int × Int)) (l : List Wd) : Prop := ∀ j, j < l.length → (wdAt l j).kind ≠ 0 → (wdAt l j).kind ≠ 3 → (wdAt l j).kind ≠ 4 → (wdAt l j).kind ≠ 7 → ∃ nd : Nd, nd.text.size ≤ 4611686018427387904 ∧ (∀ w, Calls Tryz.prog 189 #[wdV (wdAt l j).kind (ba (wdAt l j).text) (wdAt l j).at'] w fun e w' => e = .returned (exV nd sN) ∧ Below w.heap.size w w') ∧ ∀ f o, primP rdF Fd l (f + 1) j o = .ok (.mk nd []) (j + 1)
/-- Every reading with so much fuel. -/
structure AllIs (Fd : List UInt8 → Option (Int × Int × Int)) (B g c mB : Nat) (l : List Wd) (f : Nat) : Prop where
  line : ∀ n i o, 1 ≤ n → n ≤ 6 → i < l.length → o ≤ 256 → 8 * (l.length - i) + 9 - n ≤ f → CallP 79 B g c mB l i o [.int .i64 (n : Int)] (lineP rdF Fd l f n i o)
  sign : ∀ i o, i < l.length → o ≤ 256 → 8 * (l.length - i) + 2 ≤ f → CallP 103 B g c mB l i o [] (signP rdF Fd l f i o)
  prim : ∀ i o, i < l.length → o ≤ 256 → 8 * (l.length - i) + 1 ≤ f → CallP 152 B g c mB l i o [] (primP rdF Fd l f i o)
  args : ∀ i o, i < l.length → o ≤ 256 → 8 * (l.length - i) + 9 ≤ f → CallA 211 B g c mB l i o (argsP rdF Fd l f i o)
variable {B g c mB : Nat} {l : List Wd} {i o : Nat} {Fd : List UInt8 → Option (Int × Int × Int)}
theorem runW_lt (hE : EndW l) : ∀ (f i : Nat), i < l.length → runW l pS f i < l.length
  | 0, i, h => by rw [runW]; exact h
  | f + 1, i, h => by
    by_cases hs : sgnOf (sgAt l i) ≠ 0
    · rw [runS_yes hs]
      exact runW_lt hE f (i + 1) (hE.sg h rfl (sgnOf_ne hs))
    · rw [runS_no hs]; exact h
theorem rest_eq (f : Nat) (n : Nat) (t : Ex) (j o : Nat) : restP rdF Fd l (f + 1) n t j o = if (opOf (sgAt l j)).1 = n then (match lineP rdF Fd l f (n + 1) (j + 1) o with | .bad e a => .bad e a | .ok u k => restP rdF Fd l f n (binX (opOf (sgAt l j)).2 t u) k o) else .ok t j := by
  rw [restP]
  by_cases h : (opOf (sgAt l j)).1 = n
  · rw [if_pos h, if_pos h]
    cases lineP rdF Fd l f (n + 1) (j + 1) o <;> rfl
  · rw [if_neg h, if_neg h]
theorem more_eq (f : Nat) (ts : List Ex) (j o : Nat) : moreP rdF Fd l (f + 1) ts j o = if sgAt l j = [44] then (match lineP rdF Fd l f 1 (j + 1) o with | .bad e a => .bad e a | .ok u k => moreP rdF Fd l f (ts ++ [u]) k o) else .ok ts j := by
  rw [moreP]
  by_cases h : sgAt l j = [44]
  · rw [if_pos h, if_pos h]
    cases lineP rdF Fd l f 1 (j + 1) o <;> rfl
  · rw [if_neg h, if_neg h]
theorem line_step (hE : EndW l) (f : Nat) (ih : ∀ f', f' ≤ f → AllIs Fd B g c mB l f') (n i o : Nat) (h1 : 1 ≤ n) (h6 : n ≤ 6) (hi : i < l.length) (ho : o ≤ 256) (hf : 8 * (l.length - i) + 9 - n ≤ f + 1) : CallP 79 B g c mB l i o [.int .i64 (n : Int)] (lineP rdF Fd l (f + 1) n i o) := by
  rw [lineP]
  by_cases h5 : 5 < n
  · rw [if_pos h5]
    exact line_hi hi h5 (by omega) ((ih f (Nat.le_refl _)).sign i o hi ho (by omega))
  · rw [if_neg h5]
    have HP := (ih f (Nat.le_refl _)).line (n + 1) i o (by omega) (by omega) hi ho (by omega)
    cases hr : lineP rdF Fd l f (n + 1) i o with
    | bad e a =>
      rw [hr] at HP
      exact line_bad hi (by omega) HP
    | ok t0 j0 =>
      rw [hr] at HP
      exact line_ok hE hi h1 (by omega) (f := f) (fun q1 q2 => by omega) (fun f' t j => restP rdF Fd l f' n t j o) (fun f' j => lineP rdF Fd l f' (n + 1) j o) rfl (fun f' t j => rest_eq f' n t j o) HP (fun f' j q1 q2 q3 q4 => (ih f' (by omega)).line (n + 1) j o (by omega) (by omega) q3 ho (by omega))
theorem sign_step (hE : EndW l) (f : Nat) (ih : AllIs Fd B g c mB l f) (i o : Nat) (hi : i < l.length) (ho : o ≤ 256) (hf : 8 * (l.length - i) + 2 ≤ f + 1) : CallP 103 B g c mB l i o [] (signP rdF Fd l (f + 1) i o) := by
  rw [signP]
  have hJ := runW_lt hE l.length i hi
  have hge := runW_ge l pS l.length i
  have HP := ih.prim (runW l pS l.length i) o hJ ho (by omega)
  cases hr : primP rdF Fd l f (runW l pS l.length i) o with
  | bad e a =>
    rw [hr] at HP
    exact signed_is hE hi (percent_bad hJ HP)
  | ok t j =>
    rw [hr] at HP
    exact signed_is hE hi (percent_ok hE hJ HP)
theorem args_step (hE : EndW l) (f : Nat) (ih : ∀ f', f' ≤ f → AllIs Fd B g c mB l f') (i o : Nat) (hi : i < l.length) (ho : o ≤ 256) (hf : 8 * (l.length - i) + 9 ≤ f + 1) : CallA 211 B g c mB l i o (argsP rdF Fd l (f + 1) i o) := by
  rw [argsP]
  by_cases hc : sgAt l i = [41]
  · rw [if_pos hc]
    exact args_none hi hc
  · rw [if_neg hc]
    have HP := (ih f (Nat.le_refl _)).line 1 i o (by omega) (by omega) hi ho (by omega)
    cases hr : lineP rdF Fd l f 1 i o with
    | bad e a =>
      rw [hr] at HP
      exact args_bad hi hc HP
    | ok t0 j0 =>
      rw [hr] at HP
      exact args_ok hE hi hc (f := f) (fun q1 q2 => by omega) (fun f' ts j => moreP rdF Fd l f' ts j o) (fun f' j => lineP rdF Fd l f' 1 j o) rfl (fun f' ts j => more_eq f' ts j o) HP (fun f' j q1 q2 q3 q4 => (ih f' (by omega)).line 1 j o (by omega) (by omega) q3 ho (by omega))
theorem prim_step (hE : EndW l) (hs : ∀ j, (ba (wdAt l j).text).size ≤ maxLen) (hFd : FdOk Fd) (hLf : LfOk Fd l) (f : Nat) (ih : AllIs Fd B g c mB l f) (i o : Nat) (hi : i < l.length) (ho : o ≤ 256) (hf : 8 * (l.length - i) + 1 ≤ f + 1) : CallP 152 B g c mB l i o [] (primP rdF Fd l (f + 1) i o) := by
  by_cases h0 : (wdAt l i).kind = 0
  · rw [primP, h0]
    exact prim_end hi h0
  by_cases h3 : (wdAt l i).kind = 3
  · rw [primP, h3]
    exact prim_ref hi h3 (ref_is hE hi h3 hs)
  by_cases h4 : (wdAt l i).kind = 4
  · have H := prim_call hi h4 (call_is (r := argsP rdF Fd l f (i + 2) (o + 1)) hE hi h4 (hs i) ho hFd (fun q1 q2 => ih.args (i + 2) (o + 1) q1 q2 (by omega)))
    rw [primP, h4]
    exact H
  by_cases h7 : (wdAt l i).kind = 7
  · have H := prim_brk hi h7 (bracket_is (r := lineP rdF Fd l f 1 (i + 1) (o + 1)) hE hi ho (fun q1 q2 => ih.line 1 (i + 1) (o + 1) (by omega) (by omega) q1 q2 (by omega)))
    rw [primP, h7]
    exact H
  obtain ⟨nd, hn, H1, H2⟩ := hLf i hi h0 h3 h4 h7
  rw [H2]
  exact prim_leaf hi hE h0 h3 h4 h7 hn H1
theorem all_is (hE : EndW l) (hs : ∀ j, (ba (wdAt l j).text).size ≤ maxLen) (hFd : FdOk Fd) (hLf : LfOk Fd l) : ∀ f, AllIs Fd B g c mB l f := by
  intro f
  induction f using Nat.strongRecOn with
  | ind f ih =>
    cases f with
    | zero => exact ⟨fun n i o _ _ hi _ h => by omega, fun i o hi _ h => by omega, fun i o hi _ h => by omega, fun i o hi _ h => by omega⟩
    | succ f =>
      have ih' : ∀ f', f' ≤ f → AllIs Fd B g c mB l f' := fun f' h => ih f' (by omega)
      exact ⟨line_step hE f ih', sign_step hE f (ih' f (Nat.le_refl _)), prim_step hE hs hFd hLf f (ih' f (Nat.le_refl _)), args_step hE f ih'⟩
end Go.Proofs.YtdlomdbmmhjppaaGreatDoor.T9
