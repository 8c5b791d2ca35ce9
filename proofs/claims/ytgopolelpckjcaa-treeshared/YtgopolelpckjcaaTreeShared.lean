/- TreeShared: the law's walk, for every tree that is doubled. -/
import Derived.Test.YtgopolelpckjcaaPlays9
namespace Go.Proofs.Ytgopolelpckjcaa
open Go.RowKit Go.Sort
set_option linter.unusedVariables false

abbrev ndD (o : Int) : Nd := ⟨8, o, 0, no, ⟨0, 0, false, false⟩, ⟨0, 0, false, false⟩, 0⟩
/-- The tree, its lists behind its box or where they were. -/
structure ShSt (w0 : World) (Bt : Nat) (n : Nd) (a : Option Addr) (l c : Nat) (t : Ex) (wr : World) : Prop where
  low : Below w0.heap.size w0 wr
  size : Bt < wr.heap.size
  box : Blk wr Bt (exC n (.slice a l c)) 29
  tree : In (fun b => b ≠ Bt ∧ b < wr.heap.size) wr (exV n (.slice a l c)) t
  nd : t.nd = n
theorem built2 (n : Nd) (s : Value) : Try.prog.builtSlice 29 2 [(0, exV n s), (1, exV n s)] = some (exC n s ++ exC n s) := by kernel_rfl
theorem two_range {w : World} {B : Nat} {n : Nd} {s : Value} (h : Blk w B (exC n s ++ exC n s) 29) : w.rangeAt B 0 (exC n s).toList ∧ w.rangeAt B (0 + 14) (exC n s).toList := by
  have hj : ∀ (j : Nat) (v : Value), (exC n s).toList[j]? = some v → j < 14 := fun j v hv => by have := (List.getElem?_eq_some_iff.1 hv).1; rwa [exC_len] at this
  refine ⟨fun j v hv => ?_, fun j v hv => ?_⟩
  · have h14 := hj _ _ hv
    rw [cell_of_row w B _ _ _ _ h, Array.getElem?_append_left (by rw [exC_size]; omega), Nat.zero_add]
    rwa [Array.getElem?_toList] at hv
  · have h14 := hj _ _ hv
    rw [cell_of_row w B _ _ _ _ h, Array.getElem?_append_right (by rw [exC_size]; omega), exC_size, show 0 + 14 + j - 14 = j by omega]
    rwa [Array.getElem?_toList] at hv
theorem ShSt.more {w0 wr : World} {Bt : Nat} {n : Nd} {a : Option Addr} {l c : Nat} {t : Ex} (h : ShSt w0 Bt n a l c t wr) (hB : w0.heap.size ≤ Bt) (o : Int) :
    ShSt w0 Bt (ndD o) (some ⟨wr.heap.size, 0, none⟩) 2 2 (.mk (ndD o) [t, t]) ((wr.alloc (.cells (exC n (.slice a l c) ++ exC n (.slice a l c)) 29)).setRow Bt (exC (ndD o) (.slice (some ⟨wr.heap.size, 0, none⟩) 2 2))) := by
  have hz : (wr.alloc (.cells (exC n (.slice a l c) ++ exC n (.slice a l c)) 29)).heap.size = wr.heap.size + 1 := by simp
  have hlt := h.size
  have hsame : ∀ x, x ≠ Bt → ((wr.alloc (.cells (exC n (.slice a l c) ++ exC n (.slice a l c)) 29)).setRow Bt (exC (ndD o) (.slice (some ⟨wr.heap.size, 0, none⟩) 2 2))).heap[x]? = (wr.alloc (.cells (exC n (.slice a l c) ++ exC n (.slice a l c)) 29)).heap[x]? := fun x hx => setRow_other _ _ _ _ hx
  have hn : Blk ((wr.alloc (.cells (exC n (.slice a l c) ++ exC n (.slice a l c)) 29)).setRow Bt (exC (ndD o) (.slice (some ⟨wr.heap.size, 0, none⟩) 2 2))) wr.heap.size (exC n (.slice a l c) ++ exC n (.slice a l c)) 29 := (hsame _ (by omega)).trans (Blk.new wr _ _)
  obtain ⟨r0, r1⟩ := two_range hn
  have ht : In (fun b => b ≠ Bt ∧ b < ((wr.alloc (.cells (exC n (.slice a l c) ++ exC n (.slice a l c)) 29)).setRow Bt (exC (ndD o) (.slice (some ⟨wr.heap.size, 0, none⟩) 2 2))).heap.size) ((wr.alloc (.cells (exC n (.slice a l c) ++ exC n (.slice a l c)) 29)).setRow Bt (exC (ndD o) (.slice (some ⟨wr.heap.size, 0, none⟩) 2 2))) (.agg (exC n (.slice a l c))) t :=
    h.tree.move (fun x hx => ⟨⟨hx.1, by rw [size_setRow, hz]; omega⟩, (hsame x hx.1).trans (Below.heap_alloc _ _ x hx.2)⟩)
  refine ⟨below_setRow (step h.low _) hB _, by rw [size_setRow, hz]; omega, (h.box.alloc _).setRow, ?_, rfl⟩
  show In _ _ (exV (ndD o) (.slice (some ⟨wr.heap.size, 0, none⟩) 2 2)) (.mk (ndD o) [t, t])
  unfold In
  refine ⟨_, _, _, rfl, rfl, by omega, by show (0 : Nat) ≤ _; omega, .inr ⟨wr.heap.size, 0, rfl, ⟨by omega, by rw [size_setRow, hz]; omega⟩, ?_⟩⟩
  unfold Kids
  refine ⟨⟨_, ht, r0⟩, ?_⟩
  unfold Kids
  exact ⟨⟨_, ht, r1⟩, by unfold Kids; trivial⟩
section
variable {ops : Array Oper} {rest : List Oper} {o : Oper} {a : Act} {w : World} {Q : Exit → Act → World → Prop}
theorem wpList_buildOp (hg : o.guard = none) (x y z : Operand) (ho : o.op = .build 31 #[(0, x), (1, y), (2, z)]) (k : Int) (n2 n3 : Nd) (s2 s3 : Value) (hx : a.eval x = .int .i64 k) (hy : a.eval y = exV n2 s2) (hz : a.eval z = exV n3 s3)
    (h : wpList Try.prog ops Q rest (a.put o.dst (.agg (opC k n2 s2 n3 s3))) w) : wpList Try.prog ops Q (o :: rest) a w := by
  have hb : Try.prog.built 31 ((#[(0, x), (1, y), (2, z)] : Array (Nat × Operand)).map fun (i, x) => (i, a.eval x)).toList = some (opC k n2 s2 n3 s3) := by
    rw [Array.toList_map]
    show Try.prog.built _ [(0, a.eval x), (1, a.eval y), (2, a.eval z)] = _
    rw [hx, hy, hz]; exact builtOp _ _ _ _ _
  refine wpList_build hg _ _ ho (by rw [hb]; rfl) ?_
  rw [hb]; exact h
end
theorem meas_u {d k : Nat} (h : k < d) : d - (intOf (.int .u8 ((k : Int) + 1))).toNat < d - (intOf (.int .u8 (k : Int))).toNat := by
  show d - ((k : Int) + 1).toNat < d - (k : Int).toNat
  omega
set_option maxHeartbeats 2000000 in
set_option maxRecDepth 100000 in
theorem treeShared_walk (t : Ex) (v : Value) (n : Int) (hn : (Lit.int .u8 n).wf = true) (w : World) (ht : Tree w v t) : Calls Try.prog 4 #[v, .int .u8 n] w fun e w' => e = .returned (.bool true) ∧ Below w.heap.size w w' := by
  obtain ⟨nd, ks⟩ := t
  obtain ⟨a, len, cap, rfl, _, _, _, _⟩ := ht.un
  replace hn : 0 ≤ n ∧ n ≤ 255 := by
    simp only [Lit.wf, Bool.and_eq_true, decide_eq_true_eq, show IntKind.u8.min = 0 from rfl, show IntKind.u8.max = 255 from rfl] at hn
    exact hn
  obtain ⟨m, hm⟩ : ∃ m : Nat, n % 64 = (m : Int) := ⟨(n % 64).toNat, by omega⟩
  have hml : Hid (m < 64) := hide (by omega)
  replace hm := hide hm
  have P0 := hide (Blk.new w (exC nd (.slice a len cap)) 29)
  have B0 := hide (step (Below.refl w.heap.size w) (exO nd (.slice a len cap)))
  have HG := hide (begun9 (w.alloc (exO nd (.slice a len cap))))
  replace ht := hide ht
  go_enter Try.func4, Try.ntmps4
  try simp only [List.append]
  go_wp2_with (first
    | (go_at_call 6; refine HG.out.mono ?_; rintro e w0 ⟨rfl, hb⟩; have b0 := hide (next B0.out hb); have S0 : Hid (ShSt w w.heap.size nd a len cap (.mk nd ks) w0) := hide ⟨next B0.out hb, (P0.out.keep hb).lt, P0.out.keep hb, ht.out.move (fun x hx => ⟨⟨Nat.ne_of_lt hx, Nat.lt_of_lt_of_le hx (next B0.out hb).size⟩, (next B0.out hb).block x hx⟩), rfl⟩; clear hb))
  go_loopw [5] (fun i wr => ∃ (k : Nat) (nd' : Nd) (a' : Option Addr) (l' c' : Nat) (t' : Ex), k ≤ m ∧ i = .int .u8 (k : Int) ∧ Hid (ShSt w w.heap.size nd' a' l' c' t' wr)) (fun i _ => m - (intOf i).toNat)
  case atStart => exact ⟨0, nd, a, len, cap, _, Nat.zero_le _, rfl, S0⟩
  case round =>
    obtain ⟨k, nd', a', l', c', t', hkm, rfl, HS⟩ := hrel
    by_cases hlt : k < m
    · have p0 : (k : Int) < n % 64 := by have := hm.out; omega
      have hk64 : (k : Int) < 64 := by have := hml.out; omega
      have X1 := hide HS.out.box
      obtain ⟨o, ho⟩ : ∃ o : Int, 1 + (k : Int) % 12 = o := ⟨_, rfl⟩
      have X2 : (wr.alloc (.cells (exC nd' (.slice a' l' c') ++ exC nd' (.slice a' l' c')) 29)).heap[w.heap.size]? = some (.cells (exC nd' (.slice a' l' c')) 29 (0, 0)) := HS.out.box.alloc _
      have hmore := hide (HS.out.more (Nat.le_refl _) o)
      go_wp2_with (first
        | (refine wpList_load_blk rfl 29 _ rfl _ rfl _ (by with_reducible exact X1.out) _ Try.underlying29 rfl (exC_info _ _) ?_)
        | (refine Go.Great.wpList_buildSliceTo rfl 27 29 2 _ rfl wr.heap.size rfl _ rfl Try.underlying27 (exC nd' (.slice a' l' c') ++ exC nd' (.slice a' l' c')) (by rw [Array.toList_map]; exact built2 _ _) ?_)
        | (refine wpList_store_row rfl 29 _ _ rfl _ (exC (ndD o) (.slice (some ⟨wr.heap.size, 0, none⟩) 2 2)) rfl rfl 29 _ (by with_reducible exact X2) (exC_info _ _) (by rfl) (exC_one _ _ _ _) ?_))
      exact ⟨⟨k + 1, _, _, _, _, _, hlt, rfl, hmore⟩, meas_u hlt⟩
    · obtain rfl : k = m := by omega
      have p0 : ¬ ((k : Int) < n % 64) := by have := hm.out; omega
      go_wp2_with fail
      clear p0
      obtain ⟨wa, rfl⟩ : ∃ wa, wa = wr := ⟨wr, rfl⟩
      have X1 := hide HS.out.box
      have T1 : Hid (Tree wa (exV nd' (.slice a' l' c')) t') := hide (HS.out.tree.wide (fun x hx => hx.2))
      obtain ⟨nt, kt⟩ := t'
      obtain rfl : nt = nd' := HS.out.nd
      have b1 := hide HS.out.low
      clear HS S0
      go_loopw [6] (fun i wr => ∃ (q : Nat), q ≤ 6 ∧ 1 ≤ q ∧ i = .int .i64 (q : Int) ∧ Hid (Below wa.heap.size wa wr)) (fun i _ => 6 - (intOf i).toNat)
      case atStart => exact ⟨1, by omega, by omega, rfl, Below.refl _ _⟩
      case round =>
        obtain ⟨q, hq6, hq1, rfl, HB⟩ := hrel
        by_cases hqt : q < 6
        · have q0 : (q : Int) ≤ 5 := by omega
          have X2 := hide (X1.out.keep HB.out)
          have T2 := T1.out.step HB.out
          have HP := hide (plays_any (q : Int) nt kt a' l' c' nt kt a' l' c' wr T2 T2)
          clear T2
          go_wp2_with (first
            | (refine wpList_load_blk rfl 29 _ rfl _ rfl _ (by with_reducible exact X2.out) _ Try.underlying29 rfl (exC_info _ _) ?_)
            | (refine wpList_buildOp rfl _ _ _ rfl _ _ _ _ _ rfl rfl rfl ?_)
            | (go_at_call 7; refine HP.out.mono ?_; rintro e w4 ⟨rfl, hb4⟩; have b4 := hide (next HB.out hb4); clear hb4))
          exact ⟨⟨q + 1, hqt, by omega, rfl, b4⟩, meas_lt hqt⟩
        · obtain rfl : q = 6 := by omega
          go_wp2_with fail
          go_ret
          exact ⟨rfl, next b1.out HB.out⟩
end Go.Proofs.Ytgopolelpckjcaa
