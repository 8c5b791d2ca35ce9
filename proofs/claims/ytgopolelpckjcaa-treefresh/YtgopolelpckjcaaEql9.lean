/- tree.Same: two trees, node by node, with slices.EqualFunc between. -/
import Derived.Test.YtgopolelpckjcaaSame9
namespace Go.Proofs.Ytgopolelpckjcaa
open Go.RowKit Go.Sort
set_option linter.unusedVariables false

mutual
/-- Are two trees the same? -/
def sameE : Ex → Ex → Bool
  | .mk n ks, t => ndB n t.nd && sameL ks t.kids
def sameL : List Ex → List Ex → Bool
  | [], l => l.isEmpty
  | k :: r, l => match l with | [] => false | x :: y => sameE k x && sameL r y
end
theorem sameL_len : ∀ (ks ls : List Ex), ks.length ≠ ls.length → sameL ks ls = false
  | [], [], h => absurd rfl h
  | [], x :: y, _ => by rw [sameL]; rfl
  | k :: r, [], _ => by rw [sameL]
  | k :: r, x :: y, h => by rw [sameL]; simp only [sameL_len r y (by simpa using h), Bool.and_false]
theorem sameL_at (ks ls : List Ex) (i : Nat) (h1 : i < ks.length) (h2 : i < ls.length) : sameL (ks.drop i) (ls.drop i) = (sameE ks[i] ls[i] && sameL (ks.drop (i + 1)) (ls.drop (i + 1))) := by
  rw [List.drop_eq_getElem_cons h1, List.drop_eq_getElem_cons h2, sameL]
theorem sameL_end (ks ls : List Ex) (h : ks.length = ls.length) : sameL (ks.drop ks.length) (ls.drop ks.length) = true := by
  rw [List.drop_length, h, List.drop_length, sameL]; rfl
/-- Where the closure lies. -/
abbrev isV (B : Nat) : Value := .func (.func 33) #[] #[.pointer (some ⟨B, 0, none⟩)]
abbrev IsBox (B : Nat) (w : World) : Prop := Blk w B #[isV B] 44
abbrev SameIs (B : Nat) (t : Ex) : Prop := ∀ (u : Ex) (v1 v2 : Value) (w : World), Tree w v1 t → Tree w v2 u → IsBox B w →
  Calls Try.prog 33 #[v1, v2, .pointer (some ⟨B, 0, none⟩)] w fun e w' => e = .returned (.bool (sameE t u)) ∧ Below w.heap.size w w'
/-- A list of kids in memory. -/
structure KidsAt (w : World) (a : Option Addr) (len : Nat) (ks : List Ex) : Prop where
  lq : len = ks.length
  small : len ≤ 4611686018427387904
  at' : len = 0 ∨ ∃ b o, a = some ⟨b, o, none⟩ ∧ b < w.heap.size ∧ Kids (· < w.heap.size) w b o ks
theorem KidsAt.step {w w' : World} {a : Option Addr} {len : Nat} {ks : List Ex} (h : KidsAt w a len ks) (hb : Below w.heap.size w w') : KidsAt w' a len ks := by
  refine ⟨h.lq, h.small, ?_⟩
  rcases h.at' with h | ⟨b, o, ha, hlt, hk⟩
  · exact .inl h
  · refine .inr ⟨b, o, ha, Nat.lt_of_lt_of_le hlt hb.size, Kids.of fun i hi => ?_⟩
    obtain ⟨cs, h1, h2⟩ := hk.get i hi
    exact ⟨cs, h1.move (fun k hk => ⟨Nat.lt_of_lt_of_le hk hb.size, hb.block k hk⟩), range_of_block h2 (hb.block b hlt)⟩
theorem Tree.kidsAt {w : World} {nd : Nd} {ks : List Ex} {a : Option Addr} {len cap : Nat} (h : Tree w (exV nd (.slice a len cap)) (.mk nd ks)) : KidsAt w a len ks := by
  obtain ⟨a', len', cap', hv, h1, h2, _, h3⟩ := h.un
  have : exC nd (.slice a len cap) = exC nd (.slice a' len' cap') := by simpa [exV] using hv
  have := congrArg (fun x : Array Value => x[13]?) this
  simp only [(at14 _ _).c13, Option.some.injEq, Value.slice.injEq] at this
  obtain ⟨rfl, rfl, rfl⟩ := this
  exact ⟨h1.out, h2.out, h3.out⟩
theorem KidsAt.get {w : World} {a : Option Addr} {len : Nat} {ks : List Ex} (h : KidsAt w a len ks) {i : Nat} (hi : i < len) : ∃ b o, a = some ⟨b, o, none⟩ ∧ ∃ (hk : i < ks.length) (aa : Option Addr) (l c : Nat), Tree w (exV ks[i].nd (.slice aa l c)) ks[i] ∧ w.rangeAt b (o + i * 14) (exC ks[i].nd (.slice aa l c)).toList := by
  rcases h.at' with h' | ⟨b, o, ha, hlt, hk⟩
  · omega
  · have hi' : i < ks.length := by have := h.lq; omega
    obtain ⟨cs, h1, h2⟩ := hk.get i hi'
    obtain ⟨aa, l, c, rfl⟩ := h1.cs
    exact ⟨b, o, ha, hi', aa, l, c, h1, h2⟩
set_option maxHeartbeats 2000000 in
set_option maxRecDepth 100000 in
theorem equal_any (B : Nat) (ks ls : List Ex) (ih : ∀ k ∈ ks, SameIs B k) (a1 a2 : Option Addr) (len1 len2 cap1 cap2 : Nat) (w : World) (h1 : KidsAt w a1 len1 ks) (h2 : KidsAt w a2 len2 ls) (hB : IsBox B w) :
    Calls Try.prog 35 #[.slice a1 len1 cap1, .slice a2 len2 cap2, isV B] w fun e w' => e = .returned (.bool (sameL ks ls)) ∧ Below w.heap.size w w' := by
  have l1 := hide h1.lq
  have l2 := hide h2.lq
  have s1 := hide h1.small
  replace h1 := hide h1
  replace h2 := hide h2
  replace hB := hide hB
  replace ih := hide ih
  by_cases hl : len1 = len2
  · have p0 : ((len1 : Int) != (len2 : Int)) = false := by simp [hl]
    replace hl := hide hl
    go_enter Try.func35, Try.ntmps35
    go_wp2_with fail
    go_loopw [17] (fun i wr => ∃ (k : Nat), k ≤ len1 ∧ i = .int .i64 k ∧ Hid (Below w.heap.size w wr) ∧ Hid (sameL ks ls = sameL (ks.drop k) (ls.drop k))) (fun i _ => len1 - (intOf i).toNat)
    case atStart => exact ⟨0, Nat.zero_le _, rfl, Below.refl _ _, rfl⟩
    case round =>
      obtain ⟨k, hkl, rfl, HB, HL⟩ := hrel
      by_cases hlt : k < len1
      · have q0 : (k : Int) < (len1 : Int) := by omega
        have q1 : (k : Int) < (len2 : Int) := by have := hl.out; omega
        obtain ⟨b1, o1, rfl, hk1, aa1, ll1, cc1, t1, r1⟩ := h1.out.get hlt
        obtain ⟨b2, o2, rfl, hk2, aa2, ll2, cc2, t2, r2⟩ := h2.out.get (i := k) (by have := hl.out; omega)
        have hat := sameL_at ks ls k hk1 hk2
        have ihk := ih.out _ (List.getElem_mem hk1)
        generalize ks[k] = tk at *
        generalize ls[k] = uk at *
        have R1 := range_of_block r1 (HB.out.block b1 (World.block_lt_of_cell? w ⟨b1, _, none⟩ (r1 0 _ rfl)))
        have R2 := World.rangeAt_alloc (range_of_block r2 (HB.out.block b2 (World.block_lt_of_cell? w ⟨b2, _, none⟩ (r2 0 _ rfl)))) (exO tk.nd (.slice aa1 ll1 cc1))
        have bel : Below w.heap.size w ((wr.alloc (exO tk.nd (.slice aa1 ll1 cc1))).alloc (exO uk.nd (.slice aa2 ll2 cc2))) := step (step HB.out _) _
        have IH := hide (ihk uk _ _ _ (t1.step bel) (t2.step bel) (hB.out.keep bel))
        have L1 := hide ((Blk.new wr (exC tk.nd (.slice aa1 ll1 cc1)) 29).alloc (exO uk.nd (.slice aa2 ll2 cc2)))
        have L2 := hide (Blk.new1 wr (exO tk.nd (.slice aa1 ll1 cc1)) (exC uk.nd (.slice aa2 ll2 cc2)) 29)
        replace bel := hide bel
        replace hat := hide hat
        have wk := IntWalk.wrap64_in ((k : Int) + 1) ⟨by omega, by have := s1.out; omega⟩
        clear t1 t2 r1 r2 ihk
        go_wp2_with (first
          | (refine wpList_load_at rfl 29 _ rfl _ _ rfl _ _ R1 Try.underlying29 rfl (exC_info _ _) ?_)
          | (refine wpList_load_at rfl 29 _ rfl _ _ rfl _ _ R2 Try.underlying29 rfl (exC_info _ _) ?_)
          | (refine wpList_load_blk rfl 29 _ rfl _ rfl _ L1.out _ Try.underlying29 rfl (exC_info _ _) ?_)
          | (refine wpList_load_blk rfl 29 _ rfl _ rfl _ L2.out _ Try.underlying29 rfl (exC_info _ _) ?_)
          | (refine wpList_store_new rfl 29 _ _ rfl _ (exC tk.nd (.slice aa1 ll1 cc1)) _ rfl rfl rfl (exC_info _ _) (by rfl) (exC_one _ _ _ _) ?_)
          | (refine wpList_store_new rfl 29 _ _ rfl _ (exC uk.nd (.slice aa2 ll2 cc2)) _ rfl (by simp) rfl (exC_info _ _) (by rfl) (exC_one _ _ _ _) ?_)
          | (go_at_call 33; refine (IH.out).mono ?_; rintro e w2 ⟨rfl, hb2⟩; have hb2 := hide (next bel.out hb2); cases hq2 : sameE tk uk))
        case roundEnd =>
          refine ⟨⟨k + 1, hlt, by rw [wk]; rfl, hb2, hide (by rw [HL.out, hat.out, hq2]; rfl)⟩, ?_⟩
          rw [wk]
          show len1 - ((k : Int) + 1).toNat < len1 - (k : Int).toNat
          omega
        · go_ret
          have hh := HL.out.trans hat.out
          rw [hq2] at hh
          exact ⟨by rw [hh]; rfl, hb2.out⟩
      · obtain rfl : k = len1 := by omega
        go_wp2_with fail
        go_ret
        have hh := HL.out
        rw [l1.out, sameL_end _ _ (by rw [← l1.out, ← l2.out]; exact hl.out)] at hh
        exact ⟨by rw [hh]; rfl, HB.out⟩
  · have p0 : ((len1 : Int) != (len2 : Int)) = true := by simp; omega
    replace hl := hide hl
    go_enter Try.func35, Try.ntmps35
    go_wp2_with fail
    go_ret
    exact ⟨by rw [sameL_len _ _ (by rw [← l1.out, ← l2.out]; exact hl.out)]; rfl, Below.refl _ _⟩
set_option maxHeartbeats 1000000 in
set_option maxRecDepth 100000 in
theorem isSame_any (B : Nat) : ∀ t, SameIs B t := by
  refine Ex.ind fun n1 ks ih => ?_
  intro u v1 v2 w t1 t2 hB
  obtain ⟨n2, ls⟩ := u
  obtain ⟨a1, len1, cap1, rfl, _, _, _, _⟩ := t1.un
  obtain ⟨a2, len2, cap2, rfl, _, _, _, _⟩ := t2.un
  have bel : Below w.heap.size w ((w.alloc (exO n1 (.slice a1 len1 cap1))).alloc (exO n2 (.slice a2 len2 cap2))) := step (step (Below.refl _ w) _) _
  have hs : sameE (.mk n1 ks) (.mk n2 ls) = (ndB n1 n2 && sameL ks ls) := by rw [sameE]; rfl
  have L1 := hide ((Blk.new w (exC n1 (.slice a1 len1 cap1)) 29).alloc (exO n2 (.slice a2 len2 cap2)))
  have L2 := hide (Blk.new1 w (exO n1 (.slice a1 len1 cap1)) (exC n2 (.slice a2 len2 cap2)) 29)
  have HF := hide (fields_any n1 n2 (.slice a1 len1 cap1) (.slice a2 len2 cap2) ((w.alloc (exO n1 (.slice a1 len1 cap1))).alloc (exO n2 (.slice a2 len2 cap2))))
  have HE := hide (equal_any B ks ls ih a1 a2 len1 len2 cap1 cap2)
  have k1 := hide t1.kidsAt
  have k2 := hide t2.kidsAt
  replace hB := hide hB
  clear t1 t2 ih
  replace bel := hide bel
  replace hs := hide hs
  cases hq : ndB n1 n2
  all_goals
    rw [hq] at HF
    go_enter Try.func33, Try.ntmps33
    go_wp2_with (first
      | (refine wpList_load_blk rfl 29 _ rfl _ rfl _ L1.out _ Try.underlying29 rfl (exC_info _ _) ?_)
      | (refine wpList_load_blk rfl 29 _ rfl _ rfl _ L2.out _ Try.underlying29 rfl (exC_info _ _) ?_)
      | (go_at_call 34; refine HF.out.mono ?_; rintro e w1 ⟨rfl, hb1⟩; have c1 := ((L1.out.keep hb1).at' 13).trans (at14 _ _).c13; have c2 := ((L2.out.keep hb1).at' 13).trans (at14 _ _).c13; replace hb1 := hide (next bel.out hb1); have c3 := (hB.out.keep hb1.out).one)
      | (go_at_call 35; refine (HE.out _ (k1.out.step hb1.out) (k2.out.step hb1.out) (hB.out.keep hb1.out)).mono ?_; rintro e w2 ⟨rfl, hb2⟩; replace hb2 := hide (next hb1.out hb2)))
    go_ret
  · exact ⟨by rw [hs.out, hq]; rfl, hb1.out⟩
  · exact ⟨by rw [hs.out, hq]; rfl, hb2.out⟩
end Go.Proofs.Ytgopolelpckjcaa
