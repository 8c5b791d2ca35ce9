/- tree.over again, for a closure whose own blocks may move: a list that grows. -/
import Derived.Test.YtgopolelpckjcaaSz9
import Derived.Test.YtgopolelpckjcaaKit9b
namespace Go.Proofs.Ytgopolelpckjcaa
open Go.RowKit Go.Sort
set_option linter.unusedVariables false

/-- Nothing is written but what is one's own; what is one's own was so, or is new. -/
structure ChF (F : World → Nat → Prop) (w w' : World) : Prop where
  chg : Chg (F w) w w'
  own : ∀ k, k < w.heap.size → F w' k → F w k
theorem ChF.trans {F : World → Nat → Prop} {w w1 w2 : World} (h : ChF F w w1) (k : ChF F w1 w2) : ChF F w w2 :=
  ⟨⟨k.chg.os.trans h.chg.os, k.chg.tape.trans h.chg.tape, k.chg.output.trans h.chg.output, Nat.le_trans h.chg.size k.chg.size, fun j hj hn => (k.chg.block j (Nat.lt_of_lt_of_le hj h.chg.size) (fun e => hn (h.own j hj e))).trans (h.chg.block j hj hn)⟩,
   fun j hj e => h.own j hj (k.own j (Nat.lt_of_lt_of_le hj h.chg.size) e)⟩
theorem ChF.refl (F : World → Nat → Prop) (w : World) : ChF F w w := ⟨Chg.refl _ _, fun _ _ e => e⟩
theorem ChF.blk {F : World → Nat → Prop} {w w' : World} (h : ChF F w w') {B : Nat} {vs : Array Value} {t : TypeId} (hb : Blk w B vs t) (hm : ¬ F w B) : Blk w' B vs t := h.chg.blk hb hm
/-- What the closure keeps to. -/
structure SeeF {σ : Type} (S : σ → World → Prop) (F : World → Nat → Prop) (ok : σ → Prop) (st : σ → Nd → Nat → Int → Bool × σ) (f : Nat) (caps : Array Value) : Prop where
  call : ∀ s nd a len cap d w, ok s → S s w → Calls Try.prog f (#[exV nd (.slice a len cap), .int .i64 d] ++ caps) w fun e w' => e = .returned (.bool (st s nd len d).1) ∧ S (st s nd len d).2 w' ∧ ChF F w w'
  ent : ∀ args w, (callFunc f args).run Try.prog w = .ok (.enter f args) w
  lt : ∀ s w, S s w → ∀ k, F w k → k < w.heap.size
  same : ∀ s w w', S s w → (∀ k, F w k → k < w.heap.size → w'.heap[k]? = w.heap[k]?) → S s w' ∧ ∀ k, F w' k → F w k
theorem SeeF.alloc {σ : Type} {S : σ → World → Prop} {F : World → Nat → Prop} {ok : σ → Prop} {st : σ → Nd → Nat → Int → Bool × σ} {f : Nat} {caps : Array Value} (h : SeeF S F ok st f caps) {s : σ} {w : World} (hS : S s w) (o : Obj) : S s (w.alloc o) ∧ ChF F w (w.alloc o) := by
  obtain ⟨h1, h2⟩ := h.same s w (w.alloc o) hS (fun k _ hlt => Below.heap_alloc w o k hlt)
  exact ⟨h1, ⟨Chg.of_below ((Below.refl _ _).alloc (Nat.le_refl _) _), fun k _ e => h2 k e⟩⟩
structure BoxF (F : World → Nat → Prop) (f : Nat) (caps : Array Value) (Bs Bv : Nat) (w : World) : Prop where
  s : Blk w Bs #[.func (.func f) #[] caps] 58
  v : Blk w Bv #[.func (.func 40) #[] #[.pointer (some ⟨Bs, 0, none⟩), .pointer (some ⟨Bv, 0, none⟩)]] 58
  ns : ¬ F w Bs
  nv : ¬ F w Bv
theorem BoxF.move {F : World → Nat → Prop} {f : Nat} {caps : Array Value} {Bs Bv : Nat} {w w' : World} (h : BoxF F f caps Bs Bv w) (c : ChF F w w') : BoxF F f caps Bs Bv w' := ⟨c.blk h.s h.ns, c.blk h.v h.nv, fun e => h.ns (c.own _ h.s.lt e), fun e => h.nv (c.own _ h.v.lt e)⟩
/-- A bound for what is handed on. -/
structure Road {σ : Type} (st : σ → Nd → Nat → Int → Bool × σ) (ok : σ → Prop) (GE : σ → Int → Ex → Prop) (GL : σ → Int → List Ex → Prop) : Prop where
  ok : ∀ s d t, GE s d t → ok s
  down : ∀ s d t, GE s d t → (st s t.nd t.kids.length d).1 = true → -9223372036854775808 ≤ d + 1 ∧ d + 1 ≤ 9223372036854775807 ∧ GL (st s t.nd t.kids.length d).2 (d + 1) t.kids
  kid : ∀ s d k r, GL s d (k :: r) → GE s d k ∧ ((goE st d k s).1 = true → GL (goE st d k s).2 d r)
set_option maxHeartbeats 1000000 in
set_option maxRecDepth 100000 in
theorem visitF_any {σ : Type} {S : σ → World → Prop} {F : World → Nat → Prop} {ok : σ → Prop} {st : σ → Nd → Nat → Int → Bool × σ} {f : Nat} {caps : Array Value} (HS : SeeF S F ok st f caps) (Bs Bv N : Nat)
    {GE : σ → Int → Ex → Prop} {GL : σ → Int → List Ex → Prop} (hG : Road st ok GE GL) :
    ∀ (t : Ex) (v : Value) (d : Int) (s : σ) (w : World), GE s d t → In (· < N) w v t → N ≤ w.heap.size → (∀ k, F w k → N ≤ k) → S s w → BoxF F f caps Bs Bv w →
      Calls Try.prog 40 #[v, .int .i64 d, .pointer (some ⟨Bs, 0, none⟩), .pointer (some ⟨Bv, 0, none⟩)] w fun e w' => e = .returned (.bool (goE st d t s).1) ∧ S (goE st d t s).2 w' ∧ ChF F w w' := by
  refine Ex.ind fun nd ks ih => ?_
  intro v d s w hGd hin hN hm hS hbx
  obtain ⟨a, len, cap, rfl, hlen, hll, htx, hk⟩ := hin.un
  have hGd := hide hGd
  have hN := hide hN
  have hS := hide hS
  have hbx := hide hbx
  have hin := hide hin
  have hm := hide hm
  have hG := hide hG
  have ih := hide ih
  have A := at14 nd (.slice a len cap)
  have cs := (hbx.out.s.alloc (exO nd (.slice a len cap))).one
  have cv := (hbx.out.v.alloc (exO nd (.slice a len cap))).one
  have c13 := A.c13
  have H1 := hide (fun w => HS.call s nd a len cap d w (hG.out.ok _ _ _ hGd.out))
  have hent := HS.ent
  have HS := hide HS
  clear A
  go_enter Try.func40, Try.ntmps40
  go_wp2_with (refine wpList_load_row rfl 29 _ rfl _ rfl 29 _ (0, 0) _ (heap_alloc_new _ _) Try.underlying29 rfl (exC_info _ _) ?_)
  refine (H1.out _ (HS.out.alloc hS.out _).1).mono ?_
  rintro e w1 ⟨rfl, hS1, hc1⟩
  have hw0 := (HS.out.alloc hS.out (exO nd (.slice a len cap))).2
  have hb0 := hc1.blk (Blk.new w (exC nd (.slice a len cap)) 29) (fun e => Nat.lt_irrefl _ (HS.out.lt _ _ hS.out _ ((HS.out.same _ _ _ hS.out (fun k _ hlt => Below.heap_alloc w _ k hlt)).2 _ e)))
  have hc1 := hide (hw0.trans hc1)
  have hS1 := hide hS1
  have hbx1 := hide (hbx.out.move hc1.out)
  have d13 := (hb0.at' 13).trans c13
  have hb0 := hide hb0
  have hgo := hide (goE_eq st d (.mk nd ks) s)
  have hlen' := hide hlen.out
  cases hq : (st s nd len d).1
  · go_wp2_with fail
    go_ret
    have hgo' : goE st d (.mk nd ks) s = (false, (st s nd len d).2) := by
      rw [hgo.out]; show (if (st s nd ks.length d).1 = true then goL st (d + 1) ks (st s nd ks.length d).2 else (false, (st s nd ks.length d).2)) = _; rw [← hlen.out, hq]; rfl
    rw [hgo']
    exact ⟨rfl, hS1.out, hc1.out⟩
  · have hgo' : goE st d (.mk nd ks) s = goL st (d + 1) ks (st s nd len d).2 := by
      rw [hgo.out]; show (if (st s nd ks.length d).1 = true then goL st (d + 1) ks (st s nd ks.length d).2 else (false, (st s nd ks.length d).2)) = _; rw [← hlen.out, hq]; rfl
    obtain ⟨hd1, hd2, hGk⟩ := hG.out.down s d (.mk nd ks) hGd.out (by show (st s nd ks.length d).1 = true; rw [← hlen.out]; exact hq)
    have hgo' := hide hgo'
    have hd := hide (IntWalk.wrap64_in _ ⟨hd1, hd2⟩)
    have hGk : GL (st s nd len d).2 (d + 1) ks := by rw [hlen.out]; exact hGk
    have hGk := hide hGk
    clear hd1 hd2
    generalize (st s nd len d).2 = s1 at *
    go_wp2_with fail
    go_loopw [17] (fun i wr => ∃ (k : Nat) (sk : σ), k ≤ len ∧ i = .int .i64 k ∧ Hid (S sk wr) ∧ Hid (ChF F w wr) ∧ Hid (GL sk (d + 1) (ks.drop k)) ∧ Hid (goE st d (.mk nd ks) s = goL st (d + 1) (ks.drop k) sk)) (fun i _ => len - (intOf i).toNat)
    case atStart => exact ⟨0, s1, Nat.zero_le _, rfl, hS1, hc1, hGk, hgo'⟩
    case round =>
      obtain ⟨k, sk, hkl, rfl, HSk, HCk, HRk, HGk⟩ := hrel
      by_cases hlt : k < len
      · have p0 : (k : Int) < (len : Int) := by omega
        obtain ⟨b, o, rfl, hbN, hkid⟩ : ∃ b o, a = some ⟨b, o, none⟩ ∧ b < N ∧ Kids (· < N) w b o ks := by rcases hk.out with h | h; omega; exact h
        obtain ⟨csk, hik, hrk⟩ := hkid.get k (by rw [← hlen.out]; exact hlt)
        have hrk := (range_of_block hrk (HCk.out.chg.block b (Nat.lt_of_lt_of_le hbN hN.out) (fun e => absurd (hm.out _ e) (Nat.not_le_of_lt hbN))))
        have hGi := HRk.out
        rw [List.drop_eq_getElem_cons (by rw [← hlen.out]; exact hlt : k < ks.length)] at hGi
        obtain ⟨hGi, hGj⟩ := hG.out.kid _ _ _ _ hGi
        have hGj := hide hGj
        have ihk := ih.out _ (List.getElem_mem (by rw [← hlen.out]; exact hlt : k < ks.length))
        have hat := goL_at st (d + 1) ks k (by rw [← hlen.out]; exact hlt) sk
        obtain ⟨ak, lk, ck, rfl⟩ := hik.cs
        generalize ks[k] = tk at *
        have hbxk := hide (hbx.out.move HCk.out)
        have hcw := hide (HS.out.alloc HSk.out (exO tk.nd (.slice ak lk ck))).2
        have hNr := hide (fun k (e : F wr k) => (show N ≤ k from Classical.byContradiction fun hn => hn (hm.out k (HCk.out.own k (by have := hN.out; omega) e))))
        have hbel := hide (HCk.out.chg.below hN.out hm.out)
        have hbxa := hide (hbxk.out.move hcw.out)
        have cvk := (hbxk.out.v.alloc (exO tk.nd (.slice ak lk ck))).one
        have IH := hide (ihk _ (d + 1) sk (wr.alloc (exO tk.nd (.slice ak lk ck))) hGi (hik.low (hbel.out.alloc (Nat.le_trans hN.out HCk.out.chg.size) _)) (Nat.le_trans hN.out (Nat.le_trans HCk.out.chg.size (by simp))) (fun k e => hNr.out k ((HS.out.same _ _ _ HSk.out (fun k _ hlt => Below.heap_alloc wr _ k hlt)).2 k e)) (HS.out.alloc HSk.out _).1 hbxa.out)
        have hat := hide hat
        have hki := hide hkl
        have wk := IntWalk.wrap64_in ((k : Int) + 1) ⟨by omega, by have := hll.out; omega⟩
        clear hik ihk hGi hkid hbN hkl
        have hd' := hd.out
        go_wp2_with (first
          | (refine wpList_load_row rfl 29 _ rfl _ rfl 29 _ (0, 0) _ (heap_alloc_new _ _) Try.underlying29 rfl (exC_info _ _) ?_)
          | (refine wpList_load_at rfl 29 _ rfl _ _ rfl _ _ hrk Try.underlying29 rfl (exC_info _ _) ?_)
          | (refine wpList_store_new rfl 29 _ _ rfl _ (exC tk.nd (.slice ak lk ck)) _ rfl rfl rfl (exC_info _ _) (by rfl) (exC_one _ _ _ _) ?_)
          | (go_at_call 40; refine (IH.out).mono ?_; rintro e w2 ⟨rfl, hS2, hc2⟩; have hS2 := hide hS2; have hc2 := hide (hcw.out.trans hc2); cases hq2 : (goE st (d + 1) tk sk).1))
        case roundEnd =>
          refine ⟨⟨k + 1, _, hlt, by rw [wk]; rfl, hS2, hide (HCk.out.trans hc2.out), hide (hGj.out hq2), hide (by rw [HGk.out, hat.out, hq2]; rfl)⟩, ?_⟩
          rw [wk]
          show len - ((k : Int) + 1).toNat < len - (k : Int).toNat
          omega
        · go_ret
          have hh := HGk.out.trans hat.out
          rw [hq2] at hh
          rw [hh]
          exact ⟨rfl, hS2.out, HCk.out.trans hc2.out⟩
      · obtain rfl : k = len := by omega
        go_wp2_with fail
        go_ret
        have hh := HGk.out
        rw [hlen.out, goL_end] at hh
        rw [hh]
        exact ⟨rfl, HSk.out, HCk.out⟩
/-- tree.over itself. -/
theorem overF_any {σ : Type} {S : σ → World → Prop} {F : World → Nat → Prop} {ok : σ → Prop} {st : σ → Nd → Nat → Int → Bool × σ} {f : Nat} {caps : Array Value} (HS : SeeF S F ok st f caps) (N : Nat)
    {GE : σ → Int → Ex → Prop} {GL : σ → Int → List Ex → Prop} (hG : Road st ok GE GL)
    (t : Ex) (v : Value) (s : σ) (w : World) (hG1 : GE s 1 t) (hin : In (· < N) w v t) (hN : N ≤ w.heap.size) (hm : ∀ k, F w k → N ≤ k) (hS : S s w) :
      Calls Try.prog 26 #[v, .func (.func f) #[] caps] w fun e w' => e = .returned (.bool (goE st 1 t s).1) ∧ S (goE st 1 t s).2 w' ∧ ChF F w w' := by
  obtain ⟨nd, ks⟩ := t
  have hin' := hide hin
  obtain ⟨a, len, cap, rfl, _, _, _, _⟩ := hin.un
  have hV := hide (visitF_any HS (w.heap.size + 1) (w.heap.size + 2) N hG (.mk nd ks) (exV nd (.slice a len cap)) 1 s)
  have hG1 := hide hG1
  have hN := hide hN
  have hS := hide hS
  have hm := hide hm
  clear hG hin
  have HS := hide HS
  go_enter Try.func26, Try.ntmps26
  go_wp2_with (first
    | (refine wpList_load_blk rfl 29 _ rfl _ rfl _ (((Blk.new _ _ _).alloc _).alloc _) _ Try.underlying29 rfl (exC_info _ _) ?_))
  have a1 := HS.out.alloc hS.out (exO nd (.slice a len cap))
  have a2 := HS.out.alloc a1.1 (.cells #[.func (.func f) #[] caps] 58)
  have a3 := HS.out.alloc a2.1 (.cells #[.func (.func 40) #[] #[.pointer (some ⟨w.heap.size + 1, 0, none⟩), .pointer (some ⟨w.heap.size + 1 + 1, 0, none⟩)]] 58)
  have b1 := (HS.out.same _ _ _ hS.out (fun k _ hl => Below.heap_alloc w (exO nd (.slice a len cap)) k hl)).2
  have b2 := (HS.out.same _ _ _ a1.1 (fun k _ hl => Below.heap_alloc _ (.cells #[.func (.func f) #[] caps] 58) k hl)).2
  have b3 := (HS.out.same _ _ _ a2.1 (fun k _ hl => Below.heap_alloc _ (.cells #[.func (.func 40) #[] #[.pointer (some ⟨w.heap.size + 1, 0, none⟩), .pointer (some ⟨w.heap.size + 1 + 1, 0, none⟩)]] 58) k hl)).2
  have hch : ChF F w (((w.alloc (exO nd (.slice a len cap))).alloc (.cells #[.func (.func f) #[] caps] 58)).alloc (.cells #[.func (.func 40) #[] #[.pointer (some ⟨w.heap.size + 1, 0, none⟩), .pointer (some ⟨w.heap.size + 1 + 1, 0, none⟩)]] 58)) := (a1.2.trans a2.2).trans a3.2
  have hlt := HS.out.lt _ _ hS.out
  refine (hV.out _ hG1.out (hin'.out.low (hch.chg.below hN.out hm.out)) (Nat.le_trans hN.out hch.chg.size) (fun k e => hm.out k (b1 k (b2 k (b3 k e)))) a3.1 ⟨?_, ?_, fun e => ?_, fun e => ?_⟩).mono ?_
  · have := (Blk.new (w.alloc (exO nd (.slice a len cap))) #[.func (.func f) #[] caps] 58).alloc (.cells #[.func (.func 40) #[] #[.pointer (some ⟨w.heap.size + 1, 0, none⟩), .pointer (some ⟨w.heap.size + 1 + 1, 0, none⟩)]] 58)
    simpa using this
  · have := Blk.new ((w.alloc (exO nd (.slice a len cap))).alloc (.cells #[.func (.func f) #[] caps] 58)) #[.func (.func 40) #[] #[.pointer (some ⟨w.heap.size + 1, 0, none⟩), .pointer (some ⟨w.heap.size + 1 + 1, 0, none⟩)]] 58
    simpa using this
  · have := hlt _ (b1 _ (b2 _ (b3 _ e))); omega
  · have := hlt _ (b1 _ (b2 _ (b3 _ e))); omega
  rintro e w1 ⟨rfl, hS1, hc1⟩
  have hc1 := hide (hch.trans hc1)
  have hS1 := hide hS1
  go_wp2_with fail
  go_ret
  exact ⟨rfl, hS1.out, hc1.out⟩
end Go.Proofs.Ytgopolelpckjcaa
