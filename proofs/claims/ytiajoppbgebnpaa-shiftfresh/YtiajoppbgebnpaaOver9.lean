/- tree.over: a tree's nodes are shown one behind the other as long as the shown one wants it so. For whatever closure that keeps a state in blocks of its own. -/
import Derived.Test.YtiajoppbgebnpaaKit9
namespace Go.Proofs.Ytiajoppbgebnpaa
open Go.RowKit Go.Sort
set_option linter.unusedVariables false

mutual
/-- What is left behind a going over: did it see all, and the state. -/
def goE {σ : Type} (st : σ → Nd → Nat → Int → Bool × σ) (d : Int) : Ex → σ → Bool × σ
  | .mk nd ks, s => if (st s nd ks.length d).1 then goL st (d + 1) ks (st s nd ks.length d).2 else (false, (st s nd ks.length d).2)
def goL {σ : Type} (st : σ → Nd → Nat → Int → Bool × σ) (d : Int) : List Ex → σ → Bool × σ
  | [], s => (true, s)
  | k :: r, s => if (goE st d k s).1 then goL st d r (goE st d k s).2 else (false, (goE st d k s).2)
end
theorem goE_eq {σ : Type} (st : σ → Nd → Nat → Int → Bool × σ) (d : Int) (t : Ex) (s : σ) : goE st d t s = if (st s t.nd t.kids.length d).1 then goL st (d + 1) t.kids (st s t.nd t.kids.length d).2 else (false, (st s t.nd t.kids.length d).2) := by
  cases t; rw [goE]; rfl
theorem goL_at {σ : Type} (st : σ → Nd → Nat → Int → Bool × σ) (d : Int) (ks : List Ex) (i : Nat) (hi : i < ks.length) (s : σ) : goL st d (ks.drop i) s = if (goE st d ks[i] s).1 then goL st d (ks.drop (i + 1)) (goE st d ks[i] s).2 else (false, (goE st d ks[i] s).2) := by
  rw [List.drop_eq_getElem_cons hi, goL]
theorem goL_end {σ : Type} (st : σ → Nd → Nat → Int → Bool × σ) (d : Int) (ks : List Ex) (s : σ) : goL st d (ks.drop ks.length) s = (true, s) := by
  rw [List.drop_length, goL]
/-- What the closure keeps to: the state lies in blocks of the kind, and nothing else is written. -/
structure See {σ : Type} (S : σ → World → Prop) (m : Nat → Prop) (st : σ → Nd → Nat → Int → Bool × σ) (f : Nat) (caps : Array Value) : Prop where
  call : ∀ s nd a len cap d w, S s w → Calls Try.prog f (#[exV nd (.slice a len cap), .int .i64 d] ++ caps) w fun e w' => e = .returned (.bool (st s nd len d).1) ∧ S (st s nd len d).2 w' ∧ Chg m w w'
  ent : ∀ args w, (callFunc f args).run Try.prog w = .ok (.enter f args) w
  lt : ∀ s w, S s w → ∀ k, m k → k < w.heap.size
  same : ∀ s w w', S s w → (∀ k, m k → k < w.heap.size → w'.heap[k]? = w.heap[k]?) → S s w'
/-- Where the two boxes lie. -/
structure Box9 (m : Nat → Prop) (f : Nat) (caps : Array Value) (Bs Bv : Nat) (w : World) : Prop where
  s : Blk w Bs #[.func (.func f) #[] caps] 66
  v : Blk w Bv #[.func (.func 48) #[] #[.pointer (some ⟨Bs, 0, none⟩), .pointer (some ⟨Bv, 0, none⟩)]] 66
  ns : ¬ m Bs
  nv : ¬ m Bv
theorem Box9.move {m : Nat → Prop} {f : Nat} {caps : Array Value} {Bs Bv : Nat} {w w' : World} (h : Box9 m f caps Bs Bv w) (c : Chg m w w') : Box9 m f caps Bs Bv w' := ⟨c.blk h.s h.ns, c.blk h.v h.nv, h.ns, h.nv⟩
set_option maxHeartbeats 1000000 in
set_option maxRecDepth 100000 in
theorem visit_any {σ : Type} {S : σ → World → Prop} {m : Nat → Prop} {st : σ → Nd → Nat → Int → Bool × σ} {f : Nat} {caps : Array Value} (HS : See S m st f caps) (Bs Bv N : Nat) (hm : ∀ k, m k → N ≤ k)
    (G : Int → Ex → Prop) (hG : ∀ d t s, G d t → (st s t.nd t.kids.length d).1 = true → -9223372036854775808 ≤ d + 1 ∧ d + 1 ≤ 9223372036854775807 ∧ ∀ k ∈ t.kids, G (d + 1) k) :
    ∀ (t : Ex) (v : Value) (d : Int) (s : σ) (w : World), G d t → In (· < N) w v t → N ≤ w.heap.size → S s w → Box9 m f caps Bs Bv w →
      Calls Try.prog 48 #[v, .int .i64 d, .pointer (some ⟨Bs, 0, none⟩), .pointer (some ⟨Bv, 0, none⟩)] w fun e w' => e = .returned (.bool (goE st d t s).1) ∧ S (goE st d t s).2 w' ∧ Chg m w w' := by
  refine Ex.ind fun nd ks ih => ?_
  intro v d s w hGd hin hN hS hbx
  obtain ⟨a, len, cap, rfl, hlen, hll, htx, hk⟩ := hin.un
  have hGd := hide hGd
  have hN := hide hN
  have hS := hide hS
  have hbx := hide hbx
  have hin := hide hin
  have hm := hide hm
  have hG := hide hG
  have ih := hide ih
  have A := at14 nd (.slice a len cap)
  have cs := (hbx.out.s.alloc (exO nd (.slice a len cap))).one
  have cv := (hbx.out.v.alloc (exO nd (.slice a len cap))).one
  have c13 := A.c13
  have H1 := hide (HS.call s nd a len cap d)
  have hent := HS.ent
  have HS := hide HS
  clear A
  go_enter Try.func48, Try.ntmps48
  go_wp2_with (refine wpList_load_row rfl 37 _ rfl _ rfl 37 _ (0, 0) _ (heap_alloc_new _ _) Try.underlying37 rfl (exC_info _ _) ?_)
  refine (H1.out _ (HS.out.same _ _ _ hS.out (fun k hk hlt => Below.heap_alloc w _ k hlt))).mono ?_
  rintro e w1 ⟨rfl, hS1, hc1⟩
  have hb0 := hc1.blk (Blk.new w (exC nd (.slice a len cap)) 37) (fun e => Nat.lt_irrefl _ (HS.out.lt _ _ hS.out _ e))
  have hc1 := hide ((Chg.of_below ((Below.refl _ _).alloc (Nat.le_refl _) _) : Chg m w _).trans hc1)
  have hS1 := hide hS1
  have hbx1 := hide (hbx.out.move hc1.out)
  have d13 := (hb0.at' 13).trans c13
  have hb0 := hide hb0
  have hgo := hide (goE_eq st d (.mk nd ks) s)
  have hlen' := hide hlen.out
  cases hq : (st s nd len d).1
  · go_wp2_with fail
    go_ret
    have hgo' : goE st d (.mk nd ks) s = (false, (st s nd len d).2) := by
      rw [hgo.out]; show (if (st s nd ks.length d).1 = true then goL st (d + 1) ks (st s nd ks.length d).2 else (false, (st s nd ks.length d).2)) = _; rw [← hlen.out, hq]; rfl
    rw [hgo']
    exact ⟨rfl, hS1.out, hc1.out⟩
  · have hgo' : goE st d (.mk nd ks) s = goL st (d + 1) ks (st s nd len d).2 := by
      rw [hgo.out]; show (if (st s nd ks.length d).1 = true then goL st (d + 1) ks (st s nd ks.length d).2 else (false, (st s nd ks.length d).2)) = _; rw [← hlen.out, hq]; rfl
    obtain ⟨hd1, hd2, hGk⟩ := hG.out d (.mk nd ks) s hGd.out (by show (st s nd ks.length d).1 = true; rw [← hlen.out]; exact hq)
    have hgo' := hide hgo'
    have hd := hide (IntWalk.wrap64_in _ ⟨hd1, hd2⟩)
    have hGk := hide hGk
    clear hd1 hd2
    generalize (st s nd len d).2 = s1 at *
    go_wp2_with fail
    go_loopw [17] (fun i wr => ∃ (k : Nat) (sk : σ), k ≤ len ∧ i = .int .i64 k ∧ Hid (S sk wr) ∧ Hid (Chg m w wr) ∧ Hid (goE st d (.mk nd ks) s = goL st (d + 1) (ks.drop k) sk)) (fun i _ => len - (intOf i).toNat)
    case atStart => exact ⟨0, s1, Nat.zero_le _, rfl, hS1, hc1, hgo'⟩
    case round =>
      obtain ⟨k, sk, hkl, rfl, HSk, HCk, HGk⟩ := hrel
      by_cases hlt : k < len
      · have p0 : (k : Int) < (len : Int) := by omega
        obtain ⟨b, o, rfl, hbN, hkid⟩ : ∃ b o, a = some ⟨b, o, none⟩ ∧ b < N ∧ Kids (· < N) w b o ks := by rcases hk.out with h | h; omega; exact h
        obtain ⟨csk, hik, hrk⟩ := hkid.get k (by rw [← hlen.out]; exact hlt)
        have hrk := (range_of_block hrk (HCk.out.block b (Nat.lt_of_lt_of_le hbN hN.out) (fun e => absurd (hm.out _ e) (Nat.not_le_of_lt hbN))))
        have hGi := hGk.out _ (List.getElem_mem (by rw [← hlen.out]; exact hlt : k < ks.length))
        have ihk := ih.out _ (List.getElem_mem (by rw [← hlen.out]; exact hlt : k < ks.length))
        have hat := goL_at st (d + 1) ks k (by rw [← hlen.out]; exact hlt) sk
        obtain ⟨ak, lk, ck, rfl⟩ := hik.cs
        generalize ks[k] = tk at *
        have hbxk := hide (hbx.out.move HCk.out)
        have hcw := hide ((Chg.refl m wr).alloc (exO tk.nd (.slice ak lk ck)))
        have hbxa := hide (hbxk.out.move hcw.out)
        have cvk := (hbxk.out.v.alloc (exO tk.nd (.slice ak lk ck))).one
        have IH := hide (ihk _ (d + 1) sk (wr.alloc (exO tk.nd (.slice ak lk ck))) hGi (hik.low (((HCk.out.below hN.out hm.out)).alloc (Nat.le_trans hN.out HCk.out.size) _)) (Nat.le_trans hN.out (Nat.le_trans HCk.out.size (by simp))) (HS.out.same _ _ _ HSk.out (fun k hk hlt => Below.heap_alloc wr _ k hlt)) hbxa.out)
        have hat := hide hat
        have hki := hide hkl
        have wk := IntWalk.wrap64_in ((k : Int) + 1) ⟨by omega, by have := hll.out; omega⟩
        clear hik ihk hGi hkid hbN hkl
        have hd' := hd.out
        go_wp2_with (first
          | (refine wpList_load_row rfl 37 _ rfl _ rfl 37 _ (0, 0) _ (heap_alloc_new _ _) Try.underlying37 rfl (exC_info _ _) ?_)
          | (refine wpList_load_at rfl 37 _ rfl _ _ rfl _ _ hrk Try.underlying37 rfl (exC_info _ _) ?_)
          | (refine wpList_store_new rfl 37 _ _ rfl _ (exC tk.nd (.slice ak lk ck)) _ rfl rfl rfl (exC_info _ _) (by rfl) (exC_one _ _ _ _) ?_)
          | (go_at_call 48; refine (IH.out).mono ?_; rintro e w2 ⟨rfl, hS2, hc2⟩; have hS2 := hide hS2; have hc2 := hide (hcw.out.trans hc2); cases hq2 : (goE st (d + 1) tk sk).1))
        case roundEnd =>
          refine ⟨⟨k + 1, _, hlt, by rw [wk]; rfl, hS2, hide (HCk.out.trans hc2.out), hide (by rw [HGk.out, hat.out, hq2]; rfl)⟩, ?_⟩
          rw [wk]
          show len - ((k : Int) + 1).toNat < len - (k : Int).toNat
          omega
        · go_ret
          have hh := HGk.out.trans hat.out
          rw [hq2] at hh
          rw [hh]
          exact ⟨rfl, hS2.out, HCk.out.trans hc2.out⟩
      · obtain rfl : k = len := by omega
        go_wp2_with fail
        go_ret
        have hh := HGk.out
        rw [hlen.out, goL_end] at hh
        rw [hh]
        exact ⟨rfl, HSk.out, HCk.out⟩
end Go.Proofs.Ytiajoppbgebnpaa
