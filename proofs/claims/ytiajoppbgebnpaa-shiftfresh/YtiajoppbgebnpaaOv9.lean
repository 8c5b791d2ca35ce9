/- tree.over itself; tree.Size and isTooGreat. -/
import Derived.Test.YtiajoppbgebnpaaOver9
namespace Go.Proofs.Ytiajoppbgebnpaa
open Go.RowKit Go.Sort
set_option linter.unusedVariables false

/-- tree.over itself. -/
theorem over_any {σ : Type} {S : σ → World → Prop} {m : Nat → Prop} {st : σ → Nd → Nat → Int → Bool × σ} {f : Nat} {caps : Array Value} (HS : See S m st f caps) (N : Nat) (hm : ∀ k, m k → N ≤ k)
    (G : Int → Ex → Prop) (hG : ∀ d t s, G d t → (st s t.nd t.kids.length d).1 = true → -9223372036854775808 ≤ d + 1 ∧ d + 1 ≤ 9223372036854775807 ∧ ∀ k ∈ t.kids, G (d + 1) k)
    (t : Ex) (v : Value) (s : σ) (w : World) (hG1 : G 1 t) (hin : In (· < N) w v t) (hN : N ≤ w.heap.size) (hS : S s w) :
      Calls Try.prog 37 #[v, .func (.func f) #[] caps] w fun e w' => e = .returned (.bool (goE st 1 t s).1) ∧ S (goE st 1 t s).2 w' ∧ Chg m w w' := by
  obtain ⟨nd, ks⟩ := t
  have hin' := hide hin
  obtain ⟨a, len, cap, rfl, _, _, _, _⟩ := hin.un
  have hV := hide (visit_any HS (w.heap.size + 1) (w.heap.size + 2) N hm G hG (.mk nd ks) (exV nd (.slice a len cap)) 1 s)
  have hG1 := hide hG1
  have hN := hide hN
  have hS := hide hS
  have hm := hide hm
  clear hG hin
  have HS := hide HS
  go_enter Try.func37, Try.ntmps37
  go_wp2_with (first
    | (refine wpList_load_blk rfl 37 _ rfl _ rfl _ (((Blk.new _ _ _).alloc _).alloc _) _ Try.underlying37 rfl (exC_info _ _) ?_))
  have hch : Chg m w (((w.alloc (exO nd (.slice a len cap))).alloc (.cells #[.func (.func f) #[] caps] 66)).alloc (.cells #[.func (.func 48) #[] #[.pointer (some ⟨w.heap.size + 1, 0, none⟩), .pointer (some ⟨w.heap.size + 1 + 1, 0, none⟩)]] 66)) := (((Chg.refl m w).alloc _).alloc _).alloc _
  have hlt := HS.out.lt _ _ hS.out
  refine (hV.out _ hG1.out (hin'.out.low (hch.below hN.out hm.out)) (Nat.le_trans hN.out hch.size) (HS.out.same _ _ _ hS.out (fun k hk hl => ?_)) ⟨?_, ?_, fun e => ?_, fun e => ?_⟩).mono ?_
  · rw [Below.heap_alloc _ _ k (by simp; omega), Below.heap_alloc _ _ k (by simp; omega), Below.heap_alloc _ _ k hl]
  · have := (Blk.new (w.alloc (exO nd (.slice a len cap))) #[.func (.func f) #[] caps] 66).alloc (.cells #[.func (.func 48) #[] #[.pointer (some ⟨w.heap.size + 1, 0, none⟩), .pointer (some ⟨w.heap.size + 1 + 1, 0, none⟩)]] 66)
    simpa using this
  · have := Blk.new ((w.alloc (exO nd (.slice a len cap))).alloc (.cells #[.func (.func f) #[] caps] 66)) #[.func (.func 48) #[] #[.pointer (some ⟨w.heap.size + 1, 0, none⟩), .pointer (some ⟨w.heap.size + 1 + 1, 0, none⟩)]] 66
    simpa using this
  · have := hlt _ e; omega
  · have := hlt _ e; omega
  rintro e w1 ⟨rfl, hS1, hc1⟩
  have hc1 := hide (hch.trans hc1)
  have hS1 := hide hS1
  go_wp2_with fail
  go_ret
  exact ⟨rfl, hS1.out, hc1.out⟩
end Go.Proofs.Ytiajoppbgebnpaa
