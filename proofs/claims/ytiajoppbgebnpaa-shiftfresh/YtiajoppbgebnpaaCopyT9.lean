/- tree.Copy: what it answers of every tree. -/
import Derived.Test.YtiajoppbgebnpaaCopy9
namespace Go.Proofs.Ytiajoppbgebnpaa
open Go.RowKit Go.Sort
set_option linter.unusedVariables false

theorem run_blk {w : World} {g : Nat} {cs : Array Value} (h : Blk w g cs 37) (hs : cs.size = 14) : (loadVar 37 ⟨g, 0, none⟩).run Try.prog w = .ok (.agg cs) w :=
  run_loadVar_row w g 37 37 cs (0, 0) _ h Try.underlying37 rfl (by rw [hs]; kernel_rfl)
theorem Blk.setRow {w : World} {g : Nat} {old cs : Array Value} {t : TypeId} (h : Blk w g old t) : Blk (w.setRow g cs) g cs t := setRow_heap _ _ _ _ _ _ h
theorem below_setRow {B : Nat} {a w : World} (h : Below B a w) {g : Nat} (hg : B ≤ g) (cs : Array Value) : Below B a (w.setRow g cs) := ⟨h.os, h.tape, h.output, by rw [size_setRow]; exact h.size, fun k hk => (setRow_other _ _ _ _ (by omega)).trans (h.block k hk)⟩
/-- What Copy answers. -/
def CopyP (w : World) (t : Ex) (e : Ending) (w' : World) : Prop :=
  (fitB t = false ∧ e = .returned (.tuple #[exV nd0 (.slice none 0 0), .int .i64 2]) ∧ Below w.heap.size w w') ∨
  (fitB t = true ∧ ∃ a len cap bs, e = .returned (.tuple #[exV t.nd (.slice a len cap), .int .i64 0]) ∧ New w w' (exV t.nd (.slice a len cap)) t bs ∧ Below w.heap.size w w')
theorem run_putrow {w : World} {g : Nat} {old : Array Value} (n : Nd) (a : Option Addr) (l c : Nat) (h : Blk w g old 37) (hs : old.size = 14) : (storeCells ⟨g, 0, none⟩ (exC n (.slice a l c)).toList).run Try.prog w = .ok () (w.setRow g (exC n (.slice a l c))) := by
  have := run_storeVar_row (P := Try.prog) w g 37 37 old (exC n (.slice a l c)) h (exC_info _ _) (by rw [hs]; rfl) (exC_one _ _ _ _)
  have hi := exC_info n (.slice a l c)
  cases hq : Try.prog.info? 37 with
  | none => simp [hq] at hi
  | some i =>
    have hz : (exC n (.slice a l c)).size = i.size := by simp [hq] at hi; omega
    simpa [storeVar, sizeOf, typeInfo, hq, Value.cells, hz] using this
set_option maxHeartbeats 1000000 in
set_option maxRecDepth 100000 in
theorem copy_any (t : Ex) (v : Value) (w : World) (ht : Tree w v t) : Calls Try.prog 40 #[v] w fun e w' => CopyP w t e w' := by
  obtain ⟨nd, ks⟩ := t
  obtain ⟨a, len, cap, rfl, _, _, _, _⟩ := ht.un
  have bel : Below w.heap.size w ((w.alloc (exO nd (.slice a len cap))).alloc (exO nd0 (.slice none 0 0))) := step (step (Below.refl _ w) _) _
  have P0 := hide ((Blk.new w (exC nd (.slice a len cap)) 37).alloc (exO nd0 (.slice none 0 0)))
  have P1 := hide (Blk.new1 w (exO nd (.slice a len cap)) (exC nd0 (.slice none 0 0)) 37)
  have HG := hide (great_any (.mk nd ks) (exV nd (.slice a len cap)) _ (ht.step bel))
  have HC := hide (fun B w => copyOf_any B (.mk nd ks) (exV nd (.slice a len cap)) w)
  replace ht := hide ht
  replace bel := hide bel
  cases q : fitB (.mk nd ks)
  · rw [q] at HG
    go_enter Try.func40, Try.ntmps40
    go_wp2_with (first
      | (refine wpList_load_blk rfl 37 _ rfl _ rfl _ P0.out _ Try.underlying37 rfl (exC_info _ _) ?_)
      | (go_at_call 36; refine HG.out.mono ?_; rintro e w1 ⟨rfl, hb1⟩; have N1 := hide (P1.out.keep hb1); replace hb1 := hide (next bel.out hb1))
      | (have hn1 := N1.out; refine wpList_store_row rfl 37 _ _ rfl _ (exC nd0 (.slice none 0 0)) rfl rfl 37 _ hn1 (exC_info nd0 (.slice none 0 0)) (by rfl) (exC_one nd0 none 0 0) ?_))
    have hrl := run_blk (N1.out.setRow (cs := exC nd0 (.slice none 0 0))) rfl
    refine bodyPost_ret (v := .tuple #[exV nd0 (.slice none 0 0), .int .i64 2]) (by simp [results, Try.results40, asAddr, hrl]; try rfl) rfl ?_
    exact .inl ⟨q, rfl, below_setRow hb1.out (by simp) _⟩
  · have hn := (of_decide_eq_true q).1
    have hnd : (Ex.mk nd ks).nd = nd := rfl
    rw [q] at HG
    go_enter Try.func40, Try.ntmps40
    go_wp2_with (first
      | (refine wpList_load_blk rfl 37 _ rfl _ rfl _ P0.out _ Try.underlying37 rfl (exC_info _ _) ?_)
      | (refine wpList_load_blk rfl 37 _ rfl _ rfl _ (by with_reducible exact R0.out) _ Try.underlying37 rfl (exC_info _ _) ?_)
      | (go_at_call 36; refine HG.out.mono ?_; rintro e w1 ⟨rfl, hb1⟩; have N1 := hide ((P1.out.keep hb1).alloc (.cells #[cpV w1.heap.size] 40)); have R0 := hide ((P0.out.keep hb1).alloc (.cells #[cpV w1.heap.size] 40)); replace hb1 := hide (step (next bel.out hb1) (.cells #[cpV w1.heap.size] 40)))
      | (go_at_call 52; refine (HC.out _ _ (ht.out.step hb1.out) hn (Blk.new _ _ _)).mono ?_; rintro e w2 ⟨ak, lk, ck, bs, rfl, hN, hb2⟩; have N2 := hide (N1.out.keep hb2); have hsr := run_putrow nd ak lk ck N2.out rfl; replace hb2 := hide (next hb1.out hb2); replace hN := hide hN))
    have hrl := run_blk (N2.out.setRow (cs := exC nd (.slice ak lk ck))) rfl
    refine bodyPost_ret (v := .tuple #[exV nd (.slice ak lk ck), .int .i64 0]) (by simp [results, Try.results40, asAddr, hrl]; try rfl) rfl ?_
    refine .inr ⟨q, _, _, _, bs, rfl, ⟨hN.out.ow.move _ (fun k hk => setRow_other _ _ _ _ (by have := (hN.out.at' k hk).1; have := N1.out.lt; omega)), hN.out.nd, fun k hk => by rw [size_setRow]; have := hN.out.at' k hk; have := hb1.out.size; omega⟩, below_setRow hb2.out (by simp) _⟩
end Go.Proofs.Ytiajoppbgebnpaa
