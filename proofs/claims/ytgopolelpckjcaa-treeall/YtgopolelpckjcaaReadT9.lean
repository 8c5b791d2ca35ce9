/- tree.Reads of every tree. -/
import Derived.Test.YtgopolelpckjcaaReads9
import Derived.Test.YtgopolelpckjcaaMay9
namespace Go.Proofs.Ytgopolelpckjcaa
open Go.RowKit Go.Sort
set_option linter.unusedVariables false

mutual
/-- What a tree speaks of. -/
def readsE : Ex → List Ar | .mk nd ks => arOf nd ++ readsL ks
def readsL : List Ex → List Ar | [] => [] | k :: r => readsE k ++ readsL r
end
theorem arOf_len (n : Nd) : (arOf n).length ≤ 1 := by
  unfold arOf
  split
  · simp
  · split <;> simp
mutual
theorem goE_rd : ∀ (t : Ex) (d : Int) (s : List Ar), goE rdSt d t s = (true, s ++ readsE t)
  | .mk nd ks, d, s => by
    rw [goE, readsE]
    show (if true = true then goL rdSt (d + 1) ks (s ++ arOf nd) else _) = _
    rw [if_pos rfl, goL_rd, List.append_assoc]
theorem goL_rd : ∀ (ks : List Ex) (d : Int) (s : List Ar), goL rdSt d ks s = (true, s ++ readsL ks)
  | [], d, s => by rw [goL, readsL, List.append_nil]
  | k :: r, d, s => by
    rw [goL, readsL, goE_rd k d s]
    simp only [if_true]
    rw [goL_rd r d, List.append_assoc]
end
mutual
theorem readsE_len : ∀ t : Ex, (readsE t).length ≤ nodesE t
  | .mk nd ks => by rw [readsE, nodesE, List.length_append]; have := arOf_len nd; have := readsL_len ks; omega
theorem readsL_len : ∀ ks : List Ex, (readsL ks).length ≤ nodesL ks
  | [] => by rw [readsL]; simp
  | k :: r => by rw [readsL, nodesL, List.length_append]; have := readsE_len k; have := readsL_len r; omega
end
theorem rd_see (Bv : Nat) : SeeF (Rd Bv) (RdF Bv) (fun s => s.length < 1000000) rdSt 27 #[.pointer (some ⟨Bv, 0, none⟩)] where
  call s nd a len cap d w hl hS := by
    by_cases h5 : nd.kind = 5
    · exact rd_5 Bv s nd a len cap d w h5 hl hS
    · by_cases h6 : nd.kind = 6
      · exact rd_6 Bv s nd a len cap d w h6 hl hS
      · exact rd_no Bv s nd a len cap d w h5 h6 hS
  ent := enters Try.func27 (by kernel_rfl) (by kernel_rfl)
  lt s w h := h.lt
  same s w w' h e := h.same e
theorem rd_road : Road rdSt (fun s => s.length < 1000000) (fun s d t => 1 ≤ d ∧ d + depthE t ≤ 70 ∧ s.length + nodesE t ≤ 600) (fun s d ks => 1 ≤ d ∧ d + depthL ks ≤ 70 ∧ s.length + nodesL ks ≤ 600) where
  ok s d t h := by have := h.2.2; omega
  down s d t h _ := by
    obtain ⟨nd, ks⟩ := t
    rw [depthE, nodesE] at h
    refine ⟨by omega, by omega, by omega, ?_, ?_⟩
    · show d + 1 + (depthL ks : Int) ≤ 70; omega
    · show (s ++ arOf nd).length + nodesL ks ≤ 600
      have := arOf_len nd
      rw [List.length_append]
      omega
  kid s d k r h := by
    rw [depthL, nodesL] at h
    refine ⟨⟨h.1, by omega, by omega⟩, fun _ => ⟨h.1, by omega, ?_⟩⟩
    rw [goE_rd]
    show (s ++ readsE k).length + nodesL r ≤ 600
    have := readsE_len k
    rw [List.length_append]
    omega
/-- What Reads answers. -/
def ReadsP (w : World) (t : Ex) (e : Ending) (w' : World) : Prop :=
  (mayR t ≠ 0 ∧ e = .returned (.tuple #[.slice none 0 0, .int .i64 (mayR t)]) ∧ Below w.heap.size w w') ∨
  (mayR t = 0 ∧ ∃ a len cap, e = .returned (.tuple #[.slice a len cap, .int .i64 0]) ∧ RowA w' (w.heap.size) (.slice a len cap) (readsE t) ∧ Below w.heap.size w w')
theorem owns_base {w : World} {B B' : Nat} {e : TypeId} {z : Nat} {v : Value} {n : Nat} {xs : List Value} (h : w.ownsRow B e z v n xs) (hb : B' ≤ B) : w.ownsRow B' e z v n xs := by
  refine ⟨h.1, ?_⟩
  rcases h.2 with h2 | ⟨g, cap, cur, rfl, h1, h2⟩
  · exact .inl h2
  · exact .inr ⟨g, cap, cur, rfl, Nat.le_trans hb h1, h2⟩
theorem mayR_fit {t : Ex} (h : mayR t = 0) : fitB t = true ∧ allE t = true := by
  unfold mayR at h
  cases q : fitB t <;> rw [q] at h
  · simp at h
  · cases q2 : allE t <;> rw [q2] at h
    · simp at h
    · exact ⟨rfl, rfl⟩
set_option maxHeartbeats 1000000 in
set_option maxRecDepth 100000 in
theorem reads_any (t : Ex) (v : Value) (w : World) (ht : Tree w v t) : Calls Try.prog 11 #[v] w fun e w' => ReadsP w t e w' := by
  obtain ⟨nd, ks⟩ := t
  obtain ⟨a, len, cap, rfl, _, _, _, _⟩ := ht.un
  have bel := step (Below.refl w.heap.size w) (exO nd (.slice a len cap))
  have P0 := hide (Blk.new w (exC nd (.slice a len cap)) 29)
  have HM := hide (may_any (.mk nd ks) (exV nd (.slice a len cap)) _ (ht.step bel))
  replace bel := hide bel
  by_cases q : mayR (.mk nd ks) = 0
  · obtain ⟨hf, _⟩ := mayR_fit q
    have hf := of_decide_eq_true hf
    have HO := hide (fun w1 Bv (h : Tree w1 (exV nd (.slice a len cap)) (.mk nd ks)) (N : Nat) (hN : N ≤ w1.heap.size) (hin : In (· < N) w1 (exV nd (.slice a len cap)) (.mk nd ks)) (hm : ∀ k, RdF Bv w1 k → N ≤ k) (hS : Rd Bv [] w1) => overF_any (rd_see Bv) N rd_road (.mk nd ks) (exV nd (.slice a len cap)) [] w1 ⟨by omega, by omega, by simp; omega⟩ hin hN hm hS)
    simp only [goE_rd, List.nil_append] at HO
    rw [q] at HM
    replace ht := hide ht
    have q' := hide q
    clear q hf
    obtain ⟨L, hL⟩ : ∃ L, readsE (.mk nd ks) = L := ⟨_, rfl⟩
    rw [hL] at HO
    replace hL := hide hL
    go_enter Try.func11, Try.ntmps11
    go_wp2_with (first
      | (refine wpList_load_blk rfl 29 _ rfl _ rfl _ P0.out _ Try.underlying29 rfl (exC_info _ _) ?_)
      | (refine wpList_load_blk rfl 29 _ rfl _ rfl _ (by with_reducible exact P1.out) _ Try.underlying29 rfl (exC_info _ _) ?_)
      | (go_at_call 14; refine HM.out.mono ?_; rintro e w1 ⟨rfl, hb1⟩; have P1 := hide ((P0.out.keep hb1).alloc (.cells #[.slice none 0 0] 41)); replace hb1 := hide (next bel.out hb1)))
    have hw0 : Hid (Rd w1.heap.size [] (w1.alloc (.cells #[.slice none 0 0] 41))) := hide ⟨_, Blk.new _ _ _, ⟨rfl, .inl ⟨rfl, rfl⟩⟩⟩
    refine (HO.out _ w1.heap.size (ht.out.step (step hb1.out _)) w.heap.size (step hb1.out _).size (ht.out.low (step hb1.out _)) (fun k hk => ?_) hw0.out).mono ?_
    · rcases Rd.f (L := []) (Blk.new w1 #[.slice none 0 0] 41) hk with rfl | h
      · exact hb1.out.size
      · cases h
    rintro e w2 ⟨rfl, ⟨v, hv1, hv2⟩, hc2⟩
    have hb2 := hide (next (step hb1.out (.cells #[.slice none 0 0] 41)) (Below.refl _ _))
    have hbf : Below w.heap.size w w2 := (step hb1.out (.cells #[.slice none 0 0] 41)).trans (hc2.chg.below (step hb1.out _).size (fun k hk => by
      rcases Rd.f (L := []) (Blk.new w1 #[.slice none 0 0] 41) hk with rfl | h
      · exact hb1.out.size
      · cases h))
    have cv := hv1.one
    obtain ⟨aa, ll, cc, rfl⟩ := owns_shape hv2
    replace hv2 := hide hv2
    replace hbf := hide hbf
    have hsz := hide hb1.out.size
    clear hc2 hv1 HO
    go_wp2_with fail
    go_ret2
    exact .inr ⟨q'.out, _, _, _, rfl, by rw [hL.out]; exact owns_base hv2.out (by have := hsz.out; omega), hbf.out⟩
  · have qb : (mayR (.mk nd ks) != 0) = true := by simp [q]
    have q' := hide q
    obtain ⟨r, hr⟩ : ∃ r, mayR (.mk nd ks) = r := ⟨_, rfl⟩
    rw [hr] at HM qb
    replace hr := hide hr
    clear ht q
    go_enter Try.func11, Try.ntmps11
    go_wp2_with (first
      | (refine wpList_load_blk rfl 29 _ rfl _ rfl _ P0.out _ Try.underlying29 rfl (exC_info _ _) ?_)
      | (go_at_call 14; refine HM.out.mono ?_; rintro e w1 ⟨rfl, hb1⟩; replace hb1 := hide (next bel.out hb1)))
    go_ret2
    exact .inl ⟨q'.out, by rw [hr.out]; rfl, hb1.out⟩
end Go.Proofs.Ytgopolelpckjcaa
