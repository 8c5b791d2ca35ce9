/- How great a tree is, and what counting its nodes one behind the other comes to. -/
import Derived.Test.YtiajoppbgebnpaaSize9
namespace Go.Proofs.Ytiajoppbgebnpaa
open Go.RowKit Go.Sort
set_option linter.unusedVariables false

mutual
def nodesE : Ex → Nat | .mk _ ks => 1 + nodesL ks
def nodesL : List Ex → Nat | [] => 0 | k :: r => nodesE k + nodesL r
end
mutual
def depthE : Ex → Nat | .mk _ ks => 1 + depthL ks
def depthL : List Ex → Nat | [] => 0 | k :: r => max (depthE k) (depthL r)
end
mutual
def bytesE : Ex → Nat | .mk nd ks => (if nd.kind = 2 then nd.text.size else 0) + bytesL ks
def bytesL : List Ex → Nat | [] => 0 | k :: r => bytesE k + bytesL r
end
mutual
/-- No text is longer than any may be. -/
def TxE : Ex → Prop | .mk nd ks => nd.text.size ≤ 4611686018427387904 ∧ TxL ks
def TxL : List Ex → Prop | [] => True | k :: r => TxE k ∧ TxL r
end
theorem TxL_of : ∀ {ks : List Ex}, (∀ k ∈ ks, TxE k) → TxL ks
  | [], _ => by unfold TxL; trivial
  | k :: r, h => by unfold TxL; exact ⟨h k (List.mem_cons_self ..), TxL_of fun x hx => h x (List.mem_cons_of_mem _ hx)⟩
theorem TxL.get : ∀ {ks : List Ex}, TxL ks → ∀ k ∈ ks, TxE k
  | [], _, k, hk => by cases hk
  | k :: r, h, x, hx => by
    unfold TxL at h
    rcases List.mem_cons.1 hx with rfl | hx
    · exact h.1
    · exact h.2.get x hx
theorem In.kid {m : Nat → Prop} {w : World} {v : Value} {nd : Nd} {ks : List Ex} (h : In m w v (.mk nd ks)) : ∀ k ∈ ks, ∃ v', In m w v' k := by
  intro k hk
  obtain ⟨i, hi, rfl⟩ := List.getElem_of_mem hk
  obtain ⟨a, len, cap, _, hl, _, _, h⟩ := h.un
  rcases h.out with h | ⟨b, o, _, _, hkid⟩
  · have := hl.out; omega
  · obtain ⟨cs, h1, _⟩ := hkid.get i hi
    exact ⟨_, h1⟩
theorem In.tx {m : Nat → Prop} {w : World} : ∀ (t : Ex) {v : Value}, In m w v t → TxE t := by
  refine Ex.ind fun nd ks ih => ?_
  intro v h
  unfold TxE
  refine ⟨?_, TxL_of fun k hk => ?_⟩
  · obtain ⟨a, len, cap, _, _, _, ht, _⟩ := h.un
    exact ht.out
  · obtain ⟨v', h'⟩ := h.kid k hk
    exact ih k hk h'
/-- Within the bounds. -/
abbrev Fit (n e b : Int) : Prop := n ≤ 512 ∧ e ≤ 64 ∧ b ≤ 16384
theorem cnt_fit (n e b : Int) (nd : Nd) (len : Nat) (d : Int) (hn : 0 ≤ n) (hn' : n ≤ 512) (hb : 0 ≤ b) (hb' : b ≤ 16384) (ht : nd.text.size ≤ 4611686018427387904) :
    cnt (n, e, b) nd len d = (decide (Fit (n + 1) (max e d) (b + (if nd.kind = 2 then nd.text.size else 0 : Nat))), (n + 1, max e d, b + (if nd.kind = 2 then nd.text.size else 0 : Nat))) := by
  have w1 : wrap64 (n + 1) = n + 1 := IntWalk.wrap64_in _ ⟨by omega, by omega⟩
  have w2 : wrap64 (b + nd.text.size) = b + nd.text.size := IntWalk.wrap64_in _ ⟨by omega, by omega⟩
  unfold cnt
  simp only [w1, w2]
  by_cases hk : nd.kind = 2 <;> simp [hk, Fit, Bool.and_assoc]
mutual
theorem goE_cnt : ∀ (t : Ex) (d n e b : Int), TxE t → 0 ≤ n → n ≤ 512 → 0 ≤ b → b ≤ 16384 → 
    (goE cnt d t (n, e, b)).1 = decide (Fit (n + nodesE t) (max e (d - 1 + depthE t)) (b + bytesE t)) ∧
    (Fit (n + nodesE t) (max e (d - 1 + depthE t)) (b + bytesE t) → (goE cnt d t (n, e, b)).2 = (n + nodesE t, max e (d - 1 + depthE t), b + bytesE t))
  | .mk nd ks, d, n, e, b, ht, hn, hn', hb, hb' => by
    unfold TxE at ht
    have hx := cnt_fit n e b nd ks.length d hn hn' hb hb' ht.1
    rw [goE, hx, nodesE, depthE, bytesE]
    generalize (if nd.kind = 2 then nd.text.size else 0) = T at *
    by_cases hf : Fit (n + 1) (max e d) (b + T)
    · have ih := goL_cnt ks (d + 1) (n + 1) (max e d) (b + T) ht.2 (by omega) hf.1 (by omega) hf.2.2 (by omega) hf.2.1
      simp only [decide_eq_true hf, if_true]
      have e1 : n + 1 + (nodesL ks : Int) = n + ((1 + nodesL ks : Nat) : Int) := by omega
      have e2 : max (max e d) (d + 1 - 1 + (depthL ks : Int)) = max e (d - 1 + ((1 + depthL ks : Nat) : Int)) := by omega
      have e3 : b + (T : Int) + (bytesL ks : Int) = b + ((T + bytesL ks : Nat) : Int) := by omega
      rw [e1, e2, e3] at ih
      exact ih
    · have hf' : ¬ Fit (n + ((1 + nodesL ks : Nat) : Int)) (max e (d - 1 + ((1 + depthL ks : Nat) : Int))) (b + ((T + bytesL ks : Nat) : Int)) := by
        intro h; apply hf; obtain ⟨x, y, z⟩ := h; exact ⟨by omega, by omega, by omega⟩
      simp only [decide_eq_false hf, decide_eq_false hf']
      exact ⟨rfl, fun h => absurd h hf'⟩
theorem goL_cnt : ∀ (ks : List Ex) (d n e b : Int), TxL ks → 0 ≤ n → n ≤ 512 → 0 ≤ b → b ≤ 16384 → d - 1 ≤ e → e ≤ 64 →
    (goL cnt d ks (n, e, b)).1 = decide (Fit (n + nodesL ks) (max e (d - 1 + depthL ks)) (b + bytesL ks)) ∧
    (Fit (n + nodesL ks) (max e (d - 1 + depthL ks)) (b + bytesL ks) → (goL cnt d ks (n, e, b)).2 = (n + nodesL ks, max e (d - 1 + depthL ks), b + bytesL ks))
  | [], d, n, e, b, _, hn, hn', hb, hb', hd, he => by
    rw [goL, nodesL, depthL, bytesL]
    have e2 : max e (d - 1 + ((0 : Nat) : Int)) = e := by omega
    have e1 : n + ((0 : Nat) : Int) = n := by omega
    have e3 : b + ((0 : Nat) : Int) = b := by omega
    rw [e1, e2, e3]
    exact ⟨(decide_eq_true ⟨hn', he, hb'⟩).symm, fun _ => rfl⟩
  | k :: r, d, n, e, b, ht, hn, hn', hb, hb', hd, he => by
    unfold TxL at ht
    obtain ⟨i1, i2⟩ := goE_cnt k d n e b ht.1 hn hn' hb hb'
    rw [goL, nodesL, depthL, bytesL]
    by_cases hf : Fit (n + nodesE k) (max e (d - 1 + depthE k)) (b + bytesE k)
    · have ih := goL_cnt r d (n + nodesE k) (max e (d - 1 + depthE k)) (b + bytesE k) ht.2 (by omega) hf.1 (by omega) hf.2.2 (by omega) hf.2.1
      rw [i1, i2 hf]
      simp only [decide_eq_true hf, if_true]
      have e1 : n + (nodesE k : Int) + (nodesL r : Int) = n + ((nodesE k + nodesL r : Nat) : Int) := by omega
      have e2 : max (max e (d - 1 + (depthE k : Int))) (d - 1 + (depthL r : Int)) = max e (d - 1 + ((max (depthE k) (depthL r) : Nat) : Int)) := by omega
      have e3 : b + (bytesE k : Int) + (bytesL r : Int) = b + ((bytesE k + bytesL r : Nat) : Int) := by omega
      rw [e1, e2, e3] at ih
      exact ih
    · have hf' : ¬ Fit (n + ((nodesE k + nodesL r : Nat) : Int)) (max e (d - 1 + ((max (depthE k) (depthL r) : Nat) : Int))) (b + ((bytesE k + bytesL r : Nat) : Int)) := by
        intro h; apply hf; obtain ⟨x, y, z⟩ := h; exact ⟨by omega, by omega, by omega⟩
      rw [i1]
      simp only [decide_eq_false hf, decide_eq_false hf']
      exact ⟨rfl, fun h => absurd h hf'⟩
end
/-- Is it not too great? -/
def fitB (t : Ex) : Bool := decide (nodesE t ≤ 512 ∧ depthE t ≤ 64 ∧ bytesE t ≤ 16384)
theorem nodes_pos (t : Ex) : 1 ≤ nodesE t := by cases t; rw [nodesE]; omega
theorem depth_pos (t : Ex) : 1 ≤ depthE t := by cases t; rw [depthE]; omega
theorem cnt_yes {t : Ex} (ht : TxE t) (h : fitB t = true) : goE cnt 1 t (0, 0, 0) = (true, ((nodesE t : Int), (depthE t : Int), (bytesE t : Int))) := by
  obtain ⟨h1, h2⟩ := goE_cnt t 1 0 0 0 ht (by omega) (by omega) (by omega) (by omega)
  have hf := of_decide_eq_true h
  have := depth_pos t
  have hf' : Fit (0 + nodesE t) (max 0 (1 - 1 + depthE t)) (0 + bytesE t) := ⟨by omega, by omega, by omega⟩
  have e2 : max (0 : Int) (1 - 1 + (depthE t : Int)) = depthE t := by omega
  rw [decide_eq_true hf'] at h1
  have h2 := h2 hf'
  rw [e2, Int.zero_add, Int.zero_add] at h2
  exact Prod.ext h1 h2
theorem cnt_no {t : Ex} (ht : TxE t) (h : fitB t = false) : (goE cnt 1 t (0, 0, 0)).1 = false := by
  obtain ⟨h1, h2⟩ := goE_cnt t 1 0 0 0 ht (by omega) (by omega) (by omega) (by omega)
  have hf := of_decide_eq_false h
  have := depth_pos t
  rw [h1]
  exact decide_eq_false (fun hh => hf (by obtain ⟨x, y, z⟩ := hh; exact ⟨by omega, by omega, by omega⟩))
/-- What Size answers. -/
def sizeR (t : Ex) : Int × Int × Int := if fitB t then ((nodesE t : Int), (depthE t : Int), (bytesE t : Int)) else (513, 65, 16385)
end Go.Proofs.Ytiajoppbgebnpaa
