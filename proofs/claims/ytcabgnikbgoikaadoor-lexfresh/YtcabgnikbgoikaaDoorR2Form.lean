/- What the reference's form answers, for every text: the parts that package spot reads. Proved of the Go text. -/
import Derived.Test.YtcabgnikbgoikaaDoorR2Form0
import Derived.Test.YtcabgnikbgoikaaDoorR2Form1
namespace Go.Proofs.YtcabgnikbgoikaaDoor
open Go.RowKit Go.Sort
set_option linter.unusedVariables false
set_option maxRecDepth 100000

def fC (s : ByteArray) : Int := if synS s then 0 else colR (s.extract (cA s) (cB s)).data.toList
def fR (s : ByteArray) : Int := if synS s then 0 else rowR (s.extract (cC s) (cD s)).data.toList
def fQ (s : ByteArray) : Bool := !synS s && decide (0 < cA s)
def fP (s : ByteArray) : Bool := !synS s && decide (cB s < cC s)
set_option maxHeartbeats 800000 in
set_option maxRecDepth 100000 in
theorem form_empty (s : ByteArray) (w : World) (hz : s.size = 0) :
    Calls Tryd.prog 33 #[.string s] w fun e w' => e = .returned (formV 0 0 0 false false) ∧ Below w.heap.size w w' := by
  obtain rfl : s = { data := #[] } := by
    apply ba_eq
    rw [toList_nil s (by omega)]
  clear hz
  go_enter Tryd.func33, Tryd.ntmps33
  go_wp2_with fail
  go_rounds 1
  go_rounds 1
  refine bodyPost_ret (by simp [results, Tryd.results33, go_sem]; try rfl) rfl ?_
  refine ⟨rfl, ?_⟩
  go_grown
theorem form_any (s : ByteArray) (w : World) (hs : s.size ≤ maxLen) :
    Calls Tryd.prog 33 #[.string s] w fun e w' => e = .returned (formV (rN s) (fC s) (fR s) (fQ s) (fP s)) ∧ Below w.heap.size w w' := by
  obtain ⟨l1, l2, l3, l4⟩ := cut_le s
  have syn : synS s = true → formV (rN s) (fC s) (fR s) (fQ s) (fP s) = formV 0 0 0 false false := fun h => by
    unfold rN fC fR fQ fP; rw [h]; rfl
  by_cases hp : 0 < s.size
  case neg =>
    rw [syn (by
      have : cB s = cA s := by omega
      unfold synS; rw [this]; simp)]
    exact form_empty s w (by omega)
  have eA := pinE_at s 0 hp
  rw [show pinE s 0 = cA s from rfl] at eA
  have eC : ∀ h : cB s < s.size, cC s = if s[cB s] = 36 then cB s + 1 else cB s := fun h => pinE_at s (cB s) h
  have eZ : s.size ≤ cB s → cC s = cB s := fun h => pinE_end s (cB s) h
  have good : ∀ (q p : Bool) (a c : Nat), synS s = false → cA s = a → cC s = c → decide (0 < cA s) = q → decide (cB s < cC s) = p → formV (cD s) (colR (s.extract a (cB s)).data.toList) (rowR (s.extract c (cD s)).data.toList) q p = formV (rN s) (fC s) (fR s) (fQ s) (fP s) := fun q p a c h h1 h2 h3 h4 => by
    unfold rN fC fR fQ fP; rw [h, h1, h2, ← h3, ← h4, h1, h2]; rfl
  have sL : cB s = cA s → synS s = true := fun h => by unfold synS; rw [h]; simp
  have sD : cD s = cC s → synS s = true := fun h => by unfold synS; rw [h]; simp
  have sZ : ∀ h : cC s < s.size, ((s[cC s].toNat : Int) == 48) = true → synS s = true := fun h h' => by unfold synS; rw [lead0_at s _ h, h']; simp
  have sO : cA s < cB s → cC s < cD s → ∀ h : cC s < s.size, ((s[cC s].toNat : Int) == 48) = false → synS s = false := fun h1 h2 h h' => by unfold synS; rw [lead0_at s _ h, h']; simp; omega
  cases h0 : ((s[0].toNat : Int) == 36)
  · have ha : cA s = 0 := by rw [eq_36] at h0; rw [eA, if_neg (by simpa using h0)]
    by_cases hb : cB s < s.size
    · have ec := eC hb
      cases h1 : ((s[cB s].toNat : Int) == 36)
      · have hc : cC s = cB s := by rw [eq_36] at h1; rw [ec, if_neg (by simpa using h1)]
        by_cases hl : cB s = 0
        · rw [syn (sL (by omega))]; exact form_00L s w hs hp h0 ha hb h1 hc hl
        by_cases hd : cD s = cB s
        · rw [syn (sD (by omega))]; exact form_00D s w hs hp h0 ha hb h1 hc (by omega) hd
        have hz : cB s < s.size := by omega
        cases h2 : ((s[cB s].toNat : Int) == 48)
        · rw [← good false false 0 (cB s) (sO (by omega) (by omega) (by omega) (by simp only [hc]; exact h2)) ha hc (by rw [ha]; rfl) (by rw [hc]; simp)]
          exact form_00ok s w hs hp h0 ha hb h1 hc (by omega) (by omega) hz h2
        · rw [syn (sZ (by omega) (by simp only [hc]; exact h2))]
          exact form_00Z s w hs hp h0 ha hb h1 hc (by omega) (by omega) hz h2
      · have hc : cC s = cB s + 1 := by rw [eq_36] at h1; rw [ec, if_pos (by simpa using h1)]
        by_cases hl : cB s = 0
        · rw [syn (sL (by omega))]; exact form_01L s w hs hp h0 ha hb h1 hc hl
        by_cases hd : cD s = cB s + 1
        · rw [syn (sD (by omega))]; exact form_01D s w hs hp h0 ha hb h1 hc (by omega) hd
        have hz : cB s + 1 < s.size := by omega
        cases h2 : ((s[cB s + 1].toNat : Int) == 48)
        · rw [← good false true 0 (cB s + 1) (sO (by omega) (by omega) (by omega) (by simp only [hc]; exact h2)) ha hc (by rw [ha]; rfl) (by rw [hc]; simp)]
          exact form_01ok s w hs hp h0 ha hb h1 hc (by omega) (by omega) hz h2
        · rw [syn (sZ (by omega) (by simp only [hc]; exact h2))]
          exact form_01Z s w hs hp h0 ha hb h1 hc (by omega) (by omega) hz h2
    · have hc := eZ (by omega)
      have hb' : cB s = s.size := by omega
      by_cases hl : cB s = 0
      · rw [syn (sL (by omega))]; exact form_0zL s w hs hp h0 ha hb' hc hl
      · rw [syn (sD (by omega))]; exact form_0zD s w hs hp h0 ha hb' hc (by omega)
  · have ha : cA s = 1 := by rw [eq_36] at h0; rw [eA, if_pos (by simpa using h0)]
    by_cases hb : cB s < s.size
    · have ec := eC hb
      cases h1 : ((s[cB s].toNat : Int) == 36)
      · have hc : cC s = cB s := by rw [eq_36] at h1; rw [ec, if_neg (by simpa using h1)]
        by_cases hl : cB s = 1
        · rw [syn (sL (by omega))]; exact form_10L s w hs hp h0 ha hb h1 hc hl
        by_cases hd : cD s = cB s
        · rw [syn (sD (by omega))]; exact form_10D s w hs hp h0 ha hb h1 hc (by omega) hd
        have hz : cB s < s.size := by omega
        cases h2 : ((s[cB s].toNat : Int) == 48)
        · rw [← good true false 1 (cB s) (sO (by omega) (by omega) (by omega) (by simp only [hc]; exact h2)) ha hc (by rw [ha]; rfl) (by rw [hc]; simp)]
          exact form_10ok s w hs hp h0 ha hb h1 hc (by omega) (by omega) hz h2
        · rw [syn (sZ (by omega) (by simp only [hc]; exact h2))]
          exact form_10Z s w hs hp h0 ha hb h1 hc (by omega) (by omega) hz h2
      · have hc : cC s = cB s + 1 := by rw [eq_36] at h1; rw [ec, if_pos (by simpa using h1)]
        by_cases hl : cB s = 1
        · rw [syn (sL (by omega))]; exact form_11L s w hs hp h0 ha hb h1 hc hl
        by_cases hd : cD s = cB s + 1
        · rw [syn (sD (by omega))]; exact form_11D s w hs hp h0 ha hb h1 hc (by omega) hd
        have hz : cB s + 1 < s.size := by omega
        cases h2 : ((s[cB s + 1].toNat : Int) == 48)
        · rw [← good true true 1 (cB s + 1) (sO (by omega) (by omega) (by omega) (by simp only [hc]; exact h2)) ha hc (by rw [ha]; rfl) (by rw [hc]; simp)]
          exact form_11ok s w hs hp h0 ha hb h1 hc (by omega) (by omega) hz h2
        · rw [syn (sZ (by omega) (by simp only [hc]; exact h2))]
          exact form_11Z s w hs hp h0 ha hb h1 hc (by omega) (by omega) hz h2
    · have hc := eZ (by omega)
      have hb' : cB s = s.size := by omega
      by_cases hl : cB s = 1
      · rw [syn (sL (by omega))]; exact form_1zL s w hs hp h0 ha hb' hc hl
      · rw [syn (sD (by omega))]; exact form_1zD s w hs hp h0 ha hb' hc (by omega)
end Go.Proofs.YtcabgnikbgoikaaDoor
