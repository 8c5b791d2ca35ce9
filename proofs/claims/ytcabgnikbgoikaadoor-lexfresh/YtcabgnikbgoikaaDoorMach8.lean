/- Cutting a text by states, rune by rune, comes to the words that it is cut into one behind the other; of no program. -/
import Derived.Test.YtcabgnikbgoikaaDoorMath8
import Derived.Test.YtcabgnikbgoikaaDoorDec5
namespace Go.Proofs.YtcabgnikbgoikaaDoor
open Go.RowKit
set_option linter.unusedVariables false

def blR (r : Nat) : Bool := r == 9 || (r == 10 || (r == 13 || (r == 32 || (r == 160 || r == 12288))))
def digR (r : Nat) : Bool := decide (48 ≤ r) && decide (r ≤ 57)
def runR (r : Nat) : Bool := digR r || ((decide (65 ≤ r) && decide (r ≤ 90)) || ((decide (97 ≤ r) && decide (r ≤ 122)) || (r == 36 || r == 95)))
theorem run_byte (c : UInt8) : isRun c = runR c.toNat := by
  have e : ∀ n : Nat, n < 256 → (c == UInt8.ofNat n) = (c.toNat == n) := fun n hn => by
    rw [Bool.eq_iff_iff, beq_iff_eq, beq_iff_eq, ← UInt8.toNat_inj, UInt8.toNat_ofNat']; omega
  unfold isRun runR dig digR isC isS
  rw [show (36 : UInt8) = UInt8.ofNat 36 from rfl, show (95 : UInt8) = UInt8.ofNat 95 from rfl, e 36 (by decide), e 95 (by decide)]
theorem get_at (s : ByteArray) (p : Nat) (h : p < s.size) : s.get! p = s[p] := by
  show s.data[p]! = s.data[p]
  rw [getElem!_pos _ _ (by simpa using h)]
theorem dec_low (s : ByteArray) (p : Nat) (h : p < s.size) (hc : s[p].toNat < 128) : nr s p = s[p].toNat ∧ wd s p = 1 := by
  unfold nr wd; rw [Lib.decode_at, get_at s p h]; unfold Lib.decodeN; rw [if_pos hc]; exact ⟨rfl, rfl⟩
theorem dec_high (s : ByteArray) (p : Nat) (h : p < s.size) (hc : 128 ≤ s[p].toNat) : 128 ≤ nr s p := by
  unfold nr; rw [Lib.decode_at, get_at s p h]; unfold Lib.decodeN
  repeat' split
  all_goals simp only
  all_goals omega
theorem decN_cont (n b0 b1 b2 b3 : Nat) : (2 ≤ (Lib.decodeN n b0 b1 b2 b3).2 → 128 ≤ b1) ∧ (3 ≤ (Lib.decodeN n b0 b1 b2 b3).2 → 128 ≤ b2) ∧ (4 ≤ (Lib.decodeN n b0 b1 b2 b3).2 → 128 ≤ b3) := by
  unfold Lib.decodeN
  repeat' split
  all_goals simp only
  all_goals omega
theorem dec_cont (s : ByteArray) (p j : Nat) (h : p < s.size) (h1 : p < j) (h2 : j < p + wd s p) : 128 ≤ (s.get! j).toNat := by
  have hw := decN_w (s.size - p) (s.get! p).toNat (s.get! (p + 1)).toNat (s.get! (p + 2)).toNat (s.get! (p + 3)).toNat (by omega)
  have hc := decN_cont (s.size - p) (s.get! p).toNat (s.get! (p + 1)).toNat (s.get! (p + 2)).toNat (s.get! (p + 3)).toNat
  unfold wd at h2
  rw [Lib.decode_at] at h2
  have h3 : j = p + 1 ∨ j = p + 2 ∨ j = p + 3 := by omega
  rcases h3 with rfl | rfl | rfl
  · exact hc.1 (by omega)
  · exact hc.2.1 (by omega)
  · exact hc.2.2 (by omega)
theorem head_get (s : ByteArray) (p : Nat) (x : UInt8) : (s.data.toList.drop p).head? = some x ↔ p < s.size ∧ s.get! p = x := by
  by_cases h : p < s.size
  · rw [drop_cons s p h, get_at s p h]; simp [h]
  · rw [drop_nil s p (by omega)]; simp [h]
theorem u8 (c : UInt8) (n : Nat) (hn : n < 256) : c = UInt8.ofNat n ↔ c.toNat = n := by rw [← UInt8.toNat_inj, UInt8.toNat_ofNat']; omega
theorem decN_blank (n b0 b1 b2 b3 : Nat) (h0 : b0 < 256) (h1 : b1 < 256) (h2 : b2 < 256) (hb : 128 ≤ b0) :
    ((Lib.decodeN n b0 b1 b2 b3).1 = 160 ↔ b0 = 194 ∧ 1 < n ∧ b1 = 160) ∧ ((Lib.decodeN n b0 b1 b2 b3).1 = 12288 ↔ b0 = 227 ∧ (1 < n ∧ b1 = 128) ∧ 2 < n ∧ b2 = 128) ∧ ((Lib.decodeN n b0 b1 b2 b3).1 = 160 → (Lib.decodeN n b0 b1 b2 b3).2 = 2) ∧ ((Lib.decodeN n b0 b1 b2 b3).1 = 12288 → (Lib.decodeN n b0 b1 b2 b3).2 = 3) := by
  unfold Lib.decodeN
  rw [if_neg (by omega)]
  by_cases hA : b0 / 32 = 6 ∧ (1 < n ∧ b1 / 64 = 2)
  · rw [if_pos hA]
    obtain ⟨a1, a2, a3⟩ := hA
    split
    · next hv => refine ⟨⟨fun e => ?_, fun e => ?_⟩, ⟨fun e => ?_, fun e => ?_⟩, fun e => ?_, fun e => ?_⟩ <;> (try simp only at e) <;> (try simp only) <;> omega
    · next hv => refine ⟨⟨fun e => ?_, fun e => ?_⟩, ⟨fun e => ?_, fun e => ?_⟩, fun e => ?_, fun e => ?_⟩ <;> (try simp only at e) <;> (try simp only) <;> omega
  · have hA' : ¬ (b0 = 194 ∧ 1 < n ∧ b1 = 160) := fun e => hA ⟨by omega, by omega, by omega⟩
    rw [if_neg hA]
    clear hA
    by_cases hB : b0 / 16 = 14 ∧ (1 < n ∧ b1 / 64 = 2) ∧ (2 < n ∧ b2 / 64 = 2)
    · rw [if_pos hB]
      split
      · refine ⟨⟨fun e => ?_, fun e => (hA' e).elim⟩, ⟨fun e => ?_, fun e => ?_⟩, fun e => ?_, fun e => ?_⟩ <;> simp only at * <;> omega
      · next hC =>
        refine ⟨⟨fun e => ?_, fun e => (hA' e).elim⟩, ⟨fun e => ?_, fun e => ?_⟩, fun e => ?_, fun e => ?_⟩
        · simp only at e; omega
        · simp only at e; omega
        · exact absurd ⟨by omega, .inl (by omega)⟩ hC
        · simp only at e; omega
        · simp only at e; omega
    · have hB' : ¬ (b0 = 227 ∧ (1 < n ∧ b1 = 128) ∧ 2 < n ∧ b2 = 128) := fun e => hB ⟨by omega, ⟨by omega, by omega⟩, by omega, by omega⟩
      rw [if_neg hB]
      clear hB
      have key : ∀ x : Nat × Nat, x.1 ≠ 160 → x.1 ≠ 12288 → (x.1 = 160 ↔ b0 = 194 ∧ 1 < n ∧ b1 = 160) ∧ (x.1 = 12288 ↔ b0 = 227 ∧ (1 < n ∧ b1 = 128) ∧ 2 < n ∧ b2 = 128) ∧ (x.1 = 160 → x.2 = 2) ∧ (x.1 = 12288 → x.2 = 3) := fun x a b =>
        ⟨⟨fun e => (a e).elim, fun e => (hA' e).elim⟩, ⟨fun e => (b e).elim, fun e => (hB' e).elim⟩, fun e => (a e).elim, fun e => (b e).elim⟩
      split
      · split
        · next hD => exact key _ (by simp only; omega) (by simp only; omega)
        · exact key _ (by decide) (by decide)
      · exact key _ (by decide) (by decide)
/-- A blank by its rune is one by its bytes. -/
theorem dec_blank (s : ByteArray) (p : Nat) (h : p < s.size) : (blR (nr s p) = true ↔ 0 < bl (s.data.toList.drop p)) ∧ (blR (nr s p) = true → wd s p = bl (s.data.toList.drop p)) := by
  have e1 : (s.data.toList.drop (p + 1)).head? = some 160 ↔ 1 < s.size - p ∧ (s.get! (p + 1)).toNat = 160 := by rw [head_get, show (160 : UInt8) = UInt8.ofNat 160 from rfl, u8 _ 160 (by decide)]; omega
  have e2 : (s.data.toList.drop (p + 1)).head? = some 128 ↔ 1 < s.size - p ∧ (s.get! (p + 1)).toNat = 128 := by rw [head_get, show (128 : UInt8) = UInt8.ofNat 128 from rfl, u8 _ 128 (by decide)]; omega
  have e3 : (s.data.toList.drop (p + 1)).tail.head? = some 128 ↔ 2 < s.size - p ∧ (s.get! (p + 2)).toNat = 128 := by rw [List.tail_drop, head_get, show (128 : UInt8) = UInt8.ofNat 128 from rfl, u8 _ 128 (by decide), show p + 1 + 1 = p + 2 from rfl]; omega
  have k : ∀ n : Nat, n < 256 → (s[p] = UInt8.ofNat n ↔ s[p].toNat = n) := fun n hn => u8 _ n hn
  have k9 : s[p] = 9 ↔ s[p].toNat = 9 := k 9 (by decide)
  have k10 : s[p] = 10 ↔ s[p].toNat = 10 := k 10 (by decide)
  have k13 : s[p] = 13 ↔ s[p].toNat = 13 := k 13 (by decide)
  have k32 : s[p] = 32 ↔ s[p].toNat = 32 := k 32 (by decide)
  have k194 : s[p] = 194 ↔ s[p].toNat = 194 := k 194 (by decide)
  have k227 : s[p] = 227 ↔ s[p].toNat = 227 := k 227 (by decide)
  rw [drop_cons s p h, bl]
  simp only [e1, e2, e3, k9, k10, k13, k32, k194, k227]
  have hbl : blR (nr s p) = true ↔ (nr s p = 9 ∨ nr s p = 10 ∨ nr s p = 13 ∨ nr s p = 32 ∨ nr s p = 160 ∨ nr s p = 12288) := by unfold blR; simp
  rw [hbl]
  by_cases hc : s[p].toNat < 128
  · obtain ⟨d1, d2⟩ := dec_low s p h hc
    rw [d1, d2]
    generalize s[p].toNat = c at *
    by_cases hw : c = 9 ∨ c = 10 ∨ c = 13 ∨ c = 32
    · rw [if_pos hw]; omega
    · rw [if_neg hw, if_neg (by omega), if_neg (by omega)]; omega
  · have hh := dec_high s p h (by omega)
    have hd := decN_blank (s.size - p) (s.get! p).toNat (s.get! (p + 1)).toNat (s.get! (p + 2)).toNat (s.get! (p + 3)).toNat (s.get! p).toNat_lt (s.get! (p + 1)).toNat_lt (s.get! (p + 2)).toNat_lt (by rw [get_at s p h]; omega)
    rw [← Lib.decode_at, get_at s p h] at hd
    change (nr s p = 160 ↔ _) ∧ (nr s p = 12288 ↔ _) ∧ (nr s p = 160 → wd s p = 2) ∧ (nr s p = 12288 → wd s p = 3) at hd
    generalize s[p].toNat = c at *
    generalize (s.get! (p + 1)).toNat = d at *
    generalize (s.get! (p + 2)).toNat = e at *
    generalize nr s p = r at *
    generalize wd s p = v at *
    rw [if_neg (by omega)]
    by_cases hA : c = 194 ∧ 1 < s.size - p ∧ d = 160
    · rw [if_pos hA]; omega
    · rw [if_neg hA]
      by_cases hB : c = 227 ∧ (1 < s.size - p ∧ d = 128) ∧ 2 < s.size - p ∧ e = 128
      · rw [if_pos hB]; omega
      · rw [if_neg hB]; omega
theorem run_rune (s : ByteArray) (p : Nat) (h : p < s.size) : runR (nr s p) = isRun s[p] := by
  rw [run_byte]
  by_cases hc : s[p].toNat < 128
  · rw [(dec_low s p h hc).1]
  · have := dec_high s p h (by omega)
    have e : ∀ n : Nat, 128 ≤ n → runR n = false := fun n hn => by unfold runR digR; simp; omega
    rw [e _ this, e _ (by omega)]
theorem run_low (c : UInt8) (h : isRun c = true) : c.toNat < 128 := by
  rw [run_byte] at h; unfold runR digR at h; simp at h; omega
theorem quote_rune (s : ByteArray) (p : Nat) (h : p < s.size) : nr s p = 34 ↔ s[p] = 34 := by
  rw [show (34 : UInt8) = UInt8.ofNat 34 from rfl, u8 _ 34 (by decide)]
  by_cases hc : s[p].toNat < 128
  · rw [(dec_low s p h hc).1]
  · have := dec_high s p h (by omega); omega

/-- The bytes from a on up to b. -/
def slc (L : List UInt8) (a b : Nat) : List UInt8 := (L.drop a).take (b - a)
theorem slc_app (L : List UInt8) (a b : Nat) (h : a ≤ b) : L.drop a = slc L a b ++ L.drop b := by
  unfold slc; conv => lhs; rw [← List.take_append_drop (b - a) (L.drop a)]
  rw [List.drop_drop, show a + (b - a) = b by omega]
theorem slc_len (L : List UInt8) (a b : Nat) (h : b ≤ L.length) : (slc L a b).length = b - a := by unfold slc; rw [List.length_take, List.length_drop]; omega
theorem slc_snoc (s : ByteArray) (a b : Nat) (h : a ≤ b) (hb : b < s.size) : slc s.data.toList a (b + 1) = slc s.data.toList a b ++ [s[b]] := by
  unfold slc
  rw [show b + 1 - a = (b - a) + 1 by omega, List.take_add, List.drop_drop, show a + (b - a) = b by omega, drop_cons s b hb]
  rfl
theorem slc_self (L : List UInt8) (a : Nat) : slc L a a = [] := by unfold slc; rw [Nat.sub_self]; rfl
/-- A text that is being cut. -/
structure Mc where
  st : Nat
  frm : Nat
  til : Nat
  acc : List Wd
def goesR (m : Mc) (i r : Nat) : Option Nat :=
  if m.st = 1 then (if runR r then some 1 else none) else if m.st = 2 then some (if r = 34 then 3 else 2) else if m.st = 3 then (if r = 34 then some 2 else none) else if m.st = 4 then (if i < m.til then some 4 else none) else none
def wOf (R : List UInt8 → Bool) (b : List UInt8) (st : Nat) (called : Bool) : Tok :=
  if st = 1 then runTok R b called else if st = 3 then .ok 2 (und (slc b 1 (b.length - 1))) b.length else if st = 4 then .ok (spKind b) b b.length else .bad 21
def endM (R : List UInt8 → Bool) (L : List UInt8) (m : Mc) (i : Nat) : Nat × Mc :=
  if m.st = 0 then (0, m) else match wOf R (slc L m.frm i) m.st (callsL (L.drop i)) with
    | .bad e => (e, m)
    | .ok k t n => (0, { m with acc := m.acc ++ [⟨k, t, m.frm⟩] })
def beginM (L : List UInt8) (m : Mc) (i r : Nat) : Nat × Mc :=
  if blR r then (0, { m with frm := i, st := 0 }) else if runR r then (0, { m with frm := i, st := 1 }) else if r = 34 then (0, { m with frm := i, st := 2 }) else
  match spFind (L.drop i) with
  | none => (21, { m with frm := i })
  | some p => (0, { m with frm := i, st := 4, til := i + p.length })
def takeM (R : List UInt8 → Bool) (L : List UInt8) (m : Mc) (i r : Nat) : Nat × Mc :=
  match goesR m i r with
  | some t => (0, { m with st := t })
  | none => if (endM R L m i).1 ≠ 0 then endM R L m i else beginM L (endM R L m i).2 i r
/-- The machine stands at a place of the text, and what is still to come makes the answer. -/
def Inv (R : List UInt8 → Bool) (s : ByteArray) (fin : Res) (pos : Nat) (m : Mc) : Prop :=
  pos ≤ s.size ∧ m.frm ≤ pos ∧ m.acc.length ≤ m.frm ∧
  match m.st with
  | 0 => cutA R (s.data.toList.drop pos) pos m.acc = fin
  | 1 => m.frm < pos ∧ (∀ c ∈ slc s.data.toList m.frm pos, isRun c = true) ∧ cutA R (s.data.toList.drop m.frm) m.frm m.acc = fin
  | 2 => m.frm < pos ∧ s.data.toList[m.frm]? = some 34 ∧ cutA R (s.data.toList.drop m.frm) m.frm m.acc = fin ∧ ∃ B, txt (s.data.toList.drop (m.frm + 1)) = (txt (s.data.toList.drop pos)).map (fun p => (B ++ p.1, p.2 + (pos - (m.frm + 1))))
  | 3 => m.frm + 1 < pos ∧ s.data.toList[m.frm]? = some 34 ∧ s.data.toList[pos - 1]? = some 34 ∧ cutA R (s.data.toList.drop m.frm) m.frm m.acc = fin ∧ ∃ B, txt (s.data.toList.drop (m.frm + 1)) = (txt (s.data.toList.drop (pos - 1))).map (fun p => (B ++ p.1, p.2 + (pos - 1 - (m.frm + 1))))
  | 4 => m.frm < pos ∧ pos ≤ m.til ∧ (∃ p, spFind (s.data.toList.drop m.frm) = some p ∧ m.til = m.frm + p.length ∧ tok R (s.data.toList.drop m.frm) = .ok (spKind p) p p.length ∧ bl (s.data.toList.drop m.frm) = 0) ∧ cutA R (s.data.toList.drop m.frm) m.frm m.acc = fin
  | _ => False
theorem bl_run {c : UInt8} {r : List UInt8} (h : isRun c = true) : bl (c :: r) = 0 := by
  have hn : ∀ n : Nat, n < 256 → runR n = false → c ≠ UInt8.ofNat n := fun n hn hr e => by rw [run_byte, (u8 c n hn).1 e, hr] at h; cases h
  have h1 := hn 9 (by decide) (by decide)
  have h2 := hn 10 (by decide) (by decide)
  have h3 := hn 13 (by decide) (by decide)
  have h4 := hn 32 (by decide) (by decide)
  have h5 := hn 194 (by decide) (by decide)
  have h6 := hn 227 (by decide) (by decide)
  rw [bl, if_neg (by rintro (e | e | e | e) <;> contradiction), if_neg (fun e => h5 e.1), if_neg (fun e => h6 e.1)]
theorem bl_quote (r : List UInt8) : bl (34 :: r) = 0 := by rw [bl, if_neg (by decide), if_neg (fun e => absurd e.1 (by decide)), if_neg (fun e => absurd e.1 (by decide))]
theorem takeWhile_app (p : UInt8 → Bool) : ∀ (a b : List UInt8), (∀ c ∈ a, p c = true) → (∀ c, b.head? = some c → p c = false) → (a ++ b).takeWhile p = a
  | [], [], _, _ => rfl
  | [], c :: b, _, h => by rw [List.nil_append, List.takeWhile_cons, if_neg (by rw [h c rfl]; decide)]
  | x :: a, b, h, h' => by rw [List.cons_append, List.takeWhile_cons, if_pos (h x (by simp)), takeWhile_app p a b (fun c hc => h c (by simp [hc])) h']
theorem txt_skip : ∀ (a b : List UInt8), (∀ c ∈ a, c ≠ 34) → txt (a ++ b) = (txt b).map (fun p => (a ++ p.1, p.2 + a.length))
  | [], b, _ => by rw [List.nil_append]; cases txt b <;> simp
  | c :: a, b, h => by
    have hc := h c (by simp)
    have ih := txt_skip a b (fun x hx => h x (by simp [hx]))
    have e : txt (c :: (a ++ b)) = (txt (a ++ b)).map (fun p => (c :: p.1, p.2 + 1)) := by
      cases hab : a ++ b with
      | nil => simp [txt, hc]
      | cons d r => rw [txt, if_neg hc]
    rw [List.cons_append, e, ih]
    cases txt b with
    | none => rfl
    | some q => simp; omega
theorem wOf_bad {R : List UInt8 → Bool} {b : List UInt8} {st e : Nat} {c : Bool} (h : wOf R b st c = .bad e) : e = 12 ∨ e = 21 := by
  unfold wOf runTok numTok namTok at h
  repeat' split at h
  all_goals cases h
  all_goals simp
/-- A word ends at a place where it does not go on. -/
theorem end_step {R : List UInt8 → Bool} {s : ByteArray} {fin : Res} {i : Nat} {m : Mc} (h : Inv R s fin i m) (hno : i = s.size ∨ (∃ hi : i < s.size, goesR m i (nr s i) = none)) :
    ((endM R s.data.toList m i).1 = 0 ∧ cutA R (s.data.toList.drop i) i (endM R s.data.toList m i).2.acc = fin ∧ (endM R s.data.toList m i).2.acc.length ≤ i) ∨ ((endM R s.data.toList m i).1 ≠ 0 ∧ fin = .bad (endM R s.data.toList m i).2.frm (endM R s.data.toList m i).1) := by
  obtain ⟨st, frm, til, acc⟩ := m
  obtain ⟨hp, hf, hacc, hm⟩ := h
  simp only at hf hacc hm
  have hL : s.data.toList.length = s.size := (Lib.size_eq s).symm
  have hsz : (slc s.data.toList frm i).length = i - frm := slc_len _ _ _ (by omega)
  have happ := slc_app s.data.toList frm i hf
  -- a word of all these bytes
  have done : ∀ (T : Tok), st ≠ 0 → wOf R (slc s.data.toList frm i) st (callsL (s.data.toList.drop i)) = T → tok R (s.data.toList.drop frm) = T → bl (s.data.toList.drop frm) = 0 → frm < i → cutA R (s.data.toList.drop frm) frm acc = fin → (∀ k t n, T = .ok k t n → n = i - frm) →
      ((endM R s.data.toList ⟨st, frm, til, acc⟩ i).1 = 0 ∧ cutA R (s.data.toList.drop i) i (endM R s.data.toList ⟨st, frm, til, acc⟩ i).2.acc = fin ∧ (endM R s.data.toList ⟨st, frm, til, acc⟩ i).2.acc.length ≤ i) ∨ ((endM R s.data.toList ⟨st, frm, til, acc⟩ i).1 ≠ 0 ∧ fin = .bad (endM R s.data.toList ⟨st, frm, til, acc⟩ i).2.frm (endM R s.data.toList ⟨st, frm, til, acc⟩ i).1) := by
    intro T h0 hw ht hb hlt hfin hn
    simp only [endM, if_neg h0, hw]
    cases T with
    | bad e =>
      have := wOf_bad hw
      refine .inr ⟨by simp only; omega, ?_⟩
      rw [← hfin]
      exact cut_bad R (by rw [happ]; intro e'; have := congrArg List.length e'; rw [List.length_append, hsz] at this; simp at this; omega) hb ht _ _
    | ok k t n =>
      refine .inl ⟨rfl, ?_, by simp; omega⟩
      have hn' := hn k t n rfl
      rw [← hfin, cut_word R hb ht, List.drop_drop, hn', show frm + (i - frm) = i by omega]
  match st, hm with
  | 0, hm => exact .inl ⟨rfl, hm, by simp only [endM, if_pos]; omega⟩
  | 1, hm =>
    obtain ⟨hlt, hrun, hfin⟩ := hm
    have hnext : ∀ c, (s.data.toList.drop i).head? = some c → isRun c = false := by
      intro c hc
      rcases hno with e | ⟨hi, hg⟩
      · rw [drop_nil s i (by omega)] at hc; cases hc
      · rw [drop_cons s i hi] at hc
        cases hc
        rw [← run_rune s i hi]
        unfold goesR at hg
        simp only [if_true] at hg
        split at hg
        · cases hg
        · next hh => simpa using hh
    have hro : runOf (s.data.toList.drop frm) = slc s.data.toList frm i := by unfold runOf; rw [happ]; exact takeWhile_app isRun _ _ hrun hnext
    have hcons := drop_cons s frm (by omega)
    have hc0 : isRun s[frm] = true := hrun _ (by
      have : slc s.data.toList frm i = s[frm] :: (s.data.toList.drop (frm + 1)).take (i - frm - 1) := by unfold slc; rw [hcons, show i - frm = (i - frm - 1) + 1 by omega, List.take_succ_cons]; rfl
      rw [this]; simp)
    have ht : tok R (s.data.toList.drop frm) = runTok R (slc s.data.toList frm i) (callsL (s.data.toList.drop i)) := by
      rw [hcons, tok, if_pos hc0, ← hcons, hro, hsz, List.drop_drop, show frm + (i - frm) = i by omega]
    exact done _ (by decide) (by unfold wOf; rw [if_pos rfl]) ht (by rw [hcons]; exact bl_run hc0) hlt hfin (fun k t n e => by rw [runTok_len e, hsz])
  | 2, hm =>
    obtain ⟨hlt, hq, hfin, B, hB⟩ := hm
    have hi : i = s.size := by
      rcases hno with e | ⟨hi, hg⟩
      · exact e
      · unfold goesR at hg; simp at hg
    have hcons := drop_cons s frm (by omega)
    have hc : s[frm] = 34 := by
      rw [List.getElem?_eq_getElem (by omega)] at hq
      exact Option.some.inj hq
    rw [hi, drop_nil s s.size (Nat.le_refl _)] at hB
    exact done (.bad 21) (by decide) rfl (by rw [hcons, hc, tok, if_neg (by decide), if_pos rfl, txtTok, hB]; rfl) (by rw [hcons, hc]; exact bl_quote _) hlt hfin (fun k t n e => by cases e)
  | 3, hm =>
    obtain ⟨hlt, hq, hq2, hfin, B, hB⟩ := hm
    have hcons := drop_cons s frm (by omega)
    have hc : s[frm] = 34 := by
      rw [List.getElem?_eq_getElem (by omega)] at hq
      exact Option.some.inj hq
    have hcons2 := drop_cons s (i - 1) (by omega)
    have hc2 : s[i - 1] = 34 := by
      rw [List.getElem?_eq_getElem (by omega)] at hq2
      exact Option.some.inj hq2
    have ht1 : txt (s.data.toList.drop (i - 1)) = some ([], 1) := by
      rw [hcons2, hc2, show i - 1 + 1 = i by omega]
      rcases hno with e | ⟨hi, hg⟩
      · rw [drop_nil s i (by omega)]; rfl
      · rw [drop_cons s i hi, txt, if_pos rfl, if_neg]
        rw [← quote_rune s i hi]
        intro e
        unfold goesR at hg
        simp [e] at hg
    rw [ht1] at hB
    have hT : txt (s.data.toList.drop (frm + 1)) = some (B, i - frm - 1) := by rw [hB]; simp; omega
    have hu := txt_und _ _ _ hT
    have hn : (i - frm - 1) + 1 = i - frm := by omega
    have hs1 : slc (slc s.data.toList frm i) 1 ((slc s.data.toList frm i).length - 1) = (s.data.toList.drop (frm + 1)).take (i - frm - 1 - 1) := by
      unfold slc
      rw [List.length_take, List.length_drop, hL, List.drop_take, List.drop_drop, List.take_take]
      congr 1
      omega
    exact done (.ok 2 B (i - frm)) (by decide) (by unfold wOf; rw [if_neg (by decide), if_pos rfl, hs1, ← hu.1, hsz]) (by rw [hcons, hc, tok, if_neg (by decide), if_pos rfl, txtTok, hT]; simp only; rw [hn]) (by rw [hcons, hc]; exact bl_quote _) (by omega) hfin (fun k t n e => by cases e; rfl)
  | 4, hm =>
    obtain ⟨hlt, hle, ⟨p, hp1, hp2, hp3, hp4⟩, hfin⟩ := hm
    have hpre := sp_mem hp1
    have hpl := pre_len hpre.2
    rw [List.length_drop, hL] at hpl
    have hi : i = frm + p.length := by
      rcases hno with e | ⟨hi, hg⟩
      · omega
      · unfold goesR at hg
        simp at hg
        omega
    have hsl : slc s.data.toList frm i = p := by unfold slc; rw [hi, Nat.add_sub_cancel_left]; exact pre_take hpre.2
    exact done (.ok (spKind p) p p.length) (by decide) (by unfold wOf; rw [hsl]; rfl) hp3 hp4 hlt hfin (fun k t n e => by cases e; omega)
/-- A word, or none, begins. -/
theorem begin_step {R : List UInt8 → Bool} {s : ByteArray} {fin : Res} {i : Nat} {m : Mc} (hi : i < s.size) (h : cutA R (s.data.toList.drop i) i m.acc = fin) (hacc : m.acc.length ≤ i) :
    ((beginM s.data.toList m i (nr s i)).1 = 0 ∧ Inv R s fin (i + wd s i) (beginM s.data.toList m i (nr s i)).2) ∨ ((beginM s.data.toList m i (nr s i)).1 ≠ 0 ∧ fin = .bad (beginM s.data.toList m i (nr s i)).2.frm (beginM s.data.toList m i (nr s i)).1) := by
  obtain ⟨st, frm, til, acc⟩ := m
  have hb := dec_blank s i hi
  have hw1 := wd_pos s i hi
  have hw2 := wd_le s i hi
  have hcons := drop_cons s i hi
  unfold beginM
  simp only at h ⊢
  cases h1 : blR (nr s i)
  · have hbz : bl (s.data.toList.drop i) = 0 := by
      by_cases e : 0 < bl (s.data.toList.drop i)
      · rw [hb.1.2 e] at h1; cases h1
      · omega
    rw [if_neg (by decide)]
    cases h2 : runR (nr s i)
    · rw [if_neg (by decide)]
      have hnr : isRun s[i] = false := by rw [← run_rune s i hi, h2]
      by_cases h3 : nr s i = 34
      · rw [if_pos h3]
        have hc := (quote_rune s i hi).1 h3
        have hwd : wd s i = 1 := (dec_low s i hi (by rw [hc]; decide)).2
        rw [hwd]
        refine .inl ⟨rfl, by omega, by simp, by simpa using hacc, by simp, ?_, h, [], ?_⟩
        · simp only; rw [List.getElem?_eq_getElem (by rw [← Lib.size_eq]; exact hi)]; exact congrArg some hc
        · simp only [Nat.sub_self, List.nil_append, Nat.add_zero]; cases txt (s.data.toList.drop (i + 1)) <;> rfl
      · rw [if_neg h3]
        have hc : s[i] ≠ 34 := fun e => h3 ((quote_rune s i hi).2 e)
        have htk : tok R (s.data.toList.drop i) = spTok (s.data.toList.drop i) := by rw [hcons, tok, if_neg (by rw [hnr]; decide), if_neg hc]
        cases h4 : spFind (s.data.toList.drop i) with
        | none =>
          refine .inr ⟨by simp, ?_⟩
          rw [← h]
          exact cut_bad R (by rw [hcons]; simp) hbz (by rw [htk, spTok, h4]) _ _
        | some p =>
          have hpre := sp_mem h4
          have hpf := sp_facts hpre.1
          have hpl := pre_len hpre.2
          have hlow : s[i].toNat < 128 := by
            refine hpf.2.2 _ ?_
            have := pre_take hpre.2
            rw [hcons] at this
            rw [← this, show p.length = (p.length - 1) + 1 by omega, List.take_succ_cons]; simp
          have hwd : wd s i = 1 := (dec_low s i hi hlow).2
          rw [hwd]
          refine .inl ⟨rfl, by omega, by simp, by simpa using hacc, by simp, by simp only; omega, ⟨p, h4, rfl, by rw [htk, spTok, h4], hbz⟩, h⟩
    · rw [if_pos rfl]
      have hr : isRun s[i] = true := by rw [← run_rune s i hi, h2]
      have hwd : wd s i = 1 := (dec_low s i hi (run_low _ hr)).2
      rw [hwd]
      refine .inl ⟨rfl, by omega, by simp, by simpa using hacc, by simp, ?_, h⟩
      simp only
      rw [slc_snoc s i i (Nat.le_refl _) hi, slc_self]
      simp [hr]
  · rw [if_pos rfl]
    have hpos := hb.1.1 h1
    have hwd := hb.2 h1
    refine .inl ⟨rfl, hw2, by simp, by simpa using hacc, ?_⟩
    simp only
    rw [← h, cut_blank R hpos, hwd, List.drop_drop]
/-- The word goes on. -/
theorem goes_step {R : List UInt8 → Bool} {s : ByteArray} {fin : Res} {i t : Nat} {m : Mc} (hi : i < s.size) (h : Inv R s fin i m) (hg : goesR m i (nr s i) = some t) : Inv R s fin (i + wd s i) { m with st := t } := by
  obtain ⟨st, frm, til, acc⟩ := m
  obtain ⟨hp, hf, hacc, hm⟩ := h
  have hL : s.data.toList.length = s.size := (Lib.size_eq s).symm
  have hw1 := wd_pos s i hi
  have hw2 := wd_le s i hi
  simp only at hf hacc hm
  refine ⟨hw2, by simp only; omega, hacc, ?_⟩
  unfold goesR at hg
  simp only at hg ⊢
  match st, hm, hg with
  | 0, hm, hg => simp at hg
  | 1, hm, hg =>
    obtain ⟨hlt, hrun, hfin⟩ := hm
    simp only [if_true] at hg
    split at hg
    · next hr =>
      cases hg
      have hr' : isRun s[i] = true := by rw [← run_rune s i hi]; exact hr
      rw [(dec_low s i hi (run_low _ hr')).2]
      refine ⟨by omega, ?_, hfin⟩
      rw [slc_snoc s frm i hf hi]
      intro c hc
      rcases List.mem_append.1 hc with hc | hc
      · exact hrun c hc
      · simp at hc; rw [hc]; exact hr'
    · cases hg
  | 2, hm, hg =>
    obtain ⟨hlt, hq, hfin, B, hB⟩ := hm
    simp only [show ¬ (2 = 1) by decide, if_false, if_true] at hg
    cases hg
    by_cases hr : nr s i = 34
    · rw [if_pos hr]
      have hc := (quote_rune s i hi).1 hr
      rw [(dec_low s i hi (by rw [hc]; decide)).2]
      refine ⟨by omega, hq, ?_, hfin, B, ?_⟩
      · rw [Nat.add_sub_cancel, List.getElem?_eq_getElem (by omega)]; exact congrArg some hc
      · rw [Nat.add_sub_cancel]; exact hB
    · rw [if_neg hr]
      refine ⟨by omega, hq, hfin, B ++ slc s.data.toList i (i + wd s i), ?_⟩
      have hno : ∀ c ∈ slc s.data.toList i (i + wd s i), c ≠ 34 := by
        intro c hc e
        unfold slc at hc
        rw [Nat.add_sub_cancel_left] at hc
        obtain ⟨j, hj, hje⟩ := List.mem_iff_getElem.1 hc
        rw [List.length_take, List.length_drop, hL] at hj
        rw [List.getElem_take, List.getElem_drop] at hje
        have hje' : s[i + j] = c := hje
        by_cases j0 : j = 0
        · subst j0
          exact hr ((quote_rune s i hi).2 (by simpa [e] using hje'))
        · have := dec_cont s i (i + j) hi (by omega) (by omega)
          rw [get_at s (i + j) (by omega), hje', e] at this
          exact absurd this (by decide)
      rw [hB, slc_app s.data.toList i (i + wd s i) (by omega), txt_skip _ _ hno, slc_len _ _ _ (by omega)]
      cases txt (s.data.toList.drop (i + wd s i)) with
      | none => rfl
      | some q => simp; omega
  | 3, hm, hg =>
    obtain ⟨hlt, hq, hq2, hfin, B, hB⟩ := hm
    simp only [show ¬ (3 = 1) by decide, show ¬ (3 = 2) by decide, if_false, if_true] at hg
    split at hg
    · next hr =>
      cases hg
      have hc := (quote_rune s i hi).1 hr
      rw [(dec_low s i hi (by rw [hc]; decide)).2]
      have hc2 : s[i - 1] = 34 := by
        rw [List.getElem?_eq_getElem (by omega)] at hq2
        exact Option.some.inj hq2
      refine ⟨by omega, hq, hfin, B ++ [34], ?_⟩
      rw [hB, drop_cons s (i - 1) (by omega), show i - 1 + 1 = i by omega, drop_cons s i hi, hc, hc2, txt, if_pos rfl, if_pos rfl]
      cases txt (s.data.toList.drop (i + 1)) with
      | none => rfl
      | some q => simp; omega
    · cases hg
  | 4, hm, hg =>
    obtain ⟨hlt, hle, ⟨p, hp1, hp2, hp3, hp4⟩, hfin⟩ := hm
    simp only [show ¬ (4 = 1) by decide, show ¬ (4 = 2) by decide, show ¬ (4 = 3) by decide, if_false, if_true] at hg
    split at hg
    · next hr =>
      cases hg
      have hpre := sp_mem hp1
      have hpf := sp_facts hpre.1
      have hlow : s[i].toNat < 128 := by
        refine hpf.2.2 _ ?_
        have := pre_take hpre.2
        rw [← this]
        refine List.mem_iff_getElem.2 ⟨i - frm, by rw [List.length_take, List.length_drop, hL]; omega, ?_⟩
        rw [List.getElem_take, List.getElem_drop]
        show s.data.toList[frm + (i - frm)] = s[i]
        simp only [show frm + (i - frm) = i by omega]
        rfl
      rw [(dec_low s i hi hlow).2]
      exact ⟨by omega, by omega, ⟨p, hp1, hp2, hp3, hp4⟩, hfin⟩
    · cases hg
/-- One rune is taken. -/
theorem take_step {R : List UInt8 → Bool} {s : ByteArray} {fin : Res} {i : Nat} {m : Mc} (hi : i < s.size) (h : Inv R s fin i m) :
    ((takeM R s.data.toList m i (nr s i)).1 = 0 ∧ Inv R s fin (i + wd s i) (takeM R s.data.toList m i (nr s i)).2) ∨ ((takeM R s.data.toList m i (nr s i)).1 ≠ 0 ∧ fin = .bad (takeM R s.data.toList m i (nr s i)).2.frm (takeM R s.data.toList m i (nr s i)).1) := by
  unfold takeM
  cases hg : goesR m i (nr s i) with
  | some t => exact .inl ⟨rfl, goes_step hi h hg⟩
  | none =>
    simp only
    rcases end_step h (.inr ⟨hi, hg⟩) with ⟨e1, e2, e3⟩ | ⟨e1, e2⟩
    · rw [if_neg (by omega)]
      exact begin_step hi e2 e3
    · rw [if_pos e1]
      exact .inr ⟨e1, e2⟩
end Go.Proofs.YtcabgnikbgoikaaDoor
