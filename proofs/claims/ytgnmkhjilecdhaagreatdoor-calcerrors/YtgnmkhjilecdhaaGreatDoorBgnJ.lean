/- whole.Text writes a number's decimal numeral, for every number of 64 bits; and the fixed calls ahead of each law answer as the document fixes them: proved of the Go text, given that strconv's table of powers is as its text lays it. What every law's proof of this seat shares: the listed tables' reading handed to the walks, the start that fits, small facts. Plain facts: a number's decimal numeral is in its one form and is read as that number; a text in its one form is the numeral of the number that it is read as; no Go in sight. The law NumText returns true for every number of 64 bits and every text, and changes nothing that was there. -/
import Derived.Test.YtgnmkhjilecdhaaGreatDoorRows
import Derived.Test.YtgnmkhjilecdhaaGreatDoorBaJ
import Derived.Test.YtgnmkhjilecdhaaGreatDoorShelf
import Derived.WalkKit
import Derived.WalkSpells
import Derived.WalkLawsBesides
import Derived.Test.YtgnmkhjilecdhaaGreatDoorCards
import Derived.Test.YtgnmkhjilecdhaaGreatDoorTie
import Derived.ProofKit
import Derived.OpenShut
import Derived.ShutString
import Derived.ChangeOld
import Derived.Below
import Derived.LaidMore
import Derived.Stop.Joined
import Derived.SevenTiedAt
import Derived.Lib.ItoaMem
namespace Go.Proofs.YtgnmkhjilecdhaaGreatDoor
open Go.RowKit
set_option linter.unusedVariables false

/-- The table is as strconv's text lays it. -/
def Tab (w : World) : Prop := Lib.TabIs Tryz.prog w "internal/strconv.uint64pow10" .u64 Lib.pow10Tab
theorem gTab : Tryz.prog.globalNamed "internal/strconv.uint64pow10" = some 3 := by kernel_rfl
theorem tab_size {w : World} (h : Tab w) : 3 < w.heap.size := by
  unfold Tab Lib.TabIs World.var? at h
  simp only [gTab, Option.bind_some] at h
  by_cases hs : 3 < w.heap.size
  · exact hs
  · rw [Array.getElem?_eq_none (by omega)] at h
    simp at h
theorem tab_below {w w' : World} (h : Tab w) (hb : Below w.heap.size w w') : Tab w' := var?_below hb gTab (tab_size h) h

theorem below_grows (w : World) (k : Nat) (os : Array Obj) : Below w.heap.size w (Sort.grow (w.drewN k) os) :=
  ⟨rfl, rfl, rfl, by show w.heap.size ≤ (w.heap ++ os).size; rw [Array.size_append]; omega, fun i hi => by show (w.heap ++ os)[i]? = _; rw [Array.getElem?_append, if_pos hi]⟩

set_option maxHeartbeats 400000 in
theorem text_any (n : Int) (w : World) (h0 : -9223372036854775808 ≤ n) (h1 : n ≤ 9223372036854775807) (ht : Tab w) :
    Calls Tryz.prog 122 #[.int .i64 n] w fun e w' => e = .returned (.string ⟨(Lib.itoa n).toArray⟩) ∧ Below w.heap.size w w' := by
  have HT := hide (Tryz.strconv_FormatInt_10 n h0 h1 w ht)
  clear ht
  go_enter Tryz.func122, Tryz.ntmps122
  go_wp2_with (go_at_call 137; refine HT.out.mono ?_; rintro e w' ⟨rfl, k, os, rfl⟩)
  go_ret
  exact ⟨rfl, below_grows w k os⟩

theorem itoa_m5 : Lib.itoa (-5) = [45, 53] := by
  have : Lib.itoa (-5) = 45 :: Lib.decDigits 5 := by decide +kernel
  rw [this, Lib.decDigits_one (by decide)]; rfl

def s007 : ByteArray := ⟨#[48, 48, 55]⟩
def sm12 : ByteArray := ⟨#[45, 49, 50]⟩
theorem read007 (w : World) : Calls Tryz.prog 96 #[.string { data := #[48, 48, 55] }] w fun e w' => e = .returned (.tuple #[.int .i64 0, .int .i64 12]) ∧ w' = w :=
  read_bad s007 w (by decide +kernel) (by decide +kernel)
theorem readm12 (w : World) : Calls Tryz.prog 96 #[.string { data := #[45, 49, 50] }] w fun e w' => e = .returned (.tuple #[.int .i64 (-12), .int .i64 0]) ∧ w' = w :=
  read_neg sm12 ⟨#[49, 50]⟩ w (by decide +kernel) (by decide +kernel) (by decide +kernel) (by decide +kernel) (by decide +kernel) (by decide +kernel)

end Go.Proofs.YtgnmkhjilecdhaaGreatDoor
namespace Go.Proofs.YtgnmkhjilecdhaaGreatDoor
open Go.ChangeShapes Go.WideShapes Go.ChangeAt Go.RowKit
set_option linter.unusedVariables false

theorem own : ownKnob Tryz.prog.godebug = none := by kernel_rfl
theorem laidOut : laidOutB Tryz.prog = true := by kernel_rfl

abbrev laid3 : List (String × DataW Unit) := [("math/bits.deBruijn32tab", Rows.laid_math_bits_deBruijn32tab), ("math/bits.deBruijn64tab", Rows.laid_math_bits_deBruijn64tab), ("internal/strconv.uint64pow10", Rows.laid_internal_strconv_uint64pow10)]

theorem door_met (os : Os) (args : Array Value) : laidMetH Tryz.prog laid3 ((World.doorLaid Tryz.prog 400 os).forCall (fun _ _ => 0) ⟨#[], args, []⟩).memory :=
  laidMetH_of_parts3 (fuel := 8) (laidMet_of_run' 8 (by kernel_rfl) (by kernel_rfl)) (by kernel_rfl) (by kernel_rfl)

theorem tTab : (Tryz.prog.globals[3]?).map (·.type) = some 144 := by kernel_rfl
theorem pow10_is {H : Type} : (Rows.laid_internal_strconv_uint64pow10 : DataW H) = Lib.tabData .u64 Lib.pow10Tab := by kernel_rfl

/-- What the row's condition gives the walks: strconv's table. -/
theorem tab_of_laid {W : World} (h : laidMetH Tryz.prog laid3 W) : Tab W := by
  rw [MakeChecks.laidMetH_plain _ _ _ (by kernel_rfl)] at h
  obtain ⟨ps, ⟨g0, t0, cs0, f0, p0, q0, hg0, ht0, hv0, hd0, ⟨g1, t1, cs1, f1, p1, q1, hg1, ht1, hv1, hd1, ⟨g2, t2, cs2, f2, p2, q2, hg2, ht2, hv2, hd2, _, _⟩, _⟩, _⟩, _⟩ := h
  obtain rfl := Option.some.inj (gTab.symm.trans hg2)
  obtain rfl := Option.some.inj (tTab.symm.trans ht2)
  unfold Tab Lib.TabIs
  rw [pow10_is] at hd2
  rw [hv2, ← Lib.cells_of_tab Tryz.underlying144 Tryz.underlying86 (by kernel_rfl) (by kernel_rfl) hd2]

theorem wf_i32 {x : Int} (h : (Lit.int .i32 x).wf = true) : -2147483648 ≤ x ∧ x ≤ 2147483647 := bounds_i32 h
theorem wf_i64 {x : Int} (h : (Lit.int .i64 x).wf = true) : -9223372036854775808 ≤ x ∧ x ≤ 9223372036854775807 := bounds_i64 h
end Go.Proofs.YtgnmkhjilecdhaaGreatDoor
namespace Go.Proofs.YtgnmkhjilecdhaaGreatDoor
open Go.RowKit

theorem digit_of (d : Nat) (h : d < 10) : (UInt8.ofNat (48 + d)).toNat = 48 + d := by
  rw [UInt8.toNat_ofNat']; omega
theorem dec_small {u : Nat} (h : u < 10) : Lib.decDigits u = [UInt8.ofNat (48 + u)] := Lib.decDigits_one h
theorem dec_big {u : Nat} (h : ¬ u < 10) : Lib.decDigits u = Lib.decDigits (u / 10) ++ [UInt8.ofNat (48 + u % 10)] := by
  rw [Lib.decDigits, dif_neg h]
theorem val_dec (u : Nat) : val (Lib.decDigits u) = u := by
  induction u using Nat.strongRecOn with
  | ind u ih =>
    by_cases h : u < 10
    · rw [dec_small h]; simp only [val, List.foldl_cons, List.foldl_nil, digit_of u h]; omega
    · rw [dec_big h, val_snoc, ih (u / 10) (by omega), digit_of _ (by omega)]; omega
theorem dgs_dec (u : Nat) : dgs (Lib.decDigits u) = true := by
  induction u using Nat.strongRecOn with
  | ind u ih =>
    by_cases h : u < 10
    · rw [dec_small h]; simp only [dgs, dig, List.all_cons, List.all_nil, digit_of u h, Bool.and_true, Bool.and_eq_true, decide_eq_true_eq]; omega
    · rw [dec_big h, dgs_snoc, ih (u / 10) (by omega)]; simp only [dig, digit_of _ (show u % 10 < 10 by omega), Bool.true_and, Bool.and_eq_true, decide_eq_true_eq]; omega
theorem dec_lead (u : Nat) (h1 : 1 ≤ u) : ∃ c r, Lib.decDigits u = c :: r ∧ c ≠ 48 := by
  induction u using Nat.strongRecOn with
  | ind u ih =>
    by_cases h : u < 10
    · refine ⟨_, _, dec_small h, fun e => ?_⟩
      have := congrArg UInt8.toNat e
      rw [digit_of u h] at this
      simp at this; omega
    · obtain ⟨c, r, hr, hc⟩ := ih (u / 10) (by omega) (by omega)
      exact ⟨c, r ++ [_], by rw [dec_big h, hr]; rfl, hc⟩
theorem num_dec (u : Nat) (h1 : 1 ≤ u) : numL (Lib.decDigits u) = true := by
  have hd := dgs_dec u
  obtain ⟨c, r, hr, hc⟩ := dec_lead u h1
  rw [hr] at hd ⊢
  simp only [numL, hd, Bool.and_true]
  rw [bne_iff_ne]; exact hc
theorem dec_len (k u : Nat) (h : u < 10 ^ (k + 1)) : (Lib.decDigits u).length ≤ k + 1 := by
  induction k generalizing u with
  | zero => rw [dec_small (by omega)]; simp
  | succ k ih =>
    by_cases h' : u < 10
    · rw [dec_small h']; simp
    · rw [dec_big h', List.length_append]
      have := ih (u / 10) (by rw [Nat.pow_succ] at h; omega)
      simp; omega
theorem dec_pos (u : Nat) : 1 ≤ (Lib.decDigits u).length := by
  by_cases h : u < 10
  · rw [dec_small h]; simp
  · rw [dec_big h]; simp
theorem val_lt (l : List UInt8) (h : dgs l = true) : val l < 10 ^ l.length := by
  induction hn : l.length generalizing l with
  | zero => rw [List.eq_nil_of_length_eq_zero hn]; simp [val]
  | succ n ih =>
    have hne : l ≠ [] := by rintro rfl; simp at hn
    obtain ⟨i, c, rfl⟩ : ∃ i c, l = i ++ [c] := ⟨l.dropLast, l.getLast hne, (List.dropLast_concat_getLast hne).symm⟩
    rw [dgs_snoc, Bool.and_eq_true] at h
    have hc := h.2
    simp [dig] at hc
    have := ih i h.1 (by simp at hn; exact hn)
    rw [val_snoc, Nat.pow_succ]; omega
theorem dec_val (l : List UInt8) (h : numL l = true) : Lib.decDigits (val l) = l ∧ 1 ≤ val l := by
  induction hn : l.length generalizing l with
  | zero => rw [List.eq_nil_of_length_eq_zero hn] at h; cases h
  | succ n ih =>
    have hne : l ≠ [] := by rintro rfl; simp at hn
    obtain ⟨i, c, rfl⟩ : ∃ i c, l = i ++ [c] := ⟨l.dropLast, l.getLast hne, (List.dropLast_concat_getLast hne).symm⟩
    cases i with
    | nil =>
      simp [numL, dgs, dig] at h
      obtain ⟨h0, h1, h2⟩ := h
      have h48 : c.toNat ≠ 48 := fun e => h0 (UInt8.toNat_inj.1 e)
      have e : val ([] ++ [c]) = c.toNat - 48 := by simp [val]
      rw [e, dec_small (by omega)]
      refine ⟨congrArg (fun x => [x]) ?_, by omega⟩
      apply UInt8.toNat_inj.1
      rw [digit_of _ (by omega)]; omega
    | cons d r =>
      have hi : numL (d :: r) = true := by
        simp only [List.cons_append, numL, Bool.and_eq_true] at h ⊢
        refine ⟨h.1, ?_⟩
        have := h.2
        rw [← List.cons_append, dgs_snoc, Bool.and_eq_true] at this
        exact this.1
      have hc : dig c = true := by
        simp only [List.cons_append, numL, Bool.and_eq_true] at h
        have := h.2
        rw [← List.cons_append, dgs_snoc, Bool.and_eq_true] at this
        exact this.2
      simp [dig] at hc
      obtain ⟨e1, e2⟩ := ih (d :: r) hi (by simp at hn ⊢; exact hn)
      rw [val_snoc]
      refine ⟨?_, by omega⟩
      rw [dec_big (by omega), show (val (d :: r) * 10 + (c.toNat - 48)) / 10 = val (d :: r) by omega, show (val (d :: r) * 10 + (c.toNat - 48)) % 10 = c.toNat - 48 by omega, e1]
      congr 2
      apply UInt8.toNat_inj.1
      rw [digit_of _ (by omega)]; omega

/-- The numeral as a text. -/
def numeral (n : Int) : ByteArray := ⟨(Lib.itoa n).toArray⟩
theorem numeral_data (n : Int) : (numeral n).data.toList = Lib.itoa n := by simp [numeral]
theorem numeral_size (n : Int) : (numeral n).size = (Lib.itoa n).length := by rw [Lib.size_eq, numeral_data]
theorem itoa_pos (u : Nat) : Lib.itoa (u : Int) = Lib.decDigits u := Lib.itoa_nonneg u
theorem itoa_neg (u : Nat) (h : 1 ≤ u) : Lib.itoa (-(u : Int)) = 45 :: Lib.decDigits u := Lib.itoa_neg u h
theorem numeral_len (n : Int) (h0 : -9223372036854775808 ≤ n) (h1 : n ≤ 9223372036854775807) : 1 ≤ (numeral n).size ∧ (numeral n).size ≤ 20 := by
  rw [numeral_size]
  by_cases hn : n < 0
  · obtain ⟨u, rfl⟩ : ∃ u : Nat, n = -(u : Int) := ⟨n.natAbs, by omega⟩
    rw [itoa_neg u (by omega)]
    have := dec_len 18 u (by omega)
    simp; omega
  · obtain ⟨u, rfl⟩ : ∃ u : Nat, n = (u : Int) := ⟨n.toNat, by omega⟩
    rw [itoa_pos]
    have := dec_len 18 u (by omega)
    have := dec_pos u
    omega
theorem form_pos (u : Nat) : formL (Lib.decDigits u) = true := by
  by_cases h : u = 0
  · subst h; rw [dec_small (by omega)]; rfl
  · obtain ⟨c, r, hr, hc⟩ := dec_lead u (by omega)
    have hn := num_dec u (by omega)
    have hd := dgs_dec u
    rw [hr] at hn hd ⊢
    have h45 : ¬ c = 45 := by
      rintro rfl
      simp [dgs, dig] at hd
    have e : unsig (c :: r) = c :: r := if_neg h45
    unfold formL
    rw [e, hn]; simp
theorem form_neg (u : Nat) (h : 1 ≤ u) : formL (45 :: Lib.decDigits u) = true := by
  have e : unsig (45 :: Lib.decDigits u) = Lib.decDigits u := by simp [unsig]
  unfold formL
  rw [e, num_dec u h]; simp
end Go.Proofs.YtgnmkhjilecdhaaGreatDoor
namespace Go.Proofs.YtgnmkhjilecdhaaGreatDoor
open Go.RowKit
set_option linter.unusedVariables false

theorem head_of (s : ByteArray) (h : 0 < s.size) (c : UInt8) (r : List UInt8) (hl : s.data.toList = c :: r) : s[0] = c := by
  obtain ⟨r', hr⟩ := toList_cons s h
  rw [hr] at hl
  exact (List.cons.inj hl).1
theorem tail_of (s : ByteArray) (c : UInt8) (r : List UInt8) (hl : s.data.toList = c :: r) : (s.extract 1 s.size).data.toList = r := by
  have hz := Lib.size_eq s
  rw [Lib.extract_data, hl, List.drop_one, List.tail_cons]
  rw [hl] at hz
  exact List.take_of_length_le (by simp at hz; omega)
theorem read_numeral (n : Int) (w : World) (h0 : -9223372036854775808 ≤ n) (h1 : n ≤ 9223372036854775807) :
    Calls Tryz.prog 96 #[.string (numeral n)] w fun e w' => e = .returned (.tuple #[.int .i64 n, .int .i64 0]) ∧ w' = w := by
  obtain ⟨l1, l2⟩ := numeral_len n h0 h1
  have hs : (numeral n).size ≤ maxLen := by unfold maxLen; omega
  by_cases hn : n < 0
  · obtain ⟨u, rfl⟩ : ∃ u : Nat, n = -(u : Int) := ⟨n.natAbs, by omega⟩
    have hd : (numeral (-(u : Int))).data.toList = 45 :: Lib.decDigits u := by rw [numeral_data, itoa_neg u (by omega)]
    have ht := tail_of _ _ _ hd
    have hf : formB (numeral (-(u : Int))) = true := by unfold formB; rw [hd]; exact form_neg u (by omega)
    have h45 : ((((numeral (-(u : Int)))[0]'(by omega)).toNat : Int) == 45) = true := by rw [head_of _ (by omega) _ _ hd]; rfl
    have := read_neg (numeral (-(u : Int))) _ w hs hf (by omega) rfl h45 (by rw [ht, val_dec]; omega)
    rwa [ht, val_dec] at this
  · obtain ⟨u, rfl⟩ : ∃ u : Nat, n = (u : Int) := ⟨n.toNat, by omega⟩
    have hd : (numeral (u : Int)).data.toList = Lib.decDigits u := by rw [numeral_data, itoa_pos]
    have hf : formB (numeral (u : Int)) = true := by unfold formB; rw [hd]; exact form_pos u
    have h45 : ((((numeral (u : Int))[0]'(by omega)).toNat : Int) == 45) = false := by
      rw [eq_45, beq_eq_false_iff_ne]
      have hdd := dgs_at (numeral (u : Int)) 0 (by omega) (by rw [hd]; exact dgs_dec u)
      intro e; rw [e] at hdd; simp at hdd
    have := read_pos (numeral (u : Int)) w hs hf (by omega) h45 (by rw [hd, val_dec]; omega)
    rwa [hd, val_dec] at this
theorem text_as (n : Int) (s : ByteArray) (w : World) (h0 : -9223372036854775808 ≤ n) (h1 : n ≤ 9223372036854775807) (ht : Tab w) (hs : s.data.toList = Lib.itoa n) :
    Calls Tryz.prog 122 #[.int .i64 n] w fun e w' => e = .returned (.string s) ∧ Below w.heap.size w w' := by
  have e : s = ⟨(Lib.itoa n).toArray⟩ := by
    obtain ⟨⟨l⟩⟩ := s
    rw [← hs]
  rw [e]
  exact text_any n w h0 h1 ht
/-- The least text of a number beyond 64 bits has 19 digits. -/
theorem over_len (t : ByteArray) (h : dgs t.data.toList = true) (hv : 9223372036854775807 < val t.data.toList) : 19 ≤ t.size := by
  have h1 := val_lt t.data.toList h
  rw [← Lib.size_eq] at h1
  apply Classical.byContradiction
  intro hc
  have : 10 ^ t.size ≤ 10 ^ 18 := Nat.pow_le_pow_right (by omega) (by omega)
  omega

end Go.Proofs.YtgnmkhjilecdhaaGreatDoor
