/- Runes of a text as a range over a string goes over them: where each begins, how many there are; pieces; of no program. A rune's form and its number: of no program. Small facts that the walks of package runes share: how contracts are carried; a range over a string lays one block and turns it. What runes.Len, behind, Left, Right, Mid and Code answer, for every text: proved of the Go text. What runes.Left, Right, Mid, Code and Char answer, for every text and number: proved of the Go text. -/
import Derived.Laws.RangeAny
import Derived.Lib.DecodeN
import Derived.IntWalk
import Derived.Test.YtgnmkhjilecdhaaGreatDoorRows
import Derived.WalkKit
import Derived.WalkSpells
import Derived.WalkLawsBesides
import Derived.Deep.RegionWith
import Derived.Lib.QuietBelow
import Derived.BigQuiet
import Derived.Below
import Derived.Handy
import Derived.LoopTactic
import Derived.OwnWalk
import Derived.Laws.BytesArg
import Derived.Laws.Runes
import Derived.Laws.Concat
namespace Go.Proofs.YtgnmkhjilecdhaaGreatDoor.T5
set_option linter.unusedVariables false
set_option maxRecDepth 100000

/-- How many bytes the rune at p has. -/
def wd (s : ByteArray) (p : Nat) : Nat := (Utf8.decode s p).2
/-- Its number. -/
def nr (s : ByteArray) (p : Nat) : Nat := (Utf8.decode s p).1
theorem decN_w (n b0 b1 b2 b3 : Nat) (hn : 1 ≤ n) : 1 ≤ (Lib.decodeN n b0 b1 b2 b3).2 ∧ (Lib.decodeN n b0 b1 b2 b3).2 ≤ n ∧ (Lib.decodeN n b0 b1 b2 b3).2 ≤ 4 := by
  unfold Lib.decodeN
  repeat' split
  all_goals simp only
  all_goals omega
theorem decN_r (n b0 b1 b2 b3 : Nat) (h0 : b0 < 256) : (Lib.decodeN n b0 b1 b2 b3).1 ≤ 1114111 := by
  unfold Lib.decodeN
  repeat' split
  all_goals simp only
  all_goals omega
theorem wd_pos (s : ByteArray) (p : Nat) (h : p < s.size) : 1 ≤ wd s p := by unfold wd; rw [Lib.decode_at]; exact (decN_w _ _ _ _ _ (by omega)).1
theorem wd_le (s : ByteArray) (p : Nat) (h : p < s.size) : p + wd s p ≤ s.size := by
  have := (decN_w (s.size - p) (s.get! p).toNat (s.get! (p + 1)).toNat (s.get! (p + 2)).toNat (s.get! (p + 3)).toNat (by omega)).2.1
  unfold wd; rw [Lib.decode_at]; omega
theorem nr_le (s : ByteArray) (p : Nat) : nr s p ≤ 1114111 := by unfold nr; rw [Lib.decode_at]; exact decN_r _ _ _ _ _ (s.get! p).toNat_lt
/-- Where the next rune begins. -/
def nx (s : ByteArray) (p : Nat) : Nat := if p < s.size then p + wd s p else p
/-- n runes on from p. -/
def sk (s : ByteArray) : Nat → Nat → Nat
  | 0, p => p
  | n + 1, p => sk s n (nx s p)
def ct (s : ByteArray) : Nat → Nat → Nat
  | 0, _ => 0
  | f + 1, p => if p < s.size then ct s f (p + wd s p) + 1 else 0
/-- How many runes there are from p on. -/
def rc (s : ByteArray) (p : Nat) : Nat := ct s (s.size - p) p
theorem nx_le (s : ByteArray) (p : Nat) (h : p ≤ s.size) : nx s p ≤ s.size := by
  unfold nx; split
  · exact wd_le s p (by assumption)
  · exact h
theorem nx_ge (s : ByteArray) (p : Nat) : p ≤ nx s p := by unfold nx; split <;> omega
theorem nx_gt (s : ByteArray) (p : Nat) (h : p < s.size) : p < nx s p := by have := wd_pos s p h; unfold nx; rw [if_pos h]; omega
theorem sk_le (s : ByteArray) : ∀ n p, p ≤ s.size → sk s n p ≤ s.size
  | 0, p, h => h
  | n + 1, p, h => sk_le s n _ (nx_le s p h)
theorem sk_ge (s : ByteArray) : ∀ n p, p ≤ sk s n p
  | 0, p => Nat.le_refl _
  | n + 1, p => Nat.le_trans (nx_ge s p) (sk_ge s n _)
theorem sk_add (s : ByteArray) : ∀ n m p, sk s (n + m) p = sk s m (sk s n p)
  | 0, m, p => by rw [Nat.zero_add]; rfl
  | n + 1, m, p => by rw [Nat.add_right_comm]; exact sk_add s n m _
theorem sk_succ (s : ByteArray) (n p : Nat) : sk s (n + 1) p = nx s (sk s n p) := sk_add s n 1 p
theorem sk_end (s : ByteArray) : ∀ n p, ¬ p < s.size → sk s n p = p
  | 0, p, h => rfl
  | n + 1, p, h => by show sk s n (nx s p) = p; rw [nx, if_neg h]; exact sk_end s n p h
theorem sk_mono (s : ByteArray) {n m : Nat} (h : n ≤ m) (p : Nat) : sk s n p ≤ sk s m p := by
  obtain ⟨d, rfl⟩ := Nat.exists_eq_add_of_le h
  rw [sk_add]; exact sk_ge s d _
theorem ct_fuel (s : ByteArray) : ∀ f p, s.size - p ≤ f → ∀ f', s.size - p ≤ f' → ct s f p = ct s f' p
  | 0, p, h, 0, h' => rfl
  | 0, p, h, f' + 1, h' => by rw [ct, ct, if_neg (by omega)]
  | f + 1, p, h, 0, h' => by rw [ct, ct, if_neg (by omega)]
  | f + 1, p, h, f' + 1, h' => by
    rw [ct, ct]; split
    · have := wd_pos s p (by assumption)
      rw [ct_fuel s f _ (by omega) f' (by omega)]
    · rfl
theorem rc_end (s : ByteArray) (p : Nat) (h : ¬ p < s.size) : rc s p = 0 := by unfold rc; rw [show s.size - p = 0 by omega]; rfl
theorem rc_step (s : ByteArray) (p : Nat) (h : p < s.size) : rc s p = rc s (p + wd s p) + 1 := by
  have := wd_pos s p h
  unfold rc
  obtain ⟨f, hf⟩ : ∃ f, s.size - p = f + 1 := ⟨s.size - p - 1, by omega⟩
  rw [hf, ct, if_pos h, ct_fuel s f _ (by omega) _ (Nat.le_refl _)]
theorem rc_le (s : ByteArray) : ∀ k p, s.size - p ≤ k → rc s p ≤ s.size - p
  | 0, p, h => by rw [rc_end s p (by omega)]; omega
  | k + 1, p, h => by
    by_cases hp : p < s.size
    · have := wd_pos s p hp; have := wd_le s p hp
      have ih := rc_le s k (p + wd s p) (by omega)
      rw [rc_step s p hp]; omega
    · rw [rc_end s p hp]; omega
theorem rc_size (s : ByteArray) : rc s 0 ≤ s.size := by have := rc_le s s.size 0 (by omega); omega
theorem rc_pos (s : ByteArray) (p : Nat) (h : p < s.size) : 0 < rc s p := by rw [rc_step s p h]; omega
/-- n runes on there are n fewer. -/
theorem rc_sk (s : ByteArray) : ∀ n p, p ≤ s.size → rc s (sk s n p) = rc s p - n
  | 0, p, h => by simp [sk]
  | n + 1, p, h => by
    show rc s (sk s n (nx s p)) = _
    rw [rc_sk s n _ (nx_le s p h)]
    by_cases hp : p < s.size
    · rw [rc_step s p hp, nx, if_pos hp]; omega
    · rw [nx, if_neg hp, rc_end s p hp]; omega
theorem sk_lt (s : ByteArray) (n p : Nat) (h : p ≤ s.size) (hn : n < rc s p) : sk s n p < s.size := by
  apply Classical.byContradiction
  intro hc
  have := rc_sk s n p h
  rw [rc_end s _ hc] at this
  omega
theorem sk_all (s : ByteArray) (n p : Nat) (h : p ≤ s.size) (hn : rc s p ≤ n) : sk s n p = s.size := by
  have h1 := sk_le s n p h
  have h2 := rc_sk s n p h
  rcases Nat.lt_or_ge (sk s n p) s.size with hc | hc
  · have := rc_pos s _ hc; omega
  · omega
theorem sk_lt_iff (s : ByteArray) (n p : Nat) (h : p ≤ s.size) : sk s n p < s.size ↔ n < rc s p := by
  constructor
  · intro hl; apply Classical.byContradiction; intro hc; have := sk_all s n p h (by omega); omega
  · exact sk_lt s n p h
theorem sk_strict (s : ByteArray) {n m p : Nat} (h : p ≤ s.size) (hnm : n < m) (hn : n < rc s p) : sk s n p < sk s m p := by
  have h1 := nx_gt s _ (sk_lt s n p h hn)
  rw [← sk_succ] at h1
  exact Nat.lt_of_lt_of_le h1 (sk_mono s hnm p)
/-- The same, of the text from a on. -/
theorem get_ext (s : ByteArray) (a i : Nat) (h : a + i < s.size) : (s.extract a s.size).get! i = s.get! (a + i) := by
  have hs : i < (s.extract a s.size).size := by rw [ByteArray.size_extract]; omega
  show (s.extract a s.size).data[i]! = s.data[a + i]!
  rw [getElem!_pos _ _ (by simpa using hs), getElem!_pos _ _ (by simpa using h)]
  simp [ByteArray.data_extract]
theorem get_beyond (s : ByteArray) (i : Nat) (h : ¬ i < s.size) : s.get! i = 0 := by
  show s.data[i]! = 0
  rw [getElem!_neg _ _ (by simpa using h)]; rfl
theorem get_ext' (s : ByteArray) (a i : Nat) : (s.extract a s.size).get! i = s.get! (a + i) := by
  by_cases h : a + i < s.size
  · exact get_ext s a i h
  · rw [get_beyond s _ h, get_beyond]
    rw [ByteArray.size_extract]; omega
theorem dec_ext (s : ByteArray) (a p : Nat) : Utf8.decode (s.extract a s.size) p = Utf8.decode s (a + p) := by
  rw [Lib.decode_at, Lib.decode_at, get_ext', get_ext', get_ext', get_ext', ByteArray.size_extract, Nat.min_self, Nat.sub_sub]
  rfl
theorem ext_size (s : ByteArray) (a : Nat) : (s.extract a s.size).size = s.size - a := by rw [ByteArray.size_extract, Nat.min_self]
theorem nx_ext (s : ByteArray) (a p : Nat) (h : a ≤ s.size) : a + nx (s.extract a s.size) p = nx s (a + p) := by
  unfold nx wd
  rw [dec_ext, ext_size]
  split <;> split <;> omega
theorem sk_ext (s : ByteArray) (a : Nat) (h : a ≤ s.size) : ∀ n p, a + sk (s.extract a s.size) n p = sk s n (a + p)
  | 0, p => rfl
  | n + 1, p => by
    show a + sk _ n (nx _ p) = sk s n (nx s (a + p))
    rw [sk_ext s a h n, nx_ext s a p h]
theorem sk_ext0 (s : ByteArray) (a : Nat) (h : a ≤ s.size) (n : Nat) : sk (s.extract a s.size) n 0 = sk s n a - a := by
  have := sk_ext s a h n 0
  rw [Nat.add_zero] at this; omega
theorem ext_ext (s : ByteArray) (a b : Nat) (h : a + b ≤ s.size) : (s.extract a s.size).extract 0 b = s.extract a (a + b) := by
  rw [ByteArray.extract_extract]
  congr 1; omega
theorem ext_all (s : ByteArray) : s.extract 0 s.size = s := ByteArray.extract_zero_size
end Go.Proofs.YtgnmkhjilecdhaaGreatDoor.T5
namespace Go.Proofs.YtgnmkhjilecdhaaGreatDoor.T5
set_option linter.unusedVariables false
set_option maxRecDepth 100000

theorem app_get (a s : ByteArray) (i : Nat) (h : i < a.size) : (a ++ s).get! i = a.get! i := by
  show (a ++ s).data[i]! = a.data[i]!
  have h1 : i < (a ++ s).data.size := by
    have : (a ++ s).size = a.size + s.size := ByteArray.size_append
    show i < (a ++ s).size
    omega
  rw [getElem!_pos (a ++ s).data i h1, getElem!_pos a.data i (by simpa using h)]
  simp only [ByteArray.data_append]
  rw [Array.getElem_append_left]
/-- Is there a rune of that number? -/
def isR (n : Int) : Prop := 0 ≤ n ∧ n ≤ 1114111 ∧ ¬ (55296 ≤ n ∧ n ≤ 57343)

theorem valid_of {n : Int} (h : isR n) : Utf8.valid n = true := by
  obtain ⟨h1, h2, h3⟩ := h
  unfold Utf8.valid
  simp
  omega
theorem b1 {x : Nat} (h : x < 256) : (UInt8.ofNat x).toNat = x := by simp; omega
set_option maxHeartbeats 1000000 in
theorem dec_enc (n : Nat) (h : isR n) (s : ByteArray) : Utf8.decode (Utf8.encode n ++ s) 0 = (n, (Utf8.encode n).size) ∧ 1 ≤ (Utf8.encode n).size ∧ (Utf8.encode n).size ≤ 4 := by
  have hz : (Utf8.encode n ++ s).size = (Utf8.encode n).size + s.size := ByteArray.size_append
  rw [Lib.decode_at, hz]
  have hv := valid_of h
  obtain ⟨h1, h2, h3⟩ := h
  have hn : (n : Int).toNat = n := by simp
  have g : ∀ i, i < (Utf8.encode n).size → (Utf8.encode n ++ s).get! i = (Utf8.encode n).get! i := fun i hi => app_get _ _ i hi
  revert g
  have e : Utf8.encode n = if n < 0x80 then ⟨#[UInt8.ofNat n]⟩
    else if n < 0x800 then ⟨#[UInt8.ofNat (0xC0 + n / 64), UInt8.ofNat (0x80 + n % 64)]⟩
    else if n < 0x10000 then ⟨#[UInt8.ofNat (0xE0 + n / 4096), UInt8.ofNat (0x80 + n / 64 % 64), UInt8.ofNat (0x80 + n % 64)]⟩
    else ⟨#[UInt8.ofNat (0xF0 + n / 262144), UInt8.ofNat (0x80 + n / 4096 % 64), UInt8.ofNat (0x80 + n / 64 % 64), UInt8.ofNat (0x80 + n % 64)]⟩ := by
    unfold Utf8.encode
    simp only [hv, if_true, hn]
  by_cases c1 : n < 128
  · rw [if_pos c1] at e
    rw [e]
    intro g
    have e0 : ((⟨#[UInt8.ofNat n]⟩ : ByteArray) ++ s).get! 0 = UInt8.ofNat n := g 0 Nat.zero_lt_one
    have z : (⟨#[UInt8.ofNat n]⟩ : ByteArray).size = 1 := rfl
    rw [e0, z, b1 (by omega)]
    unfold Lib.decodeN
    rw [if_pos c1]
    exact ⟨rfl, by decide, by decide⟩
  · rw [if_neg c1] at e
    by_cases c2 : n < 2048
    · rw [if_pos c2] at e
      rw [e]
      intro g
      have z : (⟨#[UInt8.ofNat (0xC0 + n / 64), UInt8.ofNat (0x80 + n % 64)]⟩ : ByteArray).size = 2 := rfl
      have e0 := g 0 (by rw [z]; decide)
      have e1 := g 1 (by rw [z]; decide)
      change _ = UInt8.ofNat (0xC0 + n / 64) at e0
      change _ = UInt8.ofNat (0x80 + n % 64) at e1
      rw [e0, e1, z, b1 (by omega), b1 (by omega)]
      refine ⟨?_, by decide, by decide⟩
      unfold Lib.decodeN
      repeat' split
      all_goals first | (exfalso; omega) | (apply Prod.ext <;> simp only <;> omega)
    · rw [if_neg c2] at e
      by_cases c3 : n < 65536
      · rw [if_pos c3] at e
        rw [e]
        intro g
        have z : (⟨#[UInt8.ofNat (0xE0 + n / 4096), UInt8.ofNat (0x80 + n / 64 % 64), UInt8.ofNat (0x80 + n % 64)]⟩ : ByteArray).size = 3 := rfl
        have e0 := g 0 (by rw [z]; decide)
        have e1 := g 1 (by rw [z]; decide)
        have e2 := g 2 (by rw [z]; decide)
        change _ = UInt8.ofNat (0xE0 + n / 4096) at e0
        change _ = UInt8.ofNat (0x80 + n / 64 % 64) at e1
        change _ = UInt8.ofNat (0x80 + n % 64) at e2
        rw [e0, e1, e2, z, b1 (by omega), b1 (by omega), b1 (by omega)]
        refine ⟨?_, by decide, by decide⟩
        unfold Lib.decodeN
        repeat' split
        all_goals first | (exfalso; omega) | (apply Prod.ext <;> simp only <;> omega)
      · rw [if_neg c3] at e
        rw [e]
        intro g
        have z : (⟨#[UInt8.ofNat (0xF0 + n / 262144), UInt8.ofNat (0x80 + n / 4096 % 64), UInt8.ofNat (0x80 + n / 64 % 64), UInt8.ofNat (0x80 + n % 64)]⟩ : ByteArray).size = 4 := rfl
        have e0 := g 0 (by rw [z]; decide)
        have e1 := g 1 (by rw [z]; decide)
        have e2 := g 2 (by rw [z]; decide)
        have e3 := g 3 (by rw [z]; decide)
        change _ = UInt8.ofNat (0xF0 + n / 262144) at e0
        change _ = UInt8.ofNat (0x80 + n / 4096 % 64) at e1
        change _ = UInt8.ofNat (0x80 + n / 64 % 64) at e2
        change _ = UInt8.ofNat (0x80 + n % 64) at e3
        rw [e0, e1, e2, e3, z, b1 (by omega), b1 (by omega), b1 (by omega), b1 (by omega)]
        refine ⟨?_, by decide, by decide⟩
        unfold Lib.decodeN
        repeat' split
        all_goals first | (exfalso; omega) | (apply Prod.ext <;> simp only <;> omega)
theorem rc_one (t : ByteArray) (n k : Nat) (h : Utf8.decode t 0 = (n, k)) (hk : k = t.size) (h1 : 1 ≤ t.size) : rc t 0 = 1 := by
  have hw : wd t 0 = t.size := by unfold wd; rw [h, hk]
  rw [rc_step t 0 (by omega), hw, rc_end t _ (by omega)]
/-- One rune alone. -/
theorem rc_enc (n : Nat) (h : isR n) : rc (Utf8.encode n) 0 = 1 := by
  have hd := dec_enc n h ByteArray.empty
  rw [ByteArray.append_empty] at hd
  exact rc_one _ n _ hd.1 rfl hd.2.1
end Go.Proofs.YtgnmkhjilecdhaaGreatDoor.T5
namespace Go.Proofs.YtgnmkhjilecdhaaGreatDoor.T5
open Go.RowKit Go.Sort
set_option linter.unusedVariables false
set_option maxRecDepth 100000

theorem hide {p : Prop} (h : p) : Hid p := h
theorem ret_bool {a b : Bool} (h : a = b) : Ending.returned (.bool a) = .returned (.bool b) := by rw [h]
theorem ret_int {k : IntKind} {a b : Int} (h : a = b) : Ending.returned (.int k a) = .returned (.int k b) := by rw [h]
theorem next {a w w' : World} (h : Below a.heap.size a w) (hb : Below w.heap.size w w') : Below a.heap.size a w' := h.trans (hb.mono h.size)
theorem step {a w : World} (h : Below a.heap.size a w) (o : Obj) : Below a.heap.size a (w.alloc o) := h.alloc h.size o
theorem keep1 {W w1 : World} {b o : Nat} {v : Value} (hb : Below W.heap.size W w1) (h : W.cell? ⟨b, o, none⟩ = some v) : w1.cell? ⟨b, o, none⟩ = some v := by
  rw [hb.cell (p := ⟨b, o, none⟩) (block_lt_of_cell h)]; exact h
theorem iter_below (w : World) (s : ByteArray) (p : Nat) : Below w.heap.size w (w.iter s p) := (Below.refl _ _).alloc (Nat.le_refl _) _
/-- internal/bytealg.MaxLen holds some number. -/
def Tab (w : World) : Prop := ∃ m, w.cell? ⟨0, 0, none⟩ = some (.int .i64 m)
theorem Tab.keep {W w1 : World} (h : Tab W) (hb : Below W.heap.size W w1) : Tab w1 := by obtain ⟨m, h⟩ := h; exact ⟨m, keep1 hb h⟩
theorem Tab.alloc {W : World} (h : Tab W) (o : Obj) : Tab (W.alloc o) := h.keep ((Below.refl _ _).alloc (Nat.le_refl _) _)
abbrev no : ByteArray := { data := #[] }
/-- What a call answers, whatever the world, and that it changes nothing that was there; CallT: where MaxLen holds a number. -/
abbrev CallIs (f : Nat) (args : Array Value) (v : Value) : Prop := Hid (∀ w, Calls Tryz.prog f args w fun e w' => e = .returned v ∧ Below w.heap.size w w')
abbrev CallT (f : Nat) (args : Array Value) (v : Value) : Prop := Hid (∀ w, Tab w → Calls Tryz.prog f args w fun e w' => e = .returned v ∧ Below w.heap.size w w')
theorem CallIs.t {f : Nat} {args : Array Value} {v : Value} (h : CallIs f args v) : CallT f args v := fun w _ => h w
theorem no_of {t : ByteArray} (h : t.size = 0) : t = no := by
  obtain ⟨⟨l⟩⟩ := t
  cases l with
  | nil => rfl
  | cons c r => simp [ByteArray.size] at h
end Go.Proofs.YtgnmkhjilecdhaaGreatDoor.T5
namespace Go.Proofs.YtgnmkhjilecdhaaGreatDoor.T5
open Go.RowKit Go.Sort
set_option linter.unusedVariables false
set_option maxRecDepth 100000

theorem len_any (s : ByteArray) (hs : s.size ≤ 9223372036854775807) : CallIs 54 #[.string s] (.int .i64 (rc s 0)) := by
  intro w
  go_enter Tryz.func54, Tryz.ntmps54
  go_wp2
  go_loopw [3] (fun n wr => ∃ pos k : Nat, pos ≤ s.size ∧ wr = w.iter s pos ∧ n = .int .i64 k ∧ k + rc s pos = rc s 0) (fun _ wr => s.size - wr.iterPos w.heap.size)
  case atStart => exact ⟨0, 0, Nat.zero_le _, rfl, rfl, by omega⟩
  case round =>
    obtain ⟨pos, k, hle, rfl, rfl, hc⟩ := hrel
    by_cases hp : pos < s.size
    · have hnx : ∀ ty, (Instr.next (.pointer (some ⟨w.heap.size, 0, none⟩)) true ty).run Tryz.prog (w.iter s pos) = _ := fun ty => run_next_any w s pos ty hp
      have hwd := hide (And.intro (wd_pos s pos hp) (wd_le s pos hp))
      have hst := hide (rc_step s pos hp)
      have hrs := hide (rc_size s)
      have hk1 : (k : Int) + 1 ≤ 9223372036854775807 := by have := hst.out; have := hrs.out; omega
      go_wp2
      go_roundw
      case rel =>
        have := hwd.out; have := hst.out; have := hrs.out
        refine ⟨pos + wd s pos, k + 1, by omega, rfl, ?_, by omega⟩
        go_num
      case measure =>
        have := hwd.out
        simp
        unfold wd at this
        omega
    · have hnx : ∀ ty, (Instr.next (.pointer (some ⟨w.heap.size, 0, none⟩)) true ty).run Tryz.prog (w.iter s pos) = _ := fun ty => run_next_end w s pos ty hp
      have he := hide (rc_end s pos hp)
      go_wp2
      go_ret
      have := he.out
      exact ⟨by rw [show rc s 0 = k by omega]; rfl, iter_below _ _ _⟩

/-- Where the bytes behind the first n runes begin. -/
theorem behind_any (s : ByteArray) (n : Int) (hs : s.size ≤ 9223372036854775807) (hn0 : -9223372036854775808 ≤ n) (hn : n ≤ 9223372036854775807) : CallIs 111 #[.string s, .int .i64 n] (.int .i64 (sk s n.toNat 0)) := by
  intro w
  go_enter Tryz.func111, Tryz.ntmps111
  go_wp2
  go_loopw [1] (fun m wr => ∃ (pos : Nat) (i : Int), pos ≤ s.size ∧ wr = w.iter s pos ∧ m = .int .i64 i ∧ sk s i.toNat pos = sk s n.toNat 0 ∧ (pos = 0 → i = n) ∧ i ≤ 9223372036854775807 ∧ -9223372036854775808 ≤ i) (fun _ wr => s.size - wr.iterPos w.heap.size)
  case atStart => exact ⟨0, n, Nat.zero_le _, rfl, rfl, rfl, fun _ => rfl, hn, hn0⟩
  case round =>
    obtain ⟨pos, i, hle, rfl, rfl, hc, hz, hi, hi0⟩ := hrel
    replace hz := hide hz
    replace hc := hide hc
    by_cases hp : pos < s.size
    · have hnx : ∀ ty, (Instr.next (.pointer (some ⟨w.heap.size, 0, none⟩)) true ty).run Tryz.prog (w.iter s pos) = _ := fun ty => run_next_any w s pos ty hp
      by_cases hi1 : i ≤ 0
      · go_wp2
        go_ret
        have := hc.out
        rw [show i.toNat = 0 by omega] at this
        exact ⟨by rw [← this]; rfl, iter_below _ _ _⟩
      · have hwd := hide (And.intro (wd_pos s pos hp) (wd_le s pos hp))
        have hnd := hide (show nx s pos = pos + wd s pos by unfold nx; rw [if_pos hp])
        have hi2 : -9223372036854775808 ≤ i - 1 := by omega
        have hi3 : i - 1 ≤ 9223372036854775807 := by omega
        go_wp2
        go_roundw
        case rel =>
          have := hwd.out; have h2 := hc.out
          refine ⟨pos + wd s pos, i - 1, by omega, rfl, by go_num, ?_, fun h => by omega, by omega, by omega⟩
          rw [← hnd.out, ← h2, show i.toNat = (i - 1).toNat + 1 by omega]
          rfl
        case measure =>
          have := hwd.out
          simp
          unfold wd at this
          omega
    · have hnx : ∀ ty, (Instr.next (.pointer (some ⟨w.heap.size, 0, none⟩)) true ty).run Tryz.prog (w.iter s pos) = _ := fun ty => run_next_end w s pos ty hp
      go_wp2
      go_ret
      have := hc.out
      rw [sk_end s _ pos hp] at this
      exact ⟨by rw [← this, show pos = s.size by omega]; rfl, iter_below _ _ _⟩
end Go.Proofs.YtgnmkhjilecdhaaGreatDoor.T5
namespace Go.Proofs.YtgnmkhjilecdhaaGreatDoor.T5
open Go.RowKit Go.Sort
set_option linter.unusedVariables false
set_option maxRecDepth 100000

theorem left_no (s : ByteArray) (n : Int) (h : n < 0) : CallIs 57 #[.string s, .int .i64 n] (.tuple #[.string no, .int .i64 1]) := by
  intro w
  go_enter Tryz.func57, Tryz.ntmps57
  go_wp2_with fail
  go_ret2
  exact ⟨rfl, Below.refl _ _⟩
theorem left_yes (s : ByteArray) (n : Int) (hs : s.size ≤ 9223372036854775807) (h : 0 ≤ n) (hn : n ≤ 9223372036854775807) : CallIs 57 #[.string s, .int .i64 n] (.tuple #[.string (s.extract 0 (sk s n.toNat 0)), .int .i64 0]) := by
  intro w
  have HB := behind_any s n hs (by omega) hn
  have hle := sk_le s n.toNat 0 (Nat.zero_le _)
  generalize sk s n.toNat 0 = p at *
  have h' : ¬ n < 0 := by omega
  go_enter Tryz.func57, Tryz.ntmps57
  go_wp2_with (go_at_call 111; refine (HB.out _).mono ?_; rintro e w1 ⟨rfl, hb⟩)
  go_ret2
  exact ⟨rfl, hb⟩
theorem right_no (s : ByteArray) (n : Int) (h : n < 0) : CallIs 59 #[.string s, .int .i64 n] (.tuple #[.string no, .int .i64 1]) := by
  intro w
  go_enter Tryz.func59, Tryz.ntmps59
  go_wp2_with fail
  go_ret2
  exact ⟨rfl, Below.refl _ _⟩
theorem right_yes (s : ByteArray) (n : Int) (hs : s.size ≤ 9223372036854775807) (h : 0 ≤ n) (hn : n ≤ 9223372036854775807) : CallIs 59 #[.string s, .int .i64 n] (.tuple #[.string (s.extract (sk s (rc s 0 - n.toNat) 0) s.size), .int .i64 0]) := by
  intro w
  have hr := rc_size s
  have HL := len_any s hs
  have HB := behind_any s ((rc s 0 : Int) - n) hs (by omega) (by omega)
  rw [show ((rc s 0 : Int) - n).toNat = rc s 0 - n.toNat by omega] at HB
  have hle := sk_le s (rc s 0 - n.toNat) 0 (Nat.zero_le _)
  generalize sk s (rc s 0 - n.toNat) 0 = p at *
  generalize rc s 0 = r at *
  have h' : ¬ n < 0 := by omega
  have w1 : -9223372036854775808 ≤ (r : Int) - n := by omega
  have w2 : (r : Int) - n ≤ 9223372036854775807 := by omega
  go_enter Tryz.func59, Tryz.ntmps59
  go_wp2_with (first | (go_at_call 111; refine (HB.out _).mono ?_; rintro e w2 ⟨rfl, hb2⟩) | (go_at_call 54; refine (HL.out _).mono ?_; rintro e w1 ⟨rfl, hb⟩))
  go_ret2
  exact ⟨rfl, next hb hb2⟩
theorem mid_no (s : ByteArray) (k n : Int) (h : k < 1 ∨ n < 0) : CallIs 61 #[.string s, .int .i64 k, .int .i64 n] (.tuple #[.string no, .int .i64 1]) := by
  intro w
  by_cases h1 : k < 1
  · go_enter Tryz.func61, Tryz.ntmps61
    go_wp2_with fail
    go_ret2
    exact ⟨rfl, Below.refl _ _⟩
  · have h2 : n < 0 := by omega
    go_enter Tryz.func61, Tryz.ntmps61
    go_wp2_with fail
    go_ret2
    exact ⟨rfl, Below.refl _ _⟩
/-- The piece of n runes behind the first k. -/
def midOf (s : ByteArray) (k n : Nat) : ByteArray := s.extract (sk s k 0) (sk s n (sk s k 0))
theorem mid_yes (s : ByteArray) (k n : Int) (hs : s.size ≤ 9223372036854775807) (hk : 1 ≤ k) (hk' : k ≤ 9223372036854775807) (h : 0 ≤ n) (hn : n ≤ 9223372036854775807) :
    CallIs 61 #[.string s, .int .i64 k, .int .i64 n] (.tuple #[.string (midOf s (k - 1).toNat n.toNat), .int .i64 0]) := by
  intro w
  have HB := behind_any s (k - 1) hs (by omega) (by omega)
  have hle := sk_le s (k - 1).toNat 0 (Nat.zero_le _)
  unfold midOf
  generalize sk s (k - 1).toNat 0 = p at *
  have hz := ext_size s p
  have HC := behind_any (s.extract p s.size) n (by omega) (by omega) hn
  have e1 := sk_ext0 s p hle n.toNat
  have e2 := sk_le s n.toNat p hle
  have e3 := sk_ge s n.toNat p
  rw [e1] at HC
  have HX := hide (ext_ext s p (sk s n.toNat p - p) (by omega))
  generalize sk s n.toNat p = q at *
  have e4 : q - p ≤ (s.extract p s.size).size := by omega
  have HX' : Hid ((s.extract p s.size).extract 0 (q - p) = s.extract p q) := by rw [HX.out, show p + (q - p) = q by omega]; exact hide rfl
  clear HX e1 hz
  have a1 : ¬ k < 1 := by omega
  have a2 : ¬ n < 0 := by omega
  have a3 : k - 1 ≤ 9223372036854775807 := by omega
  have a4 : -9223372036854775808 ≤ k - 1 := by omega
  generalize hr : s.extract p s.size = r at *
  generalize hd : q - p = d at *
  rw [← HX'.out]
  clear HX' hd
  replace hr := hide hr
  go_enter Tryz.func61, Tryz.ntmps61
  go_wp2_with fail
  refine (HB.out _).mono ?_
  rintro e w1 ⟨rfl, hb⟩
  have hr' := hr.out
  go_wp2_with fail
  refine (HC.out _).mono ?_
  rintro e w2 ⟨rfl, hb2⟩
  go_wp2_with fail
  go_ret2
  exact ⟨rfl, next hb hb2⟩
theorem code_no : CallIs 80 #[.string no] (.tuple #[.int .i64 0, .int .i64 1]) := by
  intro w
  have hnx : ∀ ty, (Instr.next (.pointer (some ⟨w.heap.size, 0, none⟩)) true ty).run Tryz.prog (w.iter no 0) = _ := fun ty => run_next_end w no 0 ty (by decide)
  go_enter Tryz.func80, Tryz.ntmps80
  go_wp2
  go_loopw [] (fun wr => wr = w.iter no 0) (fun _ => 0)
  case atStart => rfl
  case round =>
    subst hrel
    go_wp2
    go_ret2
    exact ⟨rfl, iter_below _ _ _⟩
theorem code_yes (s : ByteArray) (h : 0 < s.size) : CallIs 80 #[.string s] (.tuple #[.int .i64 (nr s 0), .int .i64 0]) := by
  intro w
  have hnx : ∀ ty, (Instr.next (.pointer (some ⟨w.heap.size, 0, none⟩)) true ty).run Tryz.prog (w.iter s 0) = _ := fun ty => run_next_any w s 0 ty h
  have hl := nr_le s 0
  unfold nr at hl ⊢
  go_enter Tryz.func80, Tryz.ntmps80
  go_wp2
  go_loopw [] (fun wr => wr = w.iter s 0) (fun _ => 0)
  case atStart => rfl
  case round =>
    subst hrel
    go_wp2
    go_ret2
    exact ⟨rfl, iter_below _ _ _⟩
end Go.Proofs.YtgnmkhjilecdhaaGreatDoor.T5
