/- What calc.Call answers of texts: LEN, LEFT, RIGHT, MID, UPPER, LOWER, REVERSE, FIND, REPLACE, REPT. Proved of the Go text. -/
import Derived.Test.YtgnmkhjilecdhaaGreatDoorCkJ
import Derived.Test.YtgnmkhjilecdhaaGreatDoorCtM5
import Derived.Test.YtgnmkhjilecdhaaGreatDoorCase5
import Derived.Test.YtgnmkhjilecdhaaGreatDoorTimes5
namespace Go.Proofs.YtgnmkhjilecdhaaGreatDoor
open Go.RowKit Go.Sort
set_option linter.unusedVariables false

abbrev vxT (s : ByteArray) : Va := ⟨3, 0, s⟩
abbrev vxN (n : Int) : Va := ⟨1, n, no⟩
theorem fun_of (k : Nat) (hk : k < 35) (nm : ByteArray) (mn mx : Int) (h : T9.tab[k]? = some (nm, mn, mx)) (asks : ByteArray) (fn : Nat) (hr : rtab[k]? = some (asks, fn)) (hf : fn ≠ 0) (hent : ∀ args w, (callFunc fn args).run Tryz.prog w = .ok (.enter fn args) w) (xs ys : List Va) (out : Va) (hl : xs.length ≤ 4) (hmn : ¬ (xs.length : Int) < mn) (hmx : ¬ mx < (xs.length : Int)) (hg : ∀ x ∈ xs, Good x.k x.i x.t) (hx : fe xs = none) (hy : fe ys = none) (hlk : LookIs asks xs ys) (hyl : ys.length ≤ 4) (hd : DoIs fn ys out) : FunIs ((k : Int) + 1) xs out := by
  intro w ad cap HT hv
  have m4 : 4 ≤ maxLen := by unfold maxLen; decide
  have := callS k hk nm mn mx h asks fn hr hf hent xs ys out ad cap w HT hv (Nat.le_trans hl m4) hmn hmx hg (fun _ => hlk) (Nat.le_trans hyl m4) (fun _ _ => hd)
  rw [scV_out hx hy] at this
  exact this
theorem gd1 {x : Va} (h : Good x.k x.i x.t) : ∀ y ∈ [x], Good y.k y.i y.t := fun y hy => by rcases List.mem_cons.1 hy with rfl | hy; exact h; cases hy
theorem gdC {x : Va} {l : List Va} (h : Good x.k x.i x.t) (hl : ∀ y ∈ l, Good y.k y.i y.t) : ∀ y ∈ x :: l, Good y.k y.i y.t := fun y hy => by rcases List.mem_cons.1 hy with rfl | hy; exact h; exact hl y hy
theorem gT {s : ByteArray} (h : s.size ≤ 32767) : Good (vxT s).k (vxT s).i (vxT s).t := good_text h
theorem gN (n : Int) : Good (vxN n).k (vxN n).i (vxN n).t := good_int n
theorem rowT16 : rtab[15]? = some (⟨#[116]⟩, 53) := by kernel_rfl
theorem tabT16 : T9.tab[15]? = some (⟨#[76, 69, 78]⟩, 1, 1) := by kernel_rfl
theorem rowT17 : rtab[16]? = some (⟨#[116, 110]⟩, 55) := by kernel_rfl
theorem tabT17 : T9.tab[16]? = some (⟨#[76, 69, 70, 84]⟩, 1, 2) := by kernel_rfl
theorem rowT18 : rtab[17]? = some (⟨#[116, 110]⟩, 58) := by kernel_rfl
theorem tabT18 : T9.tab[17]? = some (⟨#[82, 73, 71, 72, 84]⟩, 1, 2) := by kernel_rfl
theorem rowT19 : rtab[18]? = some (⟨#[116, 110, 110]⟩, 60) := by kernel_rfl
theorem tabT19 : T9.tab[18]? = some (⟨#[77, 73, 68]⟩, 3, 3) := by kernel_rfl
theorem rowT20 : rtab[19]? = some (⟨#[116]⟩, 62) := by kernel_rfl
theorem tabT20 : T9.tab[19]? = some (⟨#[85, 80, 80, 69, 82]⟩, 1, 1) := by kernel_rfl
theorem rowT21 : rtab[20]? = some (⟨#[116]⟩, 65) := by kernel_rfl
theorem tabT21 : T9.tab[20]? = some (⟨#[76, 79, 87, 69, 82]⟩, 1, 1) := by kernel_rfl
theorem rowT23 : rtab[22]? = some (⟨#[116]⟩, 69) := by kernel_rfl
theorem tabT23 : T9.tab[22]? = some (⟨#[82, 69, 86, 69, 82, 83, 69]⟩, 1, 1) := by kernel_rfl
theorem rowT24 : rtab[23]? = some (⟨#[116, 116, 110]⟩, 71) := by kernel_rfl
theorem tabT24 : T9.tab[23]? = some (⟨#[70, 73, 78, 68]⟩, 2, 3) := by kernel_rfl
theorem rowT26 : rtab[25]? = some (⟨#[116, 110, 110, 116]⟩, 74) := by kernel_rfl
theorem tabT26 : T9.tab[25]? = some (⟨#[82, 69, 80, 76, 65, 67, 69]⟩, 4, 4) := by kernel_rfl
theorem rowT27 : rtab[26]? = some (⟨#[116, 110]⟩, 75) := by kernel_rfl
theorem tabT27 : T9.tab[26]? = some (⟨#[82, 69, 80, 84]⟩, 2, 2) := by kernel_rfl
theorem f_len (s : ByteArray) (hs : s.size ≤ 32767) : FunIs 16 [vxT s] (vxN (T5.rc s 0)) := fun_of 15 (by decide) _ 1 1 tabT16 _ _ rowT16 (by decide) ent16 _ _ _ (by show 1 ≤ 4; decide) (by show ¬ ((1 : Nat) : Int) < 1; decide) (by show ¬ (1 : Int) < ((1 : Nat) : Int); decide) (gd1 (gT hs)) rfl rfl (look1 116 _ _ (as_txt s hs)) (by show 1 ≤ 4; decide) (do1 fun b' o cap w hT c0 => do_len (vxT s) _ 1 _ no (ci5 (T5.len_any s (by omega))) (cnumber_is _) b' o cap w hT c0)
theorem f_left (s : ByteArray) (hs : s.size ≤ 32767) (n : Int) (h0 : 0 ≤ n) (hn : n ≤ 9223372036854775807) : FunIs 17 [vxT s, vxN n] (vxT (s.extract 0 (T5.sk s n.toNat 0))) := fun_of 16 (by decide) _ 1 2 tabT17 _ _ rowT17 (by decide) ent17 _ _ _ (by show 2 ≤ 4; decide) (by show ¬ ((2 : Nat) : Int) < 1; decide) (by show ¬ (2 : Int) < ((2 : Nat) : Int); decide) (gdC (gT hs) (gd1 (gN n))) rfl rfl (look2 116 110 _ _ _ _ (as_txt s hs) (as_int n)) (by show 2 ≤ 4; decide) (do2 fun b' o cap w hT c0 c1 => do_left (vxT s) (vxN n) _ 0 3 0 _ (ci5 (T5.left_yes s n (by omega) h0 hn)) (writ_ok _) b' o cap w hT c0 c1)
theorem f_right (s : ByteArray) (hs : s.size ≤ 32767) (n : Int) (h0 : 0 ≤ n) (hn : n ≤ 9223372036854775807) : FunIs 18 [vxT s, vxN n] (vxT (s.extract (T5.sk s (T5.rc s 0 - n.toNat) 0) s.size)) := fun_of 17 (by decide) _ 1 2 tabT18 _ _ rowT18 (by decide) ent18 _ _ _ (by show 2 ≤ 4; decide) (by show ¬ ((2 : Nat) : Int) < 1; decide) (by show ¬ (2 : Int) < ((2 : Nat) : Int); decide) (gdC (gT hs) (gd1 (gN n))) rfl rfl (look2 116 110 _ _ _ _ (as_txt s hs) (as_int n)) (by show 2 ≤ 4; decide) (do2 fun b' o cap w hT c0 c1 => do_right (vxT s) (vxN n) _ 0 3 0 _ (ci5 (T5.right_yes s n (by omega) h0 hn)) (writ_ok _) b' o cap w hT c0 c1)
theorem f_mid (s : ByteArray) (hs : s.size ≤ 32767) (f : Int) (hf : 1 ≤ f) (hf2 : f ≤ 9223372036854775807) (n : Int) (h0 : 0 ≤ n) (hn : n ≤ 9223372036854775807) : FunIs 19 [vxT s, vxN f, vxN n] (vxT (T5.midOf s (f - 1).toNat n.toNat)) := fun_of 18 (by decide) _ 3 3 tabT19 _ _ rowT19 (by decide) ent19 _ _ _ (by show 3 ≤ 4; decide) (by show ¬ ((3 : Nat) : Int) < 3; decide) (by show ¬ (3 : Int) < ((3 : Nat) : Int); decide) (gdC (gT hs) (gdC (gN f) (gd1 (gN n)))) rfl rfl (look3 116 110 110 _ _ _ _ _ _ (as_txt s hs) (as_int f) (as_int n)) (by show 3 ≤ 4; decide) (do3 fun b' o cap w hT c0 c1 c2 => do_mid (vxT s) (vxN f) (vxN n) _ 0 3 0 _ (ci5 (T5.mid_yes s f n (by omega) hf hf2 h0 hn)) (writ_ok _) b' o cap w hT c0 c1 c2)
theorem f_upper (s : ByteArray) (hs : s.size ≤ 32767) : FunIs 20 [vxT s] (vxT (T5.casB 97 65 s)) := fun_of 19 (by decide) _ 1 1 tabT20 _ _ rowT20 (by decide) ent20 _ _ _ (by show 1 ≤ 4; decide) (by show ¬ ((1 : Nat) : Int) < 1; decide) (by show ¬ (1 : Int) < ((1 : Nat) : Int); decide) (gd1 (gT hs)) rfl rfl (look1 116 _ _ (as_txt s hs)) (by show 1 ≤ 4; decide) (do1 fun b' o cap w hT c0 => do_upper (vxT s) _ 3 0 _ (ci5 (T5.upper_any s (by omega))) (ctext_is _) b' o cap w hT c0)
theorem f_lower (s : ByteArray) (hs : s.size ≤ 32767) : FunIs 21 [vxT s] (vxT (T5.casB 65 97 s)) := fun_of 20 (by decide) _ 1 1 tabT21 _ _ rowT21 (by decide) ent21 _ _ _ (by show 1 ≤ 4; decide) (by show ¬ ((1 : Nat) : Int) < 1; decide) (by show ¬ (1 : Int) < ((1 : Nat) : Int); decide) (gd1 (gT hs)) rfl rfl (look1 116 _ _ (as_txt s hs)) (by show 1 ≤ 4; decide) (do1 fun b' o cap w hT c0 => do_lower (vxT s) _ 3 0 _ (ci5 (T5.lower_any s (by omega))) (ctext_is _) b' o cap w hT c0)
theorem f_turn (s : ByteArray) (hs : s.size ≤ 32767) : FunIs 23 [vxT s] (vxT (T5.turned s)) := fun_of 22 (by decide) _ 1 1 tabT23 _ _ rowT23 (by decide) ent23 _ _ _ (by show 1 ≤ 4; decide) (by show ¬ ((1 : Nat) : Int) < 1; decide) (by show ¬ (1 : Int) < ((1 : Nat) : Int); decide) (gd1 (gT hs)) rfl rfl (look1 116 _ _ (as_txt s hs)) (by show 1 ≤ 4; decide) (do1 fun b' o cap w hT c0 => do_turn (vxT s) _ 3 0 _ (ci5 (T5.turn_any s (by omega))) (ctext_is _) b' o cap w hT c0)
theorem f_find (u : ByteArray) (hu : u.size ≤ 32767) (s : ByteArray) (hs : s.size ≤ 32767) (q : Nat) (hq : T5.fnd s u (T5.rc s 0 + 2 - 1) 1 = some q) : FunIs 24 [vxT u, vxT s] (vxN q) := fun_of 23 (by decide) _ 2 3 tabT24 _ _ rowT24 (by decide) ent24 _ _ _ (by show 2 ≤ 4; decide) (by show ¬ ((2 : Nat) : Int) < 2; decide) (by show ¬ (3 : Int) < ((2 : Nat) : Int); decide) (gdC (gT hu) (gd1 (gT hs))) rfl rfl (look32 116 116 110 _ _ _ _ (as_txt u hu) (as_txt s hs)) (by show 3 ≤ 4; decide) (do3 fun b' o cap w hT c0 c1 c2 => do_find (vxT u) (vxT s) (vxN 1) q 0 1 _ no (cb5 (by have h := T5.find_yes u s 1 (by omega) (by decide) (by omega); rw [hq] at h; exact h)) (count_ok _) b' o cap w hT c0 c1 c2)
theorem cat3_app (a u b : ByteArray) : cat3 a u b = a ++ u ++ b := by
  have : (cat3 a u b).data.toList = (a ++ u ++ b).data.toList := by
    rw [ByteArray.data_append, ByteArray.data_append, Array.toList_append, Array.toList_append, List.append_assoc]
    rfl
  apply ByteArray.ext
  exact Array.toList_inj.1 this
theorem f_repl (s : ByteArray) (hs : s.size ≤ 32767) (u : ByteArray) (hu : u.size ≤ 32767) (f n : Nat) (hf : 1 ≤ f) (hf2 : f ≤ 100000) (hn : n ≤ 100000) (hl : T5.sk s (f - 1) 0 + u.size + (s.size - T5.sk s n (T5.sk s (f - 1) 0)) ≤ 32767) : FunIs 26 [vxT s, vxN f, vxN n, vxT u] (vxT (s.extract 0 (T5.sk s (f - 1) 0) ++ u ++ s.extract (T5.sk s n (T5.sk s (f - 1) 0)) s.size)) := by
  have h1 := T5.sk_le s (f - 1) 0 (Nat.zero_le _)
  have h2 := T5.sk_le s n (T5.sk s (f - 1) 0) h1
  have h3 := T5.sk_ge s n (T5.sk s (f - 1) 0)
  have e1 : ((f : Int) - 1).toNat = f - 1 := by omega
  have za : (s.extract 0 (T5.sk s (f - 1) 0)).size = T5.sk s (f - 1) 0 := by rw [ByteArray.size_extract]; omega
  have zm : (T5.midOf s (f - 1) n).size = T5.sk s n (T5.sk s (f - 1) 0) - T5.sk s (f - 1) 0 := by rw [T5.midOf, ByteArray.size_extract]; omega
  have zs : (s.extract 0 (T5.sk s (f - 1) 0)).size + (T5.midOf s (f - 1) n).size = T5.sk s n (T5.sk s (f - 1) 0) := by rw [za, zm]; omega
  have HM := T5.mid_yes s f n (by omega) (by omega) (by omega) (by omega) (by omega)
  have HL := T5.left_yes s ((f : Int) - 1) (by omega) (by omega) (by omega)
  rw [e1, Int.toNat_natCast] at HM
  rw [e1] at HL
  have zt : (s.extract (T5.sk s n (T5.sk s (f - 1) 0)) s.size).size = s.size - T5.sk s n (T5.sk s (f - 1) 0) := T5.ext_size s _
  have hd : DoIs 74 [vxT s, vxN f, vxN n, vxT u] (vxT (s.extract 0 (T5.sk s (f - 1) 0) ++ u ++ s.extract (T5.sk s n (T5.sk s (f - 1) 0)) s.size)) := do4 fun b' o cap w hT c0 c1 c2 c3 => by
    have := do_repl (vxT s) (vxN f) (vxN n) (vxT u) (s.extract 0 (T5.sk s (f - 1) 0)) (T5.midOf s (f - 1) n) 0 (by rw [zs]; exact h2) (by rw [zs, za, zt]; simp only; omega) (by rw [IntWalk.wrap64_in]; constructor <;> simp only <;> omega) (by rw [IntWalk.wrap64_in]; constructor <;> omega) (ci5 HM) (ci5 HL) b' o cap w hT c0 c1 c2 c3
    rw [zs, cat3_app] at this
    have hc : chV (s.extract 0 (T5.sk s (f - 1) 0) ++ u ++ s.extract (T5.sk s n (T5.sk s (f - 1) 0)) s.size) = vxT (s.extract 0 (T5.sk s (f - 1) 0) ++ u ++ s.extract (T5.sk s n (T5.sk s (f - 1) 0)) s.size) := by
      unfold chV
      rw [if_pos (by rw [ByteArray.size_append, ByteArray.size_append, za, zt]; omega)]
    rw [show (vxT u).t = u from rfl, show (vxT s).t = s from rfl, hc] at this
    exact this
  exact fun_of 25 (by decide) _ 4 4 tabT26 _ _ rowT26 (by decide) ent26 _ _ _ (by show 4 ≤ 4; decide) (by show ¬ ((4 : Nat) : Int) < 4; decide) (by show ¬ (4 : Int) < ((4 : Nat) : Int); decide) (gdC (gT hs) (gdC (gN f) (gdC (gN n) (gd1 (gT hu))))) rfl rfl (look4 116 110 110 116 _ _ _ _ _ _ _ _ (as_txt s hs) (as_int f) (as_int n) (as_txt u hu)) (by show 4 ≤ 4; decide) (hd)
theorem rep_size (s : ByteArray) (n : Nat) : (T5.rep s n).size = s.size * n := by
  show (Lib.repeatL s.data.toList n).toArray.size = _
  rw [List.size_toArray]
  induction n with
  | zero => rfl
  | succ n ih => first | (rw [Lib.repeatL, List.length_append, ih, Nat.mul_succ, T5.sz_list]; omega) | (simp [Lib.repeatL, ih, Nat.mul_succ]; omega)
/-- REPT: too long is an error, else as long as so many times the text. -/
theorem f_rept (s : ByteArray) (hs : s.size ≤ 32767) (n : Nat) (hn : n ≤ 100000) : ∃ out, FunIs 27 [vxT s, vxN n] out ∧ ((32767 < s.size * n ∧ out = ⟨4, 4, no⟩) ∨ (s.size * n ≤ 32767 ∧ ∃ r : ByteArray, out = vxT r ∧ r.size = s.size * n)) := by
  have base := fun (r : ByteArray) (e : Int) (out : Va) (HO : CallB 76 #[.string s, .int .i64 n] (.tuple #[.string r, .int .i64 e])) (HR : CallIs 56 #[.string r, .int .i64 e] out.v) => show FunIs 27 [vxT s, vxN n] out from fun_of 26 (by decide) _ 2 2 tabT27 _ _ rowT27 (by decide) ent27 _ _ _ (by show 2 ≤ 4; decide) (by show ¬ ((2 : Nat) : Int) < 2; decide) (by show ¬ (2 : Int) < ((2 : Nat) : Int); decide) (gdC (gT hs) (gd1 (gN n))) rfl rfl (look2 116 110 _ _ _ _ (as_txt s hs) (as_int n)) (by show 2 ≤ 4; decide) (do2 fun b' o cap w hT c0 c1 => do_rept (vxT s) (vxN n) r e out.k out.i out.t HO HR b' o cap w hT c0 c1)
  by_cases h : 0 < s.size
  · by_cases h1 : n ≤ 32767 / s.size
    · have h2 : s.size * n ≤ 32767 := by rw [Nat.mul_comm]; exact (Nat.le_div_iff_mul_le h).1 h1
      exact ⟨_, base _ _ (vxT (T5.rep s n)) (ci5 (T5.times_yes s n h h1)) (writ_ok _), .inr ⟨h2, _, rfl, rep_size s n⟩⟩
    · have h2 : ¬ s.size * n ≤ 32767 := by rw [Nat.mul_comm]; exact fun e => h1 ((Nat.le_div_iff_mul_le h).2 e)
      exact ⟨_, base _ _ ⟨4, 4, no⟩ (ci5 (T5.times_long s n h (by omega))) (writ_no _ 2 rfl), .inl ⟨by omega, rfl⟩⟩
  · have hz : s.size = 0 := by omega
    have hs0 : s = no := T5.no_of hz
    subst hs0
    exact ⟨_, base _ _ (vxT no) (ci5 (T5.times_empty n (by omega))) (writ_ok _), .inr ⟨by rw [hz, Nat.zero_mul]; decide, no, rfl, by rw [hz, Nat.zero_mul]⟩⟩
end Go.Proofs.YtgnmkhjilecdhaaGreatDoor
