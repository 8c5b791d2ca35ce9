/- The fixed calls that each law of stage 14 asks ahead, one by one. The calls that each law of stage 14 asks ahead answer as the document fixes them. Proved of the Go text. -/
import Derived.Test.YtgnmkhjilecdhaaGreatDoorC14J
import Derived.Test.YtgnmkhjilecdhaaGreatDoorDoA14
import Derived.Test.YtgnmkhjilecdhaaGreatDoorDoT14
import Derived.Test.YtgnmkhjilecdhaaGreatDoorK5J
namespace Go.Proofs.YtgnmkhjilecdhaaGreatDoor
open Go.RowKit Go.Sort
set_option linter.unusedVariables false

theorem ent1 : ∀ args w, (callFunc 32 args).run Tryz.prog w = .ok (.enter 32 args) w := enters_of Tryz.func32 (by kernel_rfl) rfl
theorem ent2 : ∀ args w, (callFunc 33 args).run Tryz.prog w = .ok (.enter 33 args) w := enters_of Tryz.func33 (by kernel_rfl) rfl
theorem ent3 : ∀ args w, (callFunc 35 args).run Tryz.prog w = .ok (.enter 35 args) w := enters_of Tryz.func35 (by kernel_rfl) rfl
theorem ent4 : ∀ args w, (callFunc 37 args).run Tryz.prog w = .ok (.enter 37 args) w := enters_of Tryz.func37 (by kernel_rfl) rfl
theorem ent5 : ∀ args w, (callFunc 38 args).run Tryz.prog w = .ok (.enter 38 args) w := enters_of Tryz.func38 (by kernel_rfl) rfl
theorem ent6 : ∀ args w, (callFunc 40 args).run Tryz.prog w = .ok (.enter 40 args) w := enters_of Tryz.func40 (by kernel_rfl) rfl
theorem ent7 : ∀ args w, (callFunc 42 args).run Tryz.prog w = .ok (.enter 42 args) w := enters_of Tryz.func42 (by kernel_rfl) rfl
theorem ent8 : ∀ args w, (callFunc 44 args).run Tryz.prog w = .ok (.enter 44 args) w := enters_of Tryz.func44 (by kernel_rfl) rfl
theorem ent9 : ∀ args w, (callFunc 45 args).run Tryz.prog w = .ok (.enter 45 args) w := enters_of Tryz.func45 (by kernel_rfl) rfl
theorem ent10 : ∀ args w, (callFunc 46 args).run Tryz.prog w = .ok (.enter 46 args) w := enters_of Tryz.func46 (by kernel_rfl) rfl
theorem ent11 : ∀ args w, (callFunc 47 args).run Tryz.prog w = .ok (.enter 47 args) w := enters_of Tryz.func47 (by kernel_rfl) rfl
theorem ent12 : ∀ args w, (callFunc 49 args).run Tryz.prog w = .ok (.enter 49 args) w := enters_of Tryz.func49 (by kernel_rfl) rfl
theorem ent13 : ∀ args w, (callFunc 50 args).run Tryz.prog w = .ok (.enter 50 args) w := enters_of Tryz.func50 (by kernel_rfl) rfl
theorem ent14 : ∀ args w, (callFunc 51 args).run Tryz.prog w = .ok (.enter 51 args) w := enters_of Tryz.func51 (by kernel_rfl) rfl
theorem ent15 : ∀ args w, (callFunc 52 args).run Tryz.prog w = .ok (.enter 52 args) w := enters_of Tryz.func52 (by kernel_rfl) rfl
theorem ent16 : ∀ args w, (callFunc 53 args).run Tryz.prog w = .ok (.enter 53 args) w := enters_of Tryz.func53 (by kernel_rfl) rfl
theorem ent17 : ∀ args w, (callFunc 55 args).run Tryz.prog w = .ok (.enter 55 args) w := enters_of Tryz.func55 (by kernel_rfl) rfl
theorem ent18 : ∀ args w, (callFunc 58 args).run Tryz.prog w = .ok (.enter 58 args) w := enters_of Tryz.func58 (by kernel_rfl) rfl
theorem ent19 : ∀ args w, (callFunc 60 args).run Tryz.prog w = .ok (.enter 60 args) w := enters_of Tryz.func60 (by kernel_rfl) rfl
theorem ent20 : ∀ args w, (callFunc 62 args).run Tryz.prog w = .ok (.enter 62 args) w := enters_of Tryz.func62 (by kernel_rfl) rfl
theorem ent21 : ∀ args w, (callFunc 65 args).run Tryz.prog w = .ok (.enter 65 args) w := enters_of Tryz.func65 (by kernel_rfl) rfl
theorem ent22 : ∀ args w, (callFunc 67 args).run Tryz.prog w = .ok (.enter 67 args) w := enters_of Tryz.func67 (by kernel_rfl) rfl
theorem ent23 : ∀ args w, (callFunc 69 args).run Tryz.prog w = .ok (.enter 69 args) w := enters_of Tryz.func69 (by kernel_rfl) rfl
theorem ent24 : ∀ args w, (callFunc 71 args).run Tryz.prog w = .ok (.enter 71 args) w := enters_of Tryz.func71 (by kernel_rfl) rfl
theorem ent25 : ∀ args w, (callFunc 72 args).run Tryz.prog w = .ok (.enter 72 args) w := enters_of Tryz.func72 (by kernel_rfl) rfl
theorem ent26 : ∀ args w, (callFunc 74 args).run Tryz.prog w = .ok (.enter 74 args) w := enters_of Tryz.func74 (by kernel_rfl) rfl
theorem ent27 : ∀ args w, (callFunc 75 args).run Tryz.prog w = .ok (.enter 75 args) w := enters_of Tryz.func75 (by kernel_rfl) rfl
theorem ent28 : ∀ args w, (callFunc 77 args).run Tryz.prog w = .ok (.enter 77 args) w := enters_of Tryz.func77 (by kernel_rfl) rfl
theorem ent29 : ∀ args w, (callFunc 78 args).run Tryz.prog w = .ok (.enter 78 args) w := enters_of Tryz.func78 (by kernel_rfl) rfl
theorem ent30 : ∀ args w, (callFunc 81 args).run Tryz.prog w = .ok (.enter 81 args) w := enters_of Tryz.func81 (by kernel_rfl) rfl
theorem ent31 : ∀ args w, (callFunc 83 args).run Tryz.prog w = .ok (.enter 83 args) w := enters_of Tryz.func83 (by kernel_rfl) rfl
theorem ent32 : ∀ args w, (callFunc 84 args).run Tryz.prog w = .ok (.enter 84 args) w := enters_of Tryz.func84 (by kernel_rfl) rfl
theorem ent33 : ∀ args w, (callFunc 85 args).run Tryz.prog w = .ok (.enter 85 args) w := enters_of Tryz.func85 (by kernel_rfl) rfl
theorem ent34 : ∀ args w, (callFunc 86 args).run Tryz.prog w = .ok (.enter 86 args) w := enters_of Tryz.func86 (by kernel_rfl) rfl
theorem ent35 : ∀ args w, (callFunc 87 args).run Tryz.prog w = .ok (.enter 87 args) w := enters_of Tryz.func87 (by kernel_rfl) rfl
theorem ent36 : ∀ args w, (callFunc 88 args).run Tryz.prog w = .ok (.enter 88 args) w := enters_of Tryz.func88 (by kernel_rfl) rfl
theorem ent37 : ∀ args w, (callFunc 89 args).run Tryz.prog w = .ok (.enter 89 args) w := enters_of Tryz.func89 (by kernel_rfl) rfl
theorem ent38 : ∀ args w, (callFunc 90 args).run Tryz.prog w = .ok (.enter 90 args) w := enters_of Tryz.func90 (by kernel_rfl) rfl
theorem ent39 : ∀ args w, (callFunc 91 args).run Tryz.prog w = .ok (.enter 91 args) w := enters_of Tryz.func91 (by kernel_rfl) rfl
theorem ent40 : ∀ args w, (callFunc 92 args).run Tryz.prog w = .ok (.enter 92 args) w := enters_of Tryz.func92 (by kernel_rfl) rfl
theorem ent41 : ∀ args w, (callFunc 93 args).run Tryz.prog w = .ok (.enter 93 args) w := enters_of Tryz.func93 (by kernel_rfl) rfl
theorem cb5 {f : Nat} {args : Array Value} {v : Value} (h : T5.CallT f args v) : CallB f args v := fun w ht => h w ht.2
theorem ci5 {f : Nat} {args : Array Value} {v : Value} (h : T5.CallIs f args v) : CallB f args v := fun w _ => h w
abbrev T' (l : List UInt8) : ByteArray := ⟨l.toArray⟩
abbrev tabcd : ByteArray := { data := #[97, 98, 99, 100] }
abbrev tX : ByteArray := { data := #[88] }
abbrev taXd : ByteArray := { data := #[97, 88, 100] }
abbrev tx : ByteArray := { data := #[120] }
theorem mod_is (a b : Int) (hb : lo ≤ b) (hb' : b ≤ hi) (zb : b ≠ 0) : CallIs 36 #[.int .i64 a, .int .i64 b] (iiV (modV (a.tmod b) b) 0) := same_is fun w => mod_ok a b (a.tmod b) w rfl hb hb' zb
theorem quo_is (a b : Int) (ha : lo ≤ a) (ha' : a ≤ hi) (zb : b ≠ 0) (hn : ¬ (a = -9223372036854775808 ∧ b = -1)) : CallIs 23 #[.int .i64 a, .int .i64 b] (iiV (a.tdiv b) 0) := same_is fun w => quo_ok a b (a.tdiv b) w rfl ha ha' zb hn
theorem bg1 (w : World) (HT : Tb w) : Calls Tryz.prog 6 #[.int .i64 3, .slice (some ⟨w.heap.size, 0, none⟩) 2 2] (w.alloc (.cells #[.int .i64 1, .int .i64 (-7), .string no, .int .i64 1, .int .i64 2, .string no] 30)) fun e w' => e = .returned (.tuple #[vV 1 1 no, .int .i64 0]) ∧ Below (w.alloc (.cells #[.int .i64 1, .int .i64 (-7), .string no, .int .i64 1, .int .i64 2, .string no] 30)).heap.size (w.alloc (.cells #[.int .i64 1, .int .i64 (-7), .string no, .int .i64 1, .int .i64 2, .string no] 30)) w' := by
  have := callS 2 (by decide) _ _ _ rfl _ _ rfl (by decide) ent3 [⟨1, -7, no⟩, ⟨1, 2, no⟩] [⟨1, -7, no⟩, ⟨1, 2, no⟩] ⟨1, 1, no⟩ _ 2 _ (HT.alloc _) (vals2 w ⟨1, -7, no⟩ ⟨1, 2, no⟩) (by show 2 ≤ maxLen; unfold maxLen; decide) (by decide) (by decide) (by intro x hx; rcases List.mem_cons.1 hx with rfl | hx; exact good_int _; rcases List.mem_cons.1 hx with rfl | hx; exact good_int _; cases hx)
    (fun _ => look2 110 110 _ _ _ _ (as_int _) (as_int _)) (by show 2 ≤ maxLen; unfold maxLen; decide) (fun _ _ => do2 (fun b o cap w hT c0 c1 => do_mod _ _ 1 0 1 1 no (mod_is (-7) 2 (by decide) (by decide) (by decide)) (reck_ok 1) b o cap w hT c0 c1))
  exact this
theorem bg3 (w : World) (HT : Tb w) : Calls Tryz.prog 6 #[.int .i64 3, .slice (some ⟨w.heap.size, 0, none⟩) 2 2] (w.alloc (.cells #[.int .i64 3, .int .i64 0, .string tx, .int .i64 4, .int .i64 3, .string no] 30)) fun e w' => e = .returned (.tuple #[vV 4 3 no, .int .i64 0]) ∧ Below (w.alloc (.cells #[.int .i64 3, .int .i64 0, .string tx, .int .i64 4, .int .i64 3, .string no] 30)).heap.size (w.alloc (.cells #[.int .i64 3, .int .i64 0, .string tx, .int .i64 4, .int .i64 3, .string no] 30)) w' := by
  have := callS 2 (by decide) _ _ _ rfl _ _ rfl (by decide) ent3 [⟨3, 0, tx⟩, ⟨4, 3, no⟩] [] ⟨1, 1, no⟩ _ 2 _ (HT.alloc _) (vals2 w ⟨3, 0, tx⟩ ⟨4, 3, no⟩) (by show 2 ≤ maxLen; unfold maxLen; decide) (by decide) (by decide) (by intro x hx; rcases List.mem_cons.1 hx with rfl | hx; exact good_text (by decide +kernel); rcases List.mem_cons.1 hx with rfl | hx; exact good_err (by decide); cases hx)
    (fun h => by cases h) (by show 0 ≤ maxLen; exact Nat.zero_le _) (fun h _ => by cases h)
  exact this
theorem bg2 (w : World) (HT : Tb w) : Calls Tryz.prog 6 #[.int .i64 26, .slice (some ⟨w.heap.size, 0, none⟩) 4 4] (w.alloc (.cells #[.int .i64 3, .int .i64 0, .string tabcd, .int .i64 1, .int .i64 2, .string no, .int .i64 1, .int .i64 2, .string no, .int .i64 3, .int .i64 0, .string tX] 30)) fun e w' => e = .returned (.tuple #[vV 3 0 taXd, .int .i64 0]) ∧ Below (w.alloc (.cells #[.int .i64 3, .int .i64 0, .string tabcd, .int .i64 1, .int .i64 2, .string no, .int .i64 1, .int .i64 2, .string no, .int .i64 3, .int .i64 0, .string tX] 30)).heap.size (w.alloc (.cells #[.int .i64 3, .int .i64 0, .string tabcd, .int .i64 1, .int .i64 2, .string no, .int .i64 1, .int .i64 2, .string no, .int .i64 3, .int .i64 0, .string tX] 30)) w' := by
  have hM : CallB 61 #[.string tabcd, .int .i64 2, .int .i64 2] (.tuple #[.string ⟨#[98, 99]⟩, .int .i64 0]) := by
    have h := T5.mid_yes tabcd 2 2 (by decide +kernel) (by decide) (by decide) (by decide) (by decide)
    have e : T5.midOf tabcd (2 - 1 : Int).toNat (2 : Int).toNat = ⟨#[98, 99]⟩ := by decide +kernel
    rw [e] at h
    exact ci5 h
  have hL : CallB 57 #[.string tabcd, .int .i64 (2 - 1)] (.tuple #[.string ⟨#[97]⟩, .int .i64 0]) := by
    have h := T5.left_yes tabcd 1 (by decide +kernel) (by decide) (by decide)
    have e : tabcd.extract 0 (T5.sk tabcd (1 : Int).toNat 0) = ⟨#[97]⟩ := by decide +kernel
    rw [e] at h
    exact ci5 h
  have hO : chV (cat3 ⟨#[97]⟩ tX (tabcd.extract (1 + 2) 4)) = ⟨3, 0, taXd⟩ := by
    have e1 : cat3 ⟨#[97]⟩ tX (tabcd.extract (1 + 2) 4) = taXd := by decide +kernel
    rw [e1]
    unfold chV
    rw [if_pos (by decide +kernel)]
  have hd : DoIs 74 [⟨3, 0, tabcd⟩, ⟨1, 2, no⟩, ⟨1, 2, no⟩, ⟨3, 0, tX⟩] ⟨3, 0, taXd⟩ := do4 (fun b o cap w hT c0 c1 c2 c3 => by
    have := do_repl ⟨3, 0, tabcd⟩ ⟨1, 2, no⟩ ⟨1, 2, no⟩ ⟨3, 0, tX⟩ ⟨#[97]⟩ ⟨#[98, 99]⟩ 0 (by decide +kernel) (by decide +kernel) (by decide +kernel) (by decide +kernel) hM hL b o cap w hT c0 c1 c2 c3
    have e : (chV (cat3 ⟨#[97]⟩ tX (tabcd.extract ((⟨#[97]⟩ : ByteArray).size + (⟨#[98, 99]⟩ : ByteArray).size) tabcd.size))) = ⟨3, 0, taXd⟩ := hO
    rw [e] at this
    exact this)
  have := callS 25 (by decide) _ _ _ rfl _ _ rfl (by decide) ent26 [⟨3, 0, tabcd⟩, ⟨1, 2, no⟩, ⟨1, 2, no⟩, ⟨3, 0, tX⟩] [⟨3, 0, tabcd⟩, ⟨1, 2, no⟩, ⟨1, 2, no⟩, ⟨3, 0, tX⟩] ⟨3, 0, taXd⟩ _ 4 _ (HT.alloc _) (vals4 w ⟨3, 0, tabcd⟩ ⟨1, 2, no⟩ ⟨1, 2, no⟩ ⟨3, 0, tX⟩) (by show 4 ≤ maxLen; unfold maxLen; decide) (by decide) (by decide)
    (by intro x hx; rcases List.mem_cons.1 hx with rfl | hx; exact good_text (by decide +kernel); rcases List.mem_cons.1 hx with rfl | hx; exact good_int _; rcases List.mem_cons.1 hx with rfl | hx; exact good_int _; rcases List.mem_cons.1 hx with rfl | hx; exact good_text (by decide +kernel); cases hx)
    (fun _ => look4 116 110 110 116 _ _ _ _ _ _ _ _ (as_txt _ (by decide +kernel)) (as_int _) (as_int _) (as_txt _ (by decide +kernel))) (by show 4 ≤ maxLen; unfold maxLen; decide) (fun _ _ => hd)
  exact this
theorem bg4 (w : World) (HT : Tb w) : Calls Tryz.prog 6 #[.int .i64 54, .slice (some ⟨w.heap.size, 0, none⟩) 1 1] (w.alloc (.cells #[.int .i64 1, .int .i64 1, .string no] 30)) fun e w' => e = .returned (.tuple #[vV 0 0 no, .int .i64 1]) ∧ Below (w.alloc (.cells #[.int .i64 1, .int .i64 1, .string no] 30)).heap.size (w.alloc (.cells #[.int .i64 1, .int .i64 1, .string no] 30)) w' :=
  call_class 54 [⟨1, 1, no⟩] _ 1 _ (HT.alloc _) (vals1 w ⟨1, 1, no⟩) (by show 1 ≤ maxLen; unfold maxLen; decide) _ 6 _ _ (info_at 53 _ 6 _ _ rfl rfl) (by decide)
theorem bg5 (w : World) (HT : Tb w) : Calls Tryz.prog 6 #[.int .i64 1, .slice (some ⟨w.heap.size, 0, none⟩) 1 1] (w.alloc (.cells #[.int .i64 9, .int .i64 0, .string no] 30)) fun e w' => e = .returned (.tuple #[vV 0 0 no, .int .i64 24]) ∧ Below (w.alloc (.cells #[.int .i64 9, .int .i64 0, .string no] 30)).heap.size (w.alloc (.cells #[.int .i64 9, .int .i64 0, .string no] 30)) w' :=
  call_value 1 [⟨9, 0, no⟩] _ 1 _ (HT.alloc _) (vals1 w ⟨9, 0, no⟩) (by show 1 ≤ maxLen; unfold maxLen; decide) _ 1 _ _ (info_at 0 _ 1 _ _ rfl rfl) (.inl rfl) (by decide) (by decide) 0 (by decide) (fun j x hj => absurd hj (Nat.not_lt_zero j)) ⟨9, 0, no⟩ rfl (vmay_no (by show ¬ Good 9 0 no; unfold Good; omega))
theorem bg5a (w : World) (o : Obj) (HT : Tb w) : Calls Tryz.prog 6 #[.int .i64 1, .slice (some ⟨w.heap.size + 1, 0, none⟩) 1 1] ((w.alloc o).alloc (.cells #[.int .i64 9, .int .i64 0, .string no] 30)) fun e w' => e = .returned (.tuple #[vV 0 0 no, .int .i64 24]) ∧ Below ((w.alloc o).alloc (.cells #[.int .i64 9, .int .i64 0, .string no] 30)).heap.size ((w.alloc o).alloc (.cells #[.int .i64 9, .int .i64 0, .string no] 30)) w' := by
  have h := bg5 (w.alloc o) (HT.alloc o)
  have e : (w.alloc o).heap.size = w.heap.size + 1 := World.size_alloc _ _
  obtain ⟨w1, hw1⟩ : ∃ w1, w.alloc o = w1 := ⟨_, rfl⟩
  rw [hw1] at h e ⊢
  rw [e] at h
  exact h
theorem num_is (n : Int) : CallIs 19 #[vV 1 n no] (iiV n 0) := vnum_plain 1 n no rfl rfl (sound_good (good_int n))
theorem bg6 : CallIs 11 #[.int .i64 3, vV 1 250 no] (vV 1 2 no) := un_perc 1 250 no 250 2 0 1 2 no (num_is 250) (quo_is 250 100 (by decide) (by decide) (by decide) (by decide)) (reck_ok 2)
theorem bg7 : CallIs 12 #[.int .i64 1, vV 1 (-2) no, vV 1 63 no] (vV 1 (-9223372036854775808) no) :=
  bin_sum1 1 (-2) no 1 63 no 1 (-2) no 1 63 no (csound_good (good_int _)) (csound_good (good_int _)) (by decide) (by decide) 1 (-9223372036854775808) no
    (sum_pow (-2) 63 (-9223372036854775808) 0 1 (-9223372036854775808) no 1 (-2) no 1 63 no (num_is _) (num_is _) (same_is fun w => pow_yes (-2) 63 w (by decide) (by decide) (by decide) (by unfold Fit; decide)) (reck_ok _))
theorem bg8 : CallIs 12 #[.int .i64 4, vV 4 6 no, vV 4 3 no] (vV 4 6 no) := bin_err1 4 (by decide) 4 6 no 4 3 no 6 no 4 3 no (csound_good (good_err (by decide))) (csound_good (good_err (by decide)))
end Go.Proofs.YtgnmkhjilecdhaaGreatDoor
namespace Go.Proofs.YtgnmkhjilecdhaaGreatDoor
open Go.RowKit Go.Sort
set_option linter.unusedVariables false

set_option maxHeartbeats 8000000 in
set_option maxRecDepth 100000 in
theorem begun14 : CallB 4 #[] (.bool true) := by
  intro w ht
  have HT := hide ht
  clear ht
  go_enter Tryz.func4, Tryz.ntmps4
  try simp only [List.append]
  go_wp2_with fail
  refine ((lnum_is (-7)).out _).mono ?_
  rintro e w1 ⟨rfl, hb1⟩
  have B1 := hide (next (Below.refl w.heap.size w) hb1)
  go_wp2_with fail
  refine ((lnum_is 2).out _).mono ?_
  rintro e w2 ⟨rfl, hb2⟩
  have B2 := hide (next (B1.out) hb2)
  go_wp2_with fail
  refine (bg1 _ (HT.out.keep (B2.out))).mono ?_
  rintro e w3 ⟨rfl, hb3⟩
  have B3 := hide (next (step (B2.out) _) hb3)
  go_wp2_with fail
  refine ((ltext_is tabcd).out _).mono ?_
  rintro e w4 ⟨rfl, hb4⟩
  have B4 := hide (next (step (B3.out) _) hb4)
  have ca := hide ((O3.new w3 (.int .i64 1) (.int .i64 1) (.string no) 30).keep hb4)
  go_wp2_with fail
  refine ((lnum_is 2).out _).mono ?_
  rintro e w5 ⟨rfl, hb5⟩
  have B5 := hide (next (B4.out) hb5)
  replace ca := hide (ca.out.keep hb5)
  go_wp2_with fail
  refine ((lnum_is 2).out _).mono ?_
  rintro e w6 ⟨rfl, hb6⟩
  have B6 := hide (next (B5.out) hb6)
  replace ca := hide (ca.out.keep hb6)
  go_wp2_with fail
  refine ((ltext_is tX).out _).mono ?_
  rintro e w7 ⟨rfl, hb7⟩
  have B7 := hide (next (B6.out) hb7)
  replace ca := hide (ca.out.keep hb7)
  go_wp2_with fail
  refine (bg2 _ (HT.out.keep (B7.out))).mono ?_
  rintro e w8 ⟨rfl, hb8⟩
  have B8 := hide (next (step (B7.out) _) hb8)
  replace ca := hide ((ca.out.alloc _).keep hb8)
  go_wp2_with fail
  refine ((ltext_is tx).out _).mono ?_
  rintro e w9 ⟨rfl, hb9⟩
  have B9 := hide (next (step (B8.out) _) hb9)
  replace ca := hide ((ca.out.alloc _).keep hb9)
  have cb := hide ((O3.new w8 (.int .i64 3) (.int .i64 0) (.string taXd) 30).keep hb9)
  go_wp2_with fail
  refine ((lbad_is 3).out _).mono ?_
  rintro e w10 ⟨rfl, hb10⟩
  have B10 := hide (next (B9.out) hb10)
  replace ca := hide (ca.out.keep hb10)
  replace cb := hide (cb.out.keep hb10)
  go_wp2_with fail
  refine (bg3 _ (HT.out.keep (B10.out))).mono ?_
  rintro e w11 ⟨rfl, hb11⟩
  have B11 := hide (next (step (B10.out) _) hb11)
  replace ca := hide ((ca.out.alloc _).keep hb11)
  replace cb := hide ((cb.out.alloc _).keep hb11)
  go_wp2_with fail
  refine ((lnum_is 1).out _).mono ?_
  rintro e w12 ⟨rfl, hb12⟩
  have B12 := hide (next (step (B11.out) _) hb12)
  replace ca := hide ((ca.out.alloc _).keep hb12)
  replace cb := hide ((cb.out.alloc _).keep hb12)
  have cc := hide ((O3.new w11 (.int .i64 4) (.int .i64 3) (.string no) 30).keep hb12)
  go_wp2_with fail
  refine (bg4 _ (HT.out.keep (B12.out))).mono ?_
  rintro e w13 ⟨rfl, hb13⟩
  have B13 := hide (next (step (B12.out) _) hb13)
  replace ca := hide ((ca.out.alloc _).keep hb13)
  replace cb := hide ((cb.out.alloc _).keep hb13)
  replace cc := hide ((cc.out.alloc _).keep hb13)
  replace ca := hide ((ca.out.alloc (vO 0 0 no)))
  replace cb := hide ((cb.out.alloc (vO 0 0 no)))
  replace cc := hide ((cc.out.alloc (vO 0 0 no)))
  have cd : Hid (O3 (w13.alloc (vO 0 0 no)) (w13.heap.size) (.int .i64 0) (.int .i64 0) (.string no)) := hide (by have h0 := (O3.new w13 (.int .i64 0) (.int .i64 0) (.string no) 30); exact h0)
  go_wp2_with fail
  refine (bg5a w13 (vO 0 0 no) (HT.out.keep (B13.out))).mono ?_
  rintro e w14 ⟨rfl, hb14⟩
  have B14 := hide (next (step (step (B13.out) (vO 0 0 no)) _) hb14)
  replace ca := hide ((ca.out.alloc _).keep hb14)
  replace cb := hide ((cb.out.alloc _).keep hb14)
  replace cc := hide ((cc.out.alloc _).keep hb14)
  replace cd := hide ((cd.out.alloc _).keep hb14)
  clear HT cd
  go_upto_region 6 with fail
  replace ca := hide ((ca.out.alloc (vO 0 0 no)))
  replace cb := hide ((cb.out.alloc (vO 0 0 no)))
  replace cc := hide ((cc.out.alloc (vO 0 0 no)))
  obtain ⟨wz, hwz⟩ : ∃ wz, (w14.alloc (vO 0 0 no)) = wz := ⟨_, rfl⟩
  rw [hwz] at ca cb cc ⊢
  have Bz := hide (step (B14.out) (vO 0 0 no))
  rw [hwz] at Bz
  clear hwz
  have qca0 := cell_regrown ca.out.1.1
  have qca1 := cell_regrown ca.out.1.2.1
  have qca2 := cell_regrown ca.out.1.2.2
  have qcb0 := cell_regrown cb.out.1.1
  have qcb1 := cell_regrown cb.out.1.2.1
  have qcb2 := cell_regrown cb.out.1.2.2
  have qcc0 := cell_regrown cc.out.1.1
  have qcc1 := cell_regrown cc.out.1.2.1
  have qcc2 := cell_regrown cc.out.1.2.2
  have k1 := fun n d' os => Calls.regrown_of ((lnum_is n).out (grow (redrawn wz d') os))
  have k2 := fun n d' os => Calls.regrown_of ((ltext_is n).out (grow (redrawn wz d') os))
  have k3 := fun n d' os => Calls.regrown_of ((lbad_is n).out (grow (redrawn wz d') os))
  have k6 := fun d' os => Calls.regrown_of (bg6.out (grow (redrawn wz d') os))
  have k7 := fun d' os => Calls.regrown_of (bg7.out (grow (redrawn wz d') os))
  have k8 := fun d' os => Calls.regrown_of (bg8.out (grow (redrawn wz d') os))
  refine wp_region_quiet_below (by kernel_rfl) (by kernel_rfl) ?_
  repeat (go_big_quiet_step (first | (with_reducible exact k1 _ _ _) | (with_reducible exact k2 _ _ _) | (with_reducible exact k3 _ _ _) | (with_reducible exact k6 _ _) | (with_reducible exact k7 _ _) | (with_reducible exact k8 _ _)))
  refine wpQuiet_nil ?_
  intro w15 hw15
  have hb15 : Below (wz).heap.size wz w15 := by obtain ⟨⟨dq, osq⟩, hq⟩ := hw15; rw [hq]; exact below_regrown _ dq osq
  go_wp2_with fail
  go_ret
  exact ⟨rfl, next (Bz.out) hb15⟩
end Go.Proofs.YtgnmkhjilecdhaaGreatDoor
