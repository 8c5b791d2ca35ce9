/- CalcTexts: pieces of a text make the text; what is put in is found; repeated, turned, capitals. Proved of the Go text. -/
import Derived.Test.YtjmdhfopokmhcaaGreatDoorTxK14
import Derived.Test.YtjmdhfopokmhcaaGreatDoorRgT14
import Derived.Deep.RegionHeld
import Derived.Deep.CutRange
namespace Go.Proofs.YtjmdhfopokmhcaaGreatDoor
open Go.RowKit Go.Sort
set_option linter.unusedVariables false
set_option linter.unusedSimpArgs false

set_option maxHeartbeats 32000000 in
set_option maxRecDepth 100000 in
theorem ct_walk (s u : ByteArray) (n : Int) (K m : Nat) (a b sr srr lw up : ByteArray) (qf : Int) (out : Va) (hs : s.size ≤ 10000) (hu : u.size ≤ 10000) (hn0 : 0 ≤ n) (hn : n ≤ 20000) (hK : K ≤ s.size) (hm : m ≤ K) (hmn : min (n : Int) (K : Int) = (m : Int)) (eab : a ++ b = s)
    (HLen : Hid (FunIs 16 [⟨3, 0, s⟩] ⟨1, K, no⟩)) (HLeft : Hid (FunIs 17 [⟨3, 0, s⟩, ⟨1, m, no⟩] ⟨3, 0, a⟩)) (HRight : Hid (FunIs 18 [⟨3, 0, s⟩, ⟨1, (K : Int) - (m : Int), no⟩] ⟨3, 0, b⟩))
    (HMid1 : Hid (FunIs 19 [⟨3, 0, s⟩, ⟨1, 1, no⟩, ⟨1, m, no⟩] ⟨3, 0, a⟩)) (HMid2 : Hid (FunIs 19 [⟨3, 0, s⟩, ⟨1, (m : Int) + 1, no⟩, ⟨1, K, no⟩] ⟨3, 0, b⟩))
    (HRep1 : Hid (FunIs 26 [⟨3, 0, s⟩, ⟨1, (m : Int) + 1, no⟩, ⟨1, 0, no⟩, ⟨3, 0, u⟩] ⟨3, 0, a ++ u ++ b⟩)) (HRep2 : Hid (FunIs 26 [⟨3, 0, s⟩, ⟨1, 1, no⟩, ⟨1, m, no⟩, ⟨3, 0, u⟩] ⟨3, 0, u ++ b⟩))
    (bs : Bool) (HSnd : CallIs 13 #[.string s] (.bool bs)) (hbs : bs = true → srr = s) (HRev1 : Hid (FunIs 23 [⟨3, 0, s⟩] ⟨3, 0, sr⟩)) (HRev2 : Hid (FunIs 23 [⟨3, 0, sr⟩] ⟨3, 0, srr⟩))
    (HLow : Hid (FunIs 21 [⟨3, 0, s⟩] ⟨3, 0, lw⟩)) (HUp1 : Hid (FunIs 20 [⟨3, 0, lw⟩] ⟨3, 0, up⟩)) (HUp2 : Hid (FunIs 20 [⟨3, 0, s⟩] ⟨3, 0, up⟩))
    (HJoin : CallT 14 #[.int .i64 6, vV 3 0 a, vV 3 0 b] (vV 3 0 s)) (HFind : Hid (FunIs 24 [⟨3, 0, b⟩, ⟨3, 0, s⟩] ⟨1, qf, no⟩)) (hq1 : 1 ≤ qf) (hq2 : qf ≤ (m : Int) + 1)
    (nr : Int) (hnr : (n : Int).tmod 8 = nr) (HRept : Hid (FunIs 27 [⟨3, 0, s⟩, ⟨1, nr, no⟩] out)) (sz : Int) (hsz : wrap64 ((s.size : Int) * nr) = sz) (hout : Hid ((32767 < sz ∧ out = ⟨4, 4, no⟩) ∨ (¬ 32767 < sz ∧ ∃ r : ByteArray, out = ⟨3, 0, r⟩ ∧ (r.size : Int) = sz))) :
    CallB 4 #[.string s, .int .i64 n, .string u] (.bool true) := by
  intro w ht
  have HT := hide ht
  clear ht
  replace hmn := hide hmn
  replace hbs := hide hbs
  replace eab := hide eab
  replace hnr := hide hnr
  replace hsz := hide hsz
  replace hq1 := hide hq1
  replace hq2 := hide hq2
  replace hK := hide hK
  replace hm := hide hm
  have p1 : decide ((10000 : Int) < (s.size : Int)) = false := by first | (simp; done) | (simp; omega)
  have p2 : decide ((10000 : Int) < (u.size : Int)) = false := by first | (simp; done) | (simp; omega)
  have p3 : decide ((n : Int) < 0) = false := by first | (simp; done) | (simp; omega)
  have p4 : decide ((20000 : Int) < (n : Int)) = false := by first | (simp; done) | (simp; omega)
  have LT := ltext_is s
  go_enter Tryz.func4, Tryz.ntmps4
  go_wp2_with fail
  refine (begun14.out _ HT.out).mono ?_
  rintro e w1 ⟨rfl, hb1⟩
  have K1 := hide (next (Below.refl w.heap.size w) hb1)
  clear hb1
  go_wp2_with fail
  refine (LT.out _).mono ?_
  rintro e w2 ⟨rfl, hb2⟩
  have K2 := hide (step (next K1.out hb2) (vO 3 0 s))
  have T2 := hide (O3.new w2 (.int .i64 3) (.int .i64 0) (.string s) 30)
  clear hb2 K1 p1 p2 p3 p4
  go_upto_region 6 with fail
  obtain ⟨wt, hwt⟩ : ∃ wt, w2.alloc (vO 3 0 s) = wt := ⟨_, rfl⟩
  obtain ⟨XT, hXT⟩ : ∃ XT, w2.heap.size = XT := ⟨_, rfl⟩
  rw [hXT] at T2
  rw [hwt] at K2 T2
  try rw [hwt]
  try rw [hXT]
  clear hwt hXT
  have t0 : wt.cell? ⟨XT, 0, none⟩ = some (.int .i64 3) := T2.out.1.1
  have t1 : wt.cell? ⟨XT, 1, none⟩ = some (.int .i64 0) := T2.out.1.2.1
  have t2 : wt.cell? ⟨XT, 2, none⟩ = some (.string s) := T2.out.1.2.2
  go_wp2_with fail
  refine (is1 16 ⟨3, 0, s⟩ ⟨1, K, no⟩ HLen.out _ (HT.out.keep K2.out)).mono ?_
  rintro e w3 ⟨rfl, hb3⟩
  have K3 := hide (step (next (step K2.out _) hb3) (vO 1 K no))
  have T3 := hide (((T2.out.alloc _).keep hb3).alloc (vO 1 K no))
  have C3 := hide (O3.new w3 (.int .i64 1) (.int .i64 K) (.string no) 30)
  clear hb3 t0 t1 t2 T2 K2
  have q1 : ((1 : Int) != 1) = false := by decide
  have q2 : decide ((K : Int) < 0) = false := by simp
  have q3 : ¬ s.size < K := by have := hK.out; omega
  have hmn1 := hmn.out
  have t0 : (w3.alloc (vO 1 K no)).cell? ⟨XT, 0, none⟩ = some (.int .i64 3) := T3.out.1.1
  have t1 : (w3.alloc (vO 1 K no)).cell? ⟨XT, 1, none⟩ = some (.int .i64 0) := T3.out.1.2.1
  have t2 : (w3.alloc (vO 1 K no)).cell? ⟨XT, 2, none⟩ = some (.string s) := T3.out.1.2.2
  have k0 : (w3.alloc (vO 1 K no)).cell? ⟨w3.heap.size, 0, none⟩ = some (.int .i64 1) := C3.out.1.1
  have k1 : (w3.alloc (vO 1 K no)).cell? ⟨w3.heap.size, 1, none⟩ = some (.int .i64 K) := C3.out.1.2.1
  have k2 : (w3.alloc (vO 1 K no)).cell? ⟨w3.heap.size, 2, none⟩ = some (.string no) := C3.out.1.2.2
  go_upto_region 10 with fail
  obtain ⟨wz, hwz⟩ : ∃ wz, w3.alloc (vO 1 K no) = wz := ⟨_, rfl⟩
  obtain ⟨XK, hXK⟩ : ∃ XK, w3.heap.size = XK := ⟨_, rfl⟩
  rw [hXK] at C3
  rw [hwz] at K3 T3 C3
  try rw [hwz]
  try rw [hXK]
  clear hwz hXK t0 t1 t2 k0 k1 k2 q1 q2 q3 hmn1
  have SS : Hid (∀ w', Below wz.heap.size wz w' → (O3 w' XT (.int .i64 3) (.int .i64 0) (.string s) ∧ O3 w' XK (.int .i64 1) (.int .i64 K) (.string no))) := hide (fun w' hb => ⟨T3.out.keep hb, C3.out.keep hb⟩)
  have HNm := lnum_is (m : Int)
  have HNr := lnum_is ((K : Int) - (m : Int))
  have HTz : Hid (∀ w', Below wz.heap.size wz w' → Tb w') := hide (fun w' hb => HT.out.keep (next K3.out hb))
  have wsub : wrap64 ((K : Int) - (m : Int)) = (K : Int) - (m : Int) := IntWalk.wrap64_in _ ⟨by have := hm.out; omega, by have := hK.out; omega⟩
  refine region_inv (fun (L : Nat → Bool) (a₁ : Act) (w₁ : World) => ∃ (x10 x11 x56 x57 x58 x59 x60 x61 x62 x63 x64 x65 x66 x67 x68 : Value) (XA XB : Nat), a₁ = ⟨#[.string s, .int .i64 (n : Int), .string u, undef, undef, undef, .bool false, .pointer (some ⟨XT, 0, none⟩), .pointer (some ⟨XK, 0, none⟩), .int .i64 (m : Int), x10, x11, undef, undef, .bool true, .bool false, .string s, .int .i64 (s.size : Int), .bool false, .bool false, .string u, .int .i64 (u.size : Int), .bool false, .bool false, .bool false, .int .i64 (n : Int), .bool false, .bool false, .bool false, .int .i64 (n : Int), .bool false, .bool false, .string s, vV 3 0 s, .agg #[.int .i64 3, .int .i64 0, .string s], .slice (some ⟨wt.heap.size, 0, none⟩) 1 1, vV 1 (K : Int) no, .pointer (some ⟨XK, 0, none⟩), .int .i64 1, .bool false, .bool false, .pointer (some ⟨XK, 1, none⟩), .int .i64 (K : Int), .bool false, .bool false, .bool false, .pointer (some ⟨XK, 1, none⟩), .int .i64 (K : Int), .string s, .int .i64 (s.size : Int), .bool false, .bool false, .int .i64 (n : Int), .pointer (some ⟨XK, 1, none⟩), .int .i64 (K : Int), .int .i64 (m : Int), x56, x57, x58, x59, x60, x61, x62, x63, x64, x65, x66, x67, x68, undef, undef, undef, undef, undef, undef, undef, undef, undef, undef, undef, undef, undef, undef, undef, undef, undef, undef, undef, undef, undef, undef, undef, undef, undef, undef, undef, undef, undef, undef, undef, undef, undef, undef, undef, undef, undef, undef, undef, undef, undef, undef, undef, undef, undef, undef, undef, undef, undef, undef, undef, undef, undef, undef, undef, undef, undef, undef, undef, undef, undef, undef, undef, undef, undef, undef, undef, undef, undef, undef, undef, undef, undef, undef, undef, undef, undef, undef, undef, undef, undef, undef, undef, undef, undef, undef, undef, undef, undef, undef, undef, undef, undef, undef, undef, undef, undef, undef, undef, undef, undef, undef, undef, undef, undef, undef, undef, undef, undef, undef, undef, undef, undef, undef, undef, undef, undef, undef, undef, undef, undef, undef, undef, undef, undef, undef, undef, undef, undef, undef, undef, undef, undef, undef, undef, undef, undef, undef, undef, undef, undef, undef, undef, undef, undef, undef, undef, undef, undef, undef, undef], []⟩ ∧ Below wz.heap.size wz w₁ ∧ (L 0 = true → x56 = .agg #[.int .i64 3, .int .i64 0, .string s]) ∧ (L 1 = true → x57 = .int .i64 (m : Int)) ∧ (L 2 = true → x58 = vV 1 (m : Int) no) ∧ (L 3 = true → L 15 = false → SlF w₁ x59 2 [⟨3, 0, s⟩, ⟨1, (m : Int), no⟩]) ∧ (L 4 = true → x60 = vV 3 0 a) ∧ (L 5 = true → x61 = .agg #[.int .i64 3, .int .i64 0, .string s]) ∧ (L 6 = true → x62 = .pointer (some ⟨XK, 1, none⟩)) ∧ (L 7 = true → x63 = .int .i64 (K : Int)) ∧ (L 8 = true → x64 = .int .i64 (m : Int)) ∧ (L 9 = true → x65 = .int .i64 ((K : Int) - (m : Int))) ∧ (L 10 = true → x66 = vV 1 ((K : Int) - (m : Int)) no) ∧ (L 11 = true → L 15 = false → SlF w₁ x67 2 [⟨3, 0, s⟩, ⟨1, (K : Int) - (m : Int), no⟩]) ∧ (L 12 = true → x68 = vV 3 0 b) ∧ (L 13 = true → BxF wz.heap.size w₁ x10 XA (if L 15 = true then ⟨3, 0, a⟩ else ⟨0, 0, no⟩)) ∧ (L 14 = true → BxF wz.heap.size w₁ x11 XB (if L 16 = true then ⟨3, 0, b⟩ else ⟨0, 0, no⟩)) ∧ (L 13 = true → L 14 = true → XA ≠ XB) ∧ (L 15 = true → L 13 = true ∧ L 4 = true ∧ L 12 = true) ∧ (L 16 = true → L 14 = true)) (by kernel_rfl) (by kernel_rfl) ?_ ?_ ?_
  · exact ⟨undef, undef, undef, undef, undef, undef, undef, undef, undef, undef, undef, undef, undef, undef, undef, 0, 0, rfl, (Below.refl _ _).drew, fun h => absurd h (by decide), fun h => absurd h (by decide), fun h => absurd h (by decide), fun h => absurd h (by decide), fun h => absurd h (by decide), fun h => absurd h (by decide), fun h => absurd h (by decide), fun h => absurd h (by decide), fun h => absurd h (by decide), fun h => absurd h (by decide), fun h => absurd h (by decide), fun h => absurd h (by decide), fun h => absurd h (by decide), fun h => absurd h (by decide), fun h => absurd h (by decide), fun h => absurd h (by decide), fun h => absurd h (by decide), fun h => absurd h (by decide)⟩
  · intro i hi L a₁ w₁ hI hLi hdep
    obtain ⟨x10, x11, x56, x57, x58, x59, x60, x61, x62, x63, x64, x65, x66, x67, x68, XA, XB, rfl, hB, f0, f1, f2, f3, f4, f5, f6, f7, f8, f9, f10, f11, f12, f13, f14, fd, fe, fg⟩ := hI
    replace f0 := hide f0
    replace f1 := hide f1
    replace f2 := hide f2
    replace f3 := hide f3
    replace f4 := hide f4
    replace f5 := hide f5
    replace f6 := hide f6
    replace f7 := hide f7
    replace f8 := hide f8
    replace f9 := hide f9
    replace f10 := hide f10
    replace f11 := hide f11
    replace f12 := hide f12
    replace f13 := hide f13
    replace f14 := hide f14
    replace fd := hide fd
    replace fe := hide fe
    replace fg := hide fg
    replace hB := hide hB
    have hS := SS.out _ hB.out
    have hi17 : i < 17 := hi
    clear hi
    have hcases : i = 0 ∨ i = 1 ∨ i = 2 ∨ i = 3 ∨ i = 4 ∨ i = 5 ∨ i = 6 ∨ i = 7 ∨ i = 8 ∨ i = 9 ∨ i = 10 ∨ i = 11 ∨ i = 12 ∨ i = 13 ∨ i = 14 ∨ i = 15 ∨ i = 16 := by omega
    clear hi17
    rcases hcases with rfl | rfl | rfl | rfl | rfl | rfl | rfl | rfl | rfl | rfl | rfl | rfl | rfl | rfl | rfl | rfl | rfl
    · skip
      clear hdep
      obtain ⟨⟨⟨c0, c1, c2⟩, _⟩, _⟩ := hS
      refine wpOp_step rfl (fun K' hKK => ?_)
      replace hKK := hide hKK
      go_simp
      --SHOW0
      refine hKK.out _ _ ?_
      exact ⟨_, _, _, _, _, _, _, _, _, _, _, _, _, _, _, XA, XB, rfl, hB.out, (fun _ => rfl), (fun h => f1.out (lk h (by decide))), (fun h => f2.out (lk h (by decide))), (fun h h15 => f3.out (lk h (by decide)) (by simpa using h15)), (fun h => f4.out (lk h (by decide))), (fun h => f5.out (lk h (by decide))), (fun h => f6.out (lk h (by decide))), (fun h => f7.out (lk h (by decide))), (fun h => f8.out (lk h (by decide))), (fun h => f9.out (lk h (by decide))), (fun h => f10.out (lk h (by decide))), (fun h h15 => f11.out (lk h (by decide)) (by simpa using h15)), (fun h => f12.out (lk h (by decide))), (fun h => f13.out (lk h (by decide))), (fun h => f14.out (lk h (by decide))), (fun h h2 => fd.out (by simpa using h) (by simpa using h2)), (fun h => by (have h3 := fe.out (by simpa using h); exact ⟨by first | (simp; done) | simpa using h3.1, by first | (simp; done) | simpa using h3.2.1, by first | (simp; done) | simpa using h3.2.2⟩)), (fun h => by first | (simp; done) | (have := fg.out (by simpa using h); simpa using this))⟩
    · skip
      clear hdep
      refine wpOp_step rfl (fun K' hKK => ?_)
      replace hKK := hide hKK
      go_simp
      --SHOW1
      refine hKK.out _ _ ?_
      exact ⟨_, _, _, _, _, _, _, _, _, _, _, _, _, _, _, XA, XB, rfl, hB.out, (fun h => f0.out (lk h (by decide))), (fun _ => rfl), (fun h => f2.out (lk h (by decide))), (fun h h15 => f3.out (lk h (by decide)) (by simpa using h15)), (fun h => f4.out (lk h (by decide))), (fun h => f5.out (lk h (by decide))), (fun h => f6.out (lk h (by decide))), (fun h => f7.out (lk h (by decide))), (fun h => f8.out (lk h (by decide))), (fun h => f9.out (lk h (by decide))), (fun h => f10.out (lk h (by decide))), (fun h h15 => f11.out (lk h (by decide)) (by simpa using h15)), (fun h => f12.out (lk h (by decide))), (fun h => f13.out (lk h (by decide))), (fun h => f14.out (lk h (by decide))), (fun h h2 => fd.out (by simpa using h) (by simpa using h2)), (fun h => by (have h3 := fe.out (by simpa using h); exact ⟨by first | (simp; done) | simpa using h3.1, by first | (simp; done) | simpa using h3.2.1, by first | (simp; done) | simpa using h3.2.2⟩)), (fun h => by first | (simp; done) | (have := fg.out (by simpa using h); simpa using this))⟩
    · skip
      have l1 : L 1 = true := hdep _ rfl ⟨1, .data⟩ (by simp) (by rfl)
      clear hdep
      obtain rfl := f1.out l1
      refine wpOp_step rfl (fun K' hKK => ?_)
      replace hKK := hide hKK
      go_simp
      go_wp2_with (refine (HNm.out _).mono ?_; rintro e w5 ⟨rfl, hb5⟩)
      --SHOW2
      refine hKK.out _ _ ?_
      exact ⟨_, _, _, _, _, _, _, _, _, _, _, _, _, _, _, XA, XB, rfl, next hB.out hb5, (fun h => f0.out (lk h (by decide))), (fun _ => rfl), (fun _ => rfl), (fun h h15 => (f3.out (lk h (by decide)) (by simpa using h15)).keep hb5), (fun h => f4.out (lk h (by decide))), (fun h => f5.out (lk h (by decide))), (fun h => f6.out (lk h (by decide))), (fun h => f7.out (lk h (by decide))), (fun h => f8.out (lk h (by decide))), (fun h => f9.out (lk h (by decide))), (fun h => f10.out (lk h (by decide))), (fun h h15 => (f11.out (lk h (by decide)) (by simpa using h15)).keep hb5), (fun h => f12.out (lk h (by decide))), (fun h => (f13.out (lk h (by decide))).keep hb5), (fun h => (f14.out (lk h (by decide))).keep hb5), (fun h h2 => fd.out (by simpa using h) (by simpa using h2)), (fun h => by (have h3 := fe.out (by simpa using h); exact ⟨by first | (simp; done) | simpa using h3.1, by first | (simp; done) | simpa using h3.2.1, by first | (simp; done) | simpa using h3.2.2⟩)), (fun h => by first | (simp; done) | (have := fg.out (by simpa using h); simpa using this))⟩
    · skip
      have l0 : L 0 = true := hdep _ rfl ⟨0, .data⟩ (by simp) (by rfl)
      have l2 : L 2 = true := hdep _ rfl ⟨2, .data⟩ (by simp) (by rfl)
      clear hdep
      obtain rfl := f0.out l0
      obtain rfl := f2.out l2
      refine wpOp_step rfl (fun K' hKK => ?_)
      replace hKK := hide hKK
      go_simp
      --SHOW3
      refine hKK.out _ _ ?_
      exact ⟨_, _, _, _, _, _, _, _, _, _, _, _, _, _, _, XA, XB, rfl, step hB.out _, (fun _ => rfl), (fun h => f1.out (lk h (by decide))), (fun _ => rfl), (fun _ _ => ⟨_, rfl, vals2 _ _ _⟩), (fun h => f4.out (lk h (by decide))), (fun h => f5.out (lk h (by decide))), (fun h => f6.out (lk h (by decide))), (fun h => f7.out (lk h (by decide))), (fun h => f8.out (lk h (by decide))), (fun h => f9.out (lk h (by decide))), (fun h => f10.out (lk h (by decide))), (fun h h15 => (f11.out (lk h (by decide)) (by simpa using h15)).keep (step (Below.refl _ _) _)), (fun h => f12.out (lk h (by decide))), (fun h => (f13.out (lk h (by decide))).keep (step (Below.refl _ _) _)), (fun h => (f14.out (lk h (by decide))).keep (step (Below.refl _ _) _)), (fun h h2 => fd.out (by simpa using h) (by simpa using h2)), (fun h => by (have h3 := fe.out (by simpa using h); exact ⟨by first | (simp; done) | simpa using h3.1, by first | (simp; done) | simpa using h3.2.1, by first | (simp; done) | simpa using h3.2.2⟩)), (fun h => by first | (simp; done) | (have := fg.out (by simpa using h); simpa using this))⟩
    · skip
      have l3 : L 3 = true := hdep _ rfl ⟨3, .data⟩ (by simp) (by rfl)
      clear hdep
      obtain ⟨bs, rfl, hv⟩ := f3.out l3 (by cases hc : L 15 with | false => rfl | true => exact absurd (fe.out hc).2.1 (by rw [hLi]; decide))
      refine wpOp_step rfl (fun K' hKK => ?_)
      replace hKK := hide hKK
      go_simp
      go_wp2_with (refine (is2v 17 ⟨3, 0, s⟩ ⟨1, m, no⟩ ⟨3, 0, a⟩ HLeft.out _ bs (HTz.out _ hB.out) hv).mono ?_; rintro e w5 ⟨rfl, hb5⟩)
      --SHOW4
      refine hKK.out _ _ ?_
      exact ⟨_, _, _, _, _, _, _, _, _, _, _, _, _, _, _, XA, XB, rfl, next hB.out hb5, (fun h => f0.out (lk h (by decide))), (fun h => f1.out (lk h (by decide))), (fun h => f2.out (lk h (by decide))), (fun _ _ => ⟨bs, rfl, hv.keep hb5⟩), (fun _ => rfl), (fun h => f5.out (lk h (by decide))), (fun h => f6.out (lk h (by decide))), (fun h => f7.out (lk h (by decide))), (fun h => f8.out (lk h (by decide))), (fun h => f9.out (lk h (by decide))), (fun h => f10.out (lk h (by decide))), (fun h h15 => (f11.out (lk h (by decide)) (by simpa using h15)).keep hb5), (fun h => f12.out (lk h (by decide))), (fun h => (f13.out (lk h (by decide))).keep hb5), (fun h => (f14.out (lk h (by decide))).keep hb5), (fun h h2 => fd.out (by simpa using h) (by simpa using h2)), (fun h => by (have h3 := fe.out (by simpa using h); exact ⟨by first | (simp; done) | simpa using h3.1, by first | (simp; done) | simpa using h3.2.1, by first | (simp; done) | simpa using h3.2.2⟩)), (fun h => by first | (simp; done) | (have := fg.out (by simpa using h); simpa using this))⟩
    · skip
      clear hdep
      obtain ⟨⟨⟨c0, c1, c2⟩, _⟩, _⟩ := hS
      refine wpOp_step rfl (fun K' hKK => ?_)
      replace hKK := hide hKK
      go_simp
      --SHOW5
      refine hKK.out _ _ ?_
      exact ⟨_, _, _, _, _, _, _, _, _, _, _, _, _, _, _, XA, XB, rfl, hB.out, (fun h => f0.out (lk h (by decide))), (fun h => f1.out (lk h (by decide))), (fun h => f2.out (lk h (by decide))), (fun h h15 => f3.out (lk h (by decide)) (by simpa using h15)), (fun h => f4.out (lk h (by decide))), (fun _ => rfl), (fun h => f6.out (lk h (by decide))), (fun h => f7.out (lk h (by decide))), (fun h => f8.out (lk h (by decide))), (fun h => f9.out (lk h (by decide))), (fun h => f10.out (lk h (by decide))), (fun h h15 => f11.out (lk h (by decide)) (by simpa using h15)), (fun h => f12.out (lk h (by decide))), (fun h => f13.out (lk h (by decide))), (fun h => f14.out (lk h (by decide))), (fun h h2 => fd.out (by simpa using h) (by simpa using h2)), (fun h => by (have h3 := fe.out (by simpa using h); exact ⟨by first | (simp; done) | simpa using h3.1, by first | (simp; done) | simpa using h3.2.1, by first | (simp; done) | simpa using h3.2.2⟩)), (fun h => by first | (simp; done) | (have := fg.out (by simpa using h); simpa using this))⟩
    · skip
      clear hdep
      refine wpOp_step rfl (fun K' hKK => ?_)
      replace hKK := hide hKK
      go_simp
      --SHOW6
      refine hKK.out _ _ ?_
      exact ⟨_, _, _, _, _, _, _, _, _, _, _, _, _, _, _, XA, XB, rfl, hB.out, (fun h => f0.out (lk h (by decide))), (fun h => f1.out (lk h (by decide))), (fun h => f2.out (lk h (by decide))), (fun h h15 => f3.out (lk h (by decide)) (by simpa using h15)), (fun h => f4.out (lk h (by decide))), (fun h => f5.out (lk h (by decide))), (fun _ => rfl), (fun h => f7.out (lk h (by decide))), (fun h => f8.out (lk h (by decide))), (fun h => f9.out (lk h (by decide))), (fun h => f10.out (lk h (by decide))), (fun h h15 => f11.out (lk h (by decide)) (by simpa using h15)), (fun h => f12.out (lk h (by decide))), (fun h => f13.out (lk h (by decide))), (fun h => f14.out (lk h (by decide))), (fun h h2 => fd.out (by simpa using h) (by simpa using h2)), (fun h => by (have h3 := fe.out (by simpa using h); exact ⟨by first | (simp; done) | simpa using h3.1, by first | (simp; done) | simpa using h3.2.1, by first | (simp; done) | simpa using h3.2.2⟩)), (fun h => by first | (simp; done) | (have := fg.out (by simpa using h); simpa using this))⟩
    · skip
      have l6 : L 6 = true := hdep _ rfl ⟨6, .data⟩ (by simp) (by rfl)
      clear hdep
      obtain rfl := f6.out l6
      obtain ⟨_, ⟨⟨c0, c1, c2⟩, _⟩⟩ := hS
      refine wpOp_step rfl (fun K' hKK => ?_)
      replace hKK := hide hKK
      go_simp
      --SHOW7
      refine hKK.out _ _ ?_
      exact ⟨_, _, _, _, _, _, _, _, _, _, _, _, _, _, _, XA, XB, rfl, hB.out, (fun h => f0.out (lk h (by decide))), (fun h => f1.out (lk h (by decide))), (fun h => f2.out (lk h (by decide))), (fun h h15 => f3.out (lk h (by decide)) (by simpa using h15)), (fun h => f4.out (lk h (by decide))), (fun h => f5.out (lk h (by decide))), (fun _ => rfl), (fun _ => rfl), (fun h => f8.out (lk h (by decide))), (fun h => f9.out (lk h (by decide))), (fun h => f10.out (lk h (by decide))), (fun h h15 => f11.out (lk h (by decide)) (by simpa using h15)), (fun h => f12.out (lk h (by decide))), (fun h => f13.out (lk h (by decide))), (fun h => f14.out (lk h (by decide))), (fun h h2 => fd.out (by simpa using h) (by simpa using h2)), (fun h => by (have h3 := fe.out (by simpa using h); exact ⟨by first | (simp; done) | simpa using h3.1, by first | (simp; done) | simpa using h3.2.1, by first | (simp; done) | simpa using h3.2.2⟩)), (fun h => by first | (simp; done) | (have := fg.out (by simpa using h); simpa using this))⟩
    · skip
      clear hdep
      refine wpOp_step rfl (fun K' hKK => ?_)
      replace hKK := hide hKK
      go_simp
      --SHOW8
      refine hKK.out _ _ ?_
      exact ⟨_, _, _, _, _, _, _, _, _, _, _, _, _, _, _, XA, XB, rfl, hB.out, (fun h => f0.out (lk h (by decide))), (fun h => f1.out (lk h (by decide))), (fun h => f2.out (lk h (by decide))), (fun h h15 => f3.out (lk h (by decide)) (by simpa using h15)), (fun h => f4.out (lk h (by decide))), (fun h => f5.out (lk h (by decide))), (fun h => f6.out (lk h (by decide))), (fun h => f7.out (lk h (by decide))), (fun _ => rfl), (fun h => f9.out (lk h (by decide))), (fun h => f10.out (lk h (by decide))), (fun h h15 => f11.out (lk h (by decide)) (by simpa using h15)), (fun h => f12.out (lk h (by decide))), (fun h => f13.out (lk h (by decide))), (fun h => f14.out (lk h (by decide))), (fun h h2 => fd.out (by simpa using h) (by simpa using h2)), (fun h => by (have h3 := fe.out (by simpa using h); exact ⟨by first | (simp; done) | simpa using h3.1, by first | (simp; done) | simpa using h3.2.1, by first | (simp; done) | simpa using h3.2.2⟩)), (fun h => by first | (simp; done) | (have := fg.out (by simpa using h); simpa using this))⟩
    · skip
      have l7 : L 7 = true := hdep _ rfl ⟨7, .data⟩ (by simp) (by rfl)
      have l8 : L 8 = true := hdep _ rfl ⟨8, .data⟩ (by simp) (by rfl)
      clear hdep
      obtain rfl := f7.out l7
      obtain rfl := f8.out l8
      refine wpOp_step rfl (fun K' hKK => ?_)
      replace hKK := hide hKK
      go_simp
      --SHOW9
      refine hKK.out _ _ ?_
      exact ⟨_, _, _, _, _, _, _, _, _, _, _, _, _, _, _, XA, XB, rfl, hB.out, (fun h => f0.out (lk h (by decide))), (fun h => f1.out (lk h (by decide))), (fun h => f2.out (lk h (by decide))), (fun h h15 => f3.out (lk h (by decide)) (by simpa using h15)), (fun h => f4.out (lk h (by decide))), (fun h => f5.out (lk h (by decide))), (fun h => f6.out (lk h (by decide))), (fun _ => rfl), (fun _ => rfl), (fun _ => congrArg (Value.int .i64) ((IntWalk.i64_left _).trans wsub)), (fun h => f10.out (lk h (by decide))), (fun h h15 => f11.out (lk h (by decide)) (by simpa using h15)), (fun h => f12.out (lk h (by decide))), (fun h => f13.out (lk h (by decide))), (fun h => f14.out (lk h (by decide))), (fun h h2 => fd.out (by simpa using h) (by simpa using h2)), (fun h => by (have h3 := fe.out (by simpa using h); exact ⟨by first | (simp; done) | simpa using h3.1, by first | (simp; done) | simpa using h3.2.1, by first | (simp; done) | simpa using h3.2.2⟩)), (fun h => by first | (simp; done) | (have := fg.out (by simpa using h); simpa using this))⟩
    · skip
      have l9 : L 9 = true := hdep _ rfl ⟨9, .data⟩ (by simp) (by rfl)
      clear hdep
      obtain rfl := f9.out l9
      refine wpOp_step rfl (fun K' hKK => ?_)
      replace hKK := hide hKK
      go_simp
      go_wp2_with (refine (HNr.out _).mono ?_; rintro e w5 ⟨rfl, hb5⟩)
      --SHOW10
      refine hKK.out _ _ ?_
      exact ⟨_, _, _, _, _, _, _, _, _, _, _, _, _, _, _, XA, XB, rfl, next hB.out hb5, (fun h => f0.out (lk h (by decide))), (fun h => f1.out (lk h (by decide))), (fun h => f2.out (lk h (by decide))), (fun h h15 => (f3.out (lk h (by decide)) (by simpa using h15)).keep hb5), (fun h => f4.out (lk h (by decide))), (fun h => f5.out (lk h (by decide))), (fun h => f6.out (lk h (by decide))), (fun h => f7.out (lk h (by decide))), (fun h => f8.out (lk h (by decide))), (fun _ => rfl), (fun _ => rfl), (fun h h15 => (f11.out (lk h (by decide)) (by simpa using h15)).keep hb5), (fun h => f12.out (lk h (by decide))), (fun h => (f13.out (lk h (by decide))).keep hb5), (fun h => (f14.out (lk h (by decide))).keep hb5), (fun h h2 => fd.out (by simpa using h) (by simpa using h2)), (fun h => by (have h3 := fe.out (by simpa using h); exact ⟨by first | (simp; done) | simpa using h3.1, by first | (simp; done) | simpa using h3.2.1, by first | (simp; done) | simpa using h3.2.2⟩)), (fun h => by first | (simp; done) | (have := fg.out (by simpa using h); simpa using this))⟩
    · skip
      have l5 : L 5 = true := hdep _ rfl ⟨5, .data⟩ (by simp) (by rfl)
      have l10 : L 10 = true := hdep _ rfl ⟨10, .data⟩ (by simp) (by rfl)
      clear hdep
      obtain rfl := f5.out l5
      obtain rfl := f10.out l10
      refine wpOp_step rfl (fun K' hKK => ?_)
      replace hKK := hide hKK
      go_simp
      --SHOW11
      refine hKK.out _ _ ?_
      exact ⟨_, _, _, _, _, _, _, _, _, _, _, _, _, _, _, XA, XB, rfl, step hB.out _, (fun h => f0.out (lk h (by decide))), (fun h => f1.out (lk h (by decide))), (fun h => f2.out (lk h (by decide))), (fun h h15 => (f3.out (lk h (by decide)) (by simpa using h15)).keep (step (Below.refl _ _) _)), (fun h => f4.out (lk h (by decide))), (fun _ => rfl), (fun h => f6.out (lk h (by decide))), (fun h => f7.out (lk h (by decide))), (fun h => f8.out (lk h (by decide))), (fun h => f9.out (lk h (by decide))), (fun _ => rfl), (fun _ _ => ⟨_, rfl, vals2 _ _ _⟩), (fun h => f12.out (lk h (by decide))), (fun h => (f13.out (lk h (by decide))).keep (step (Below.refl _ _) _)), (fun h => (f14.out (lk h (by decide))).keep (step (Below.refl _ _) _)), (fun h h2 => fd.out (by simpa using h) (by simpa using h2)), (fun h => by (have h3 := fe.out (by simpa using h); exact ⟨by first | (simp; done) | simpa using h3.1, by first | (simp; done) | simpa using h3.2.1, by first | (simp; done) | simpa using h3.2.2⟩)), (fun h => by first | (simp; done) | (have := fg.out (by simpa using h); simpa using this))⟩
    · skip
      have l11 : L 11 = true := hdep _ rfl ⟨11, .data⟩ (by simp) (by rfl)
      clear hdep
      obtain ⟨bs, rfl, hv⟩ := f11.out l11 (by cases hc : L 15 with | false => rfl | true => exact absurd (fe.out hc).2.2 (by rw [hLi]; decide))
      refine wpOp_step rfl (fun K' hKK => ?_)
      replace hKK := hide hKK
      go_simp
      go_wp2_with (refine (is2v 18 ⟨3, 0, s⟩ ⟨1, (K : Int) - (m : Int), no⟩ ⟨3, 0, b⟩ HRight.out _ bs (HTz.out _ hB.out) hv).mono ?_; rintro e w5 ⟨rfl, hb5⟩)
      --SHOW12
      refine hKK.out _ _ ?_
      exact ⟨_, _, _, _, _, _, _, _, _, _, _, _, _, _, _, XA, XB, rfl, next hB.out hb5, (fun h => f0.out (lk h (by decide))), (fun h => f1.out (lk h (by decide))), (fun h => f2.out (lk h (by decide))), (fun h h15 => (f3.out (lk h (by decide)) (by simpa using h15)).keep hb5), (fun h => f4.out (lk h (by decide))), (fun h => f5.out (lk h (by decide))), (fun h => f6.out (lk h (by decide))), (fun h => f7.out (lk h (by decide))), (fun h => f8.out (lk h (by decide))), (fun h => f9.out (lk h (by decide))), (fun h => f10.out (lk h (by decide))), (fun _ _ => ⟨bs, rfl, hv.keep hb5⟩), (fun _ => rfl), (fun h => (f13.out (lk h (by decide))).keep hb5), (fun h => (f14.out (lk h (by decide))).keep hb5), (fun h h2 => fd.out (by simpa using h) (by simpa using h2)), (fun h => by (have h3 := fe.out (by simpa using h); exact ⟨by first | (simp; done) | simpa using h3.1, by first | (simp; done) | simpa using h3.2.1, by first | (simp; done) | simpa using h3.2.2⟩)), (fun h => by first | (simp; done) | (have := fg.out (by simpa using h); simpa using this))⟩
    · skip
      clear hdep
      refine wpOp_step rfl (fun K' hKK => ?_)
      replace hKK := hide hKK
      go_simp
      --SHOW13
      refine hKK.out _ _ ?_
      exact ⟨_, _, _, _, _, _, _, _, _, _, _, _, _, _, _, w₁.heap.size, XB, rfl, step hB.out _, (fun h => f0.out (lk h (by decide))), (fun h => f1.out (lk h (by decide))), (fun h => f2.out (lk h (by decide))), (fun h h15 => (f3.out (lk h (by decide)) (by simpa using h15)).keep (step (Below.refl _ _) _)), (fun h => f4.out (lk h (by decide))), (fun h => f5.out (lk h (by decide))), (fun h => f6.out (lk h (by decide))), (fun h => f7.out (lk h (by decide))), (fun h => f8.out (lk h (by decide))), (fun h => f9.out (lk h (by decide))), (fun h => f10.out (lk h (by decide))), (fun h h15 => (f11.out (lk h (by decide)) (by simpa using h15)).keep (step (Below.refl _ _) _)), (fun h => f12.out (lk h (by decide))), (fun _ => ⟨rfl, hB.out.size, by rw [if_neg (fun h15 => by have := (fe.out (by simpa using h15)).1; rw [hLi] at this; cases this)]; exact O3.new _ _ _ _ _⟩), (fun h => (f14.out (lk h (by decide))).keep (step (Below.refl _ _) _)), (fun _ h2 e => by have := (f14.out (by simpa using h2)).lt; omega), (fun h => by (have h3 := fe.out (by simpa using h); exact ⟨by first | (simp; done) | simpa using h3.1, by first | (simp; done) | simpa using h3.2.1, by first | (simp; done) | simpa using h3.2.2⟩)), (fun h => by first | (simp; done) | (have := fg.out (by simpa using h); simpa using this))⟩
    · skip
      clear hdep
      refine wpOp_step rfl (fun K' hKK => ?_)
      replace hKK := hide hKK
      go_simp
      --SHOW14
      refine hKK.out _ _ ?_
      exact ⟨_, _, _, _, _, _, _, _, _, _, _, _, _, _, _, XA, w₁.heap.size, rfl, step hB.out _, (fun h => f0.out (lk h (by decide))), (fun h => f1.out (lk h (by decide))), (fun h => f2.out (lk h (by decide))), (fun h h15 => (f3.out (lk h (by decide)) (by simpa using h15)).keep (step (Below.refl _ _) _)), (fun h => f4.out (lk h (by decide))), (fun h => f5.out (lk h (by decide))), (fun h => f6.out (lk h (by decide))), (fun h => f7.out (lk h (by decide))), (fun h => f8.out (lk h (by decide))), (fun h => f9.out (lk h (by decide))), (fun h => f10.out (lk h (by decide))), (fun h h15 => (f11.out (lk h (by decide)) (by simpa using h15)).keep (step (Below.refl _ _) _)), (fun h => f12.out (lk h (by decide))), (fun h => (f13.out (lk h (by decide))).keep (step (Below.refl _ _) _)), (fun _ => ⟨rfl, hB.out.size, by rw [if_neg (fun h15 => by have := (fg.out (by simpa using h15)); rw [hLi] at this; cases this)]; exact O3.new _ _ _ _ _⟩), (fun h2 _ e => by have := (f13.out (by simpa using h2)).lt; omega), (fun h => by (have h3 := fe.out (by simpa using h); exact ⟨by first | (simp; done) | simpa using h3.1, by first | (simp; done) | simpa using h3.2.1, by first | (simp; done) | simpa using h3.2.2⟩)), (fun h => by first | (simp; done) | (have := fg.out (by simpa using h); simpa using this))⟩
    · skip
      have l13 : L 13 = true := hdep _ rfl ⟨13, .data⟩ (by simp) (by rfl)
      have l4 : L 4 = true := hdep _ rfl ⟨4, .data⟩ (by simp) (by rfl)
      have hdep12 : L 12 = true := hdep _ rfl ⟨12, .chain⟩ (by simp) (by rfl)
      clear hdep
      obtain rfl := f4.out l4
      obtain ⟨rfl, hxa, oa⟩ := f13.out l13
      simp only [hLi, Bool.false_eq_true, if_false] at oa
      have c0 := oa.1.1
      have c1 := oa.1.2.1
      have c2 := oa.1.2.2
      have fz := oa.2
      replace oa := hide oa
      refine wpOp_step rfl (fun K' hKK => ?_)
      replace hKK := hide hKK
      go_simp
      --SHOW15
      refine hKK.out _ _ ?_
      exact ⟨_, _, _, _, _, _, _, _, _, _, _, _, _, _, _, XA, XB, rfl, below_put3 (b := XA) hB.out hxa (.int .i64 3) (.int .i64 0) (.string a), (fun h => f0.out (lk h (by decide))), (fun h => f1.out (lk h (by decide))), (fun h => f2.out (lk h (by decide))), (fun h h15 => by simp at h15), (fun _ => rfl), (fun h => f5.out (lk h (by decide))), (fun h => f6.out (lk h (by decide))), (fun h => f7.out (lk h (by decide))), (fun h => f8.out (lk h (by decide))), (fun h => f9.out (lk h (by decide))), (fun h => f10.out (lk h (by decide))), (fun h h15 => by simp at h15), (fun h => f12.out (lk h (by decide))), (fun _ => ⟨rfl, hxa, by rw [if_pos (by simp)]; exact oa.out.put _ _ _⟩), (fun h => by have hn := fd.out l13 (by simpa using h); have g := f14.out (by simpa using h); refine ⟨g.1, g.2.1, ?_⟩; simp only [if_neg (show ¬ (16 : Nat) = 15 by decide)]; exact O3.other g.2.2 (Ne.symm hn)), (fun h h2 => fd.out (by simpa using h) (by simpa using h2)), (fun _ => ⟨by simpa using l13, by simpa using l4, by simpa using hdep12⟩), (fun h => by first | (simp; done) | (have := fg.out (by simpa using h); simpa using this))⟩
    · skip
      have l14 : L 14 = true := hdep _ rfl ⟨14, .data⟩ (by simp) (by rfl)
      have l12 : L 12 = true := hdep _ rfl ⟨12, .data⟩ (by simp) (by rfl)
      have l15 : L 15 = true := hdep _ rfl ⟨15, .chain⟩ (by simp) (by rfl)
      clear hdep
      obtain rfl := f12.out l12
      obtain ⟨rfl, hxb, ob⟩ := f14.out l14
      simp only [hLi, Bool.false_eq_true, if_false] at ob
      have c0 := ob.1.1
      have c1 := ob.1.2.1
      have c2 := ob.1.2.2
      have fz := ob.2
      replace ob := hide ob
      have hxy := hide (fd.out (fe.out l15).1 l14)
      refine wpOp_step rfl (fun K' hKK => ?_)
      replace hKK := hide hKK
      go_simp
      --SHOW16
      refine hKK.out _ _ ?_
      exact ⟨_, _, _, _, _, _, _, _, _, _, _, _, _, _, _, XA, XB, rfl, below_put3 (b := XB) hB.out hxb (.int .i64 3) (.int .i64 0) (.string b), (fun h => f0.out (lk h (by decide))), (fun h => f1.out (lk h (by decide))), (fun h => f2.out (lk h (by decide))), (fun h h15 => absurd l15 (by have e := h15; simp at e; rw [e]; decide)), (fun h => f4.out (lk h (by decide))), (fun h => f5.out (lk h (by decide))), (fun h => f6.out (lk h (by decide))), (fun h => f7.out (lk h (by decide))), (fun h => f8.out (lk h (by decide))), (fun h => f9.out (lk h (by decide))), (fun h => f10.out (lk h (by decide))), (fun h h15 => absurd l15 (by have e := h15; simp at e; rw [e]; decide)), (fun _ => rfl), (fun h => by have g := f13.out (by simpa using h); refine ⟨g.1, g.2.1, ?_⟩; simp only [if_neg (show ¬ (15 : Nat) = 16 by decide)]; exact O3.other g.2.2 hxy.out), (fun _ => ⟨rfl, hxb, by rw [if_pos (by simp)]; exact ob.out.put _ _ _⟩), (fun h h2 => fd.out (by simpa using h) (by simpa using h2)), (fun h => by (have h3 := fe.out (by simpa using h); exact ⟨by first | (simp; done) | simpa using h3.1, by first | (simp; done) | simpa using h3.2.1, by first | (simp; done) | simpa using h3.2.2⟩)), (fun _ => by simpa using l14)⟩
  intro L a₁ w₁ hall hI
  obtain ⟨x10, x11, x56, x57, x58, x59, x60, x61, x62, x63, x64, x65, x66, x67, x68, XA, XB, rfl, hB, f0, f1, f2, f3, f4, f5, f6, f7, f8, f9, f10, f11, f12, f13, f14, fd, fe, fg⟩ := hI
  obtain rfl := f0 (hall 0 (by decide))
  obtain rfl := f1 (hall 1 (by decide))
  obtain rfl := f2 (hall 2 (by decide))
  obtain rfl := f4 (hall 4 (by decide))
  obtain rfl := f5 (hall 5 (by decide))
  obtain rfl := f6 (hall 6 (by decide))
  obtain rfl := f7 (hall 7 (by decide))
  obtain rfl := f8 (hall 8 (by decide))
  obtain rfl := f9 (hall 9 (by decide))
  obtain rfl := f10 (hall 10 (by decide))
  obtain rfl := f12 (hall 12 (by decide))
  obtain ⟨rfl, hxa, oa⟩ := f13 (hall 13 (by decide))
  obtain ⟨rfl, hxb, ob⟩ := f14 (hall 14 (by decide))
  have l15 := hall 15 (by decide)
  have l16 := hall 16 (by decide)
  simp only [l15, if_true] at oa
  simp only [l16, if_true] at ob
  have hAB := hide (fd (hall 13 (by decide)) (hall 14 (by decide)))
  clear f0 f1 f2 f3 f4 f5 f6 f7 f8 f9 f10 f11 f12 f13 f14 fd fe fg hall l15 l16
  replace oa := hide oa
  replace ob := hide ob
  replace hB := hide hB

  obtain ⟨wy, rfl⟩ : ∃ wy, wy = w₁ := ⟨_, rfl⟩
  have T4 := hide (SS.out _ hB.out).1
  have C4 := hide (SS.out _ hB.out).2
  have K4 := hide (next K3.out hB.out)
  clear SS HNm HNr HTz T3 C3 K3 hB hxa hxb wsub LT HLen HLeft HRight
  have t0 : wy.cell? ⟨XT, 0, none⟩ = some (.int .i64 3) := T4.out.1.1
  have t1 : wy.cell? ⟨XT, 1, none⟩ = some (.int .i64 0) := T4.out.1.2.1
  have t2 : wy.cell? ⟨XT, 2, none⟩ = some (.string s) := T4.out.1.2.2
  have k0 : wy.cell? ⟨XK, 0, none⟩ = some (.int .i64 1) := C4.out.1.1
  have k1 : wy.cell? ⟨XK, 1, none⟩ = some (.int .i64 K) := C4.out.1.2.1
  have k2 : wy.cell? ⟨XK, 2, none⟩ = some (.string no) := C4.out.1.2.2
  have a0 : wy.cell? ⟨XA, 0, none⟩ = some (.int .i64 3) := oa.out.1.1
  have a1 : wy.cell? ⟨XA, 1, none⟩ = some (.int .i64 0) := oa.out.1.2.1
  have a2 : wy.cell? ⟨XA, 2, none⟩ = some (.string a) := oa.out.1.2.2
  have b0 : wy.cell? ⟨XB, 0, none⟩ = some (.int .i64 3) := ob.out.1.1
  have b1 : wy.cell? ⟨XB, 1, none⟩ = some (.int .i64 0) := ob.out.1.2.1
  have b2 : wy.cell? ⟨XB, 2, none⟩ = some (.string b) := ob.out.1.2.2
  go_upto_region 11 with fail
  have HTy : Hid (∀ w', Below wy.heap.size wy w' → Tb w') := hide (fun w' hb => HT.out.keep (next K4.out hb))
  have HN1 := lnum_is 1
  have HNm := lnum_is (m : Int)
  have HNK := lnum_is (K : Int)
  have eab1 := eab.out
  have wadd : wrap64 ((m : Int) + 1) = (m : Int) + 1 := IntWalk.wrap64_in _ ⟨by omega, by have := hK.out; have := hm.out; omega⟩
  have zab : a.size + b.size = s.size := by rw [← eab1, ByteArray.size_append]
  have q4 : ¬ 9223372036854775807 < a.size + b.size := by omega
  have zabH := hide zab
  clear zab
  have HNn : CallIs 12 #[.int .i64 (IntKind.i64.wrap ((m : Int) + 1))] (vV 1 ((m : Int) + 1) no) := by rw [IntWalk.i64_left, wadd]; exact lnum_is _
  have na := va_neq 3 0 a
  have nb := va_neq 3 0 b
  have M1 : Hid (∀ w' : World, Tb w' → Calls Tryz.prog 11 #[.int .i64 19, .slice (some ⟨w'.heap.size, 0, none⟩) 3 3] (w'.alloc (.cells #[.int .i64 3, .int .i64 0, .string s, .int .i64 1, .int .i64 1, .string no, .int .i64 1, .int .i64 m, .string no] 30)) fun e w'' => e = .returned (vV 3 0 a) ∧ Below (w'.alloc (.cells #[.int .i64 3, .int .i64 0, .string s, .int .i64 1, .int .i64 1, .string no, .int .i64 1, .int .i64 m, .string no] 30)).heap.size (w'.alloc (.cells #[.int .i64 3, .int .i64 0, .string s, .int .i64 1, .int .i64 1, .string no, .int .i64 1, .int .i64 m, .string no] 30)) w'') := hide (fun w' h' => is3 19 ⟨3, 0, s⟩ ⟨1, 1, no⟩ ⟨1, m, no⟩ ⟨3, 0, a⟩ HMid1.out w' h')
  have M2 : Hid (∀ w' : World, Tb w' → Calls Tryz.prog 11 #[.int .i64 19, .slice (some ⟨w'.heap.size, 0, none⟩) 3 3] (w'.alloc (.cells #[.int .i64 3, .int .i64 0, .string s, .int .i64 1, .int .i64 ((m : Int) + 1), .string no, .int .i64 1, .int .i64 K, .string no] 30)) fun e w'' => e = .returned (vV 3 0 b) ∧ Below (w'.alloc (.cells #[.int .i64 3, .int .i64 0, .string s, .int .i64 1, .int .i64 ((m : Int) + 1), .string no, .int .i64 1, .int .i64 K, .string no] 30)).heap.size (w'.alloc (.cells #[.int .i64 3, .int .i64 0, .string s, .int .i64 1, .int .i64 ((m : Int) + 1), .string no, .int .i64 1, .int .i64 K, .string no] 30)) w'') := hide (fun w' h' => is3 19 ⟨3, 0, s⟩ ⟨1, ((m : Int) + 1), no⟩ ⟨1, K, no⟩ ⟨3, 0, b⟩ HMid2.out w' h')
  have keyS : Hid (∀ w' : World, Below wy.heap.size wy w' → (w'.cell? ⟨XT, 0, none⟩ = some (.int .i64 3) ∧ w'.cell? ⟨XT, 1, none⟩ = some (.int .i64 0) ∧ w'.cell? ⟨XT, 2, none⟩ = some (.string s) ∧ w'.cell? ⟨XK, 0, none⟩ = some (.int .i64 1) ∧ w'.cell? ⟨XK, 1, none⟩ = some (.int .i64 (K : Int)) ∧ w'.cell? ⟨XK, 2, none⟩ = some (.string no) ∧ w'.cell? ⟨XA, 0, none⟩ = some (.int .i64 3) ∧ w'.cell? ⟨XA, 1, none⟩ = some (.int .i64 0) ∧ w'.cell? ⟨XA, 2, none⟩ = some (.string a) ∧ w'.cell? ⟨XB, 0, none⟩ = some (.int .i64 3) ∧ w'.cell? ⟨XB, 1, none⟩ = some (.int .i64 0) ∧ w'.cell? ⟨XB, 2, none⟩ = some (.string b))) := hide (fun w' hb => ⟨keep1 hb T4.out.1.1, keep1 hb T4.out.1.2.1, keep1 hb T4.out.1.2.2, keep1 hb C4.out.1.1, keep1 hb C4.out.1.2.1, keep1 hb C4.out.1.2.2, keep1 hb oa.out.1.1, keep1 hb oa.out.1.2.1, keep1 hb oa.out.1.2.2, keep1 hb ob.out.1.1, keep1 hb ob.out.1.2.1, keep1 hb ob.out.1.2.2⟩)
  clear t0 t1 t2 k0 k1 k2 a0 a1 a2 b0 b1 b2
  go_cut [108] from 69 to 107 (fun c wx => c = .bool false ∧ Hid (Below wy.heap.size wy wx))
  case first =>
    go_region_held (fun w' : World => w'.cell? ⟨XT, 0, none⟩ = some (.int .i64 3) ∧ w'.cell? ⟨XT, 1, none⟩ = some (.int .i64 0) ∧ w'.cell? ⟨XT, 2, none⟩ = some (.string s) ∧ w'.cell? ⟨XK, 0, none⟩ = some (.int .i64 1) ∧ w'.cell? ⟨XK, 1, none⟩ = some (.int .i64 (K : Int)) ∧ w'.cell? ⟨XK, 2, none⟩ = some (.string no) ∧ w'.cell? ⟨XA, 0, none⟩ = some (.int .i64 3) ∧ w'.cell? ⟨XA, 1, none⟩ = some (.int .i64 0) ∧ w'.cell? ⟨XA, 2, none⟩ = some (.string a) ∧ w'.cell? ⟨XB, 0, none⟩ = some (.int .i64 3) ∧ w'.cell? ⟨XB, 1, none⟩ = some (.int .i64 0) ∧ w'.cell? ⟨XB, 2, none⟩ = some (.string b)) ((refine keyS.out _ ?_; first | (with_reducible exact KF.out) | (with_reducible exact step KF.out _) | (with_reducible exact KE.out) | (with_reducible exact step KE.out _) | (with_reducible exact KD.out) | (with_reducible exact step KD.out _) | (with_reducible exact KC.out) | (with_reducible exact step KC.out _) | (with_reducible exact KB.out) | (with_reducible exact step KB.out _) | (with_reducible exact KA.out) | (with_reducible exact step KA.out _) | (with_reducible exact (Below.refl _ _).drew))) (first | ((with_reducible refine (HN1.out _).mono ?_); rintro e w5 ⟨rfl, hb⟩; have KA : Hid (Below wy.heap.size wy w5) := hide (next ((Below.refl _ _).drew) hb); clear hb) | ((with_reducible refine (HNm.out _).mono ?_); rintro e w6 ⟨rfl, hb⟩; have KB : Hid (Below wy.heap.size wy w6) := hide (next (KA.out) hb); clear hb) | ((with_reducible refine (M1.out _ (HTy.out _ KB.out)).mono ?_); rintro e w7 ⟨rfl, hb⟩; have KC : Hid (Below wy.heap.size wy w7) := hide (next (step KB.out _) hb); clear hb) | ((with_reducible refine (HNn.out _).mono ?_); rintro e w8 ⟨rfl, hb⟩; have KD : Hid (Below wy.heap.size wy w8) := hide (next (KC.out) hb); clear hb) | ((with_reducible refine (HNK.out _).mono ?_); rintro e w9 ⟨rfl, hb⟩; have KE : Hid (Below wy.heap.size wy w9) := hide (next (KD.out) hb); clear hb) | ((with_reducible refine (M2.out _ (HTy.out _ KE.out)).mono ?_); rintro e w10 ⟨rfl, hb⟩; have KF : Hid (Below wy.heap.size wy w10) := hide (next (step KE.out _) hb); clear hb))
    go_wp2_with fail
    go_meet
    exact ⟨rfl, KF⟩
  case rest =>
    obtain ⟨rfl, J1⟩ := hcut
    obtain ⟨v1, rfl⟩ : ∃ v1, v1 = wc := ⟨_, rfl⟩
    clear M1 M2 HNK
    go_upto_region 13 with fail
    have LTu := ltext_is u
    have LTaub := ltext_is (a ++ u ++ b)
    have LTub := ltext_is (u ++ b)
    have HN0 := lnum_is 0
    have naub := va_neq 3 0 (a ++ u ++ b)
    have nub := va_neq 3 0 (u ++ b)
    have q5 : ¬ 9223372036854775807 < a.size + u.size := by have := zabH.out; omega
    have q6 : ¬ 9223372036854775807 < a.size + u.size + b.size := by have := zabH.out; omega
    have q7 : ¬ 9223372036854775807 < u.size + b.size := by have := zabH.out; omega
    have R1 : Hid (∀ w' : World, Tb w' → Calls Tryz.prog 11 #[.int .i64 26, .slice (some ⟨w'.heap.size, 0, none⟩) 4 4] (w'.alloc (.cells #[.int .i64 3, .int .i64 0, .string s, .int .i64 1, .int .i64 ((m : Int) + 1), .string no, .int .i64 1, .int .i64 0, .string no, .int .i64 3, .int .i64 0, .string u] 30)) fun e w'' => e = .returned (vV 3 0 (a ++ u ++ b)) ∧ Below (w'.alloc (.cells #[.int .i64 3, .int .i64 0, .string s, .int .i64 1, .int .i64 ((m : Int) + 1), .string no, .int .i64 1, .int .i64 0, .string no, .int .i64 3, .int .i64 0, .string u] 30)).heap.size (w'.alloc (.cells #[.int .i64 3, .int .i64 0, .string s, .int .i64 1, .int .i64 ((m : Int) + 1), .string no, .int .i64 1, .int .i64 0, .string no, .int .i64 3, .int .i64 0, .string u] 30)) w'') := hide (fun w' h' => is4 26 ⟨3, 0, s⟩ ⟨1, ((m : Int) + 1), no⟩ ⟨1, 0, no⟩ ⟨3, 0, u⟩ ⟨3, 0, a ++ u ++ b⟩ HRep1.out w' h')
    have R2 : Hid (∀ w' : World, Tb w' → Calls Tryz.prog 11 #[.int .i64 26, .slice (some ⟨w'.heap.size, 0, none⟩) 4 4] (w'.alloc (.cells #[.int .i64 3, .int .i64 0, .string s, .int .i64 1, .int .i64 1, .string no, .int .i64 1, .int .i64 m, .string no, .int .i64 3, .int .i64 0, .string u] 30)) fun e w'' => e = .returned (vV 3 0 (u ++ b)) ∧ Below (w'.alloc (.cells #[.int .i64 3, .int .i64 0, .string s, .int .i64 1, .int .i64 1, .string no, .int .i64 1, .int .i64 m, .string no, .int .i64 3, .int .i64 0, .string u] 30)).heap.size (w'.alloc (.cells #[.int .i64 3, .int .i64 0, .string s, .int .i64 1, .int .i64 1, .string no, .int .i64 1, .int .i64 m, .string no, .int .i64 3, .int .i64 0, .string u] 30)) w'') := hide (fun w' h' => is4 26 ⟨3, 0, s⟩ ⟨1, 1, no⟩ ⟨1, m, no⟩ ⟨3, 0, u⟩ ⟨3, 0, u ++ b⟩ HRep2.out w' h')
    go_cut [142] from 109 to 141 (fun c wx => c = .bool false ∧ Hid (Below v1.heap.size v1 wx))
    case first =>
      have keyT : Hid (∀ w' : World, Below v1.heap.size v1 w' → (w'.cell? ⟨XT, 0, none⟩ = some (.int .i64 3) ∧ w'.cell? ⟨XT, 1, none⟩ = some (.int .i64 0) ∧ w'.cell? ⟨XT, 2, none⟩ = some (.string s) ∧ w'.cell? ⟨XK, 0, none⟩ = some (.int .i64 1) ∧ w'.cell? ⟨XK, 1, none⟩ = some (.int .i64 (K : Int)) ∧ w'.cell? ⟨XK, 2, none⟩ = some (.string no) ∧ w'.cell? ⟨XA, 0, none⟩ = some (.int .i64 3) ∧ w'.cell? ⟨XA, 1, none⟩ = some (.int .i64 0) ∧ w'.cell? ⟨XA, 2, none⟩ = some (.string a) ∧ w'.cell? ⟨XB, 0, none⟩ = some (.int .i64 3) ∧ w'.cell? ⟨XB, 1, none⟩ = some (.int .i64 0) ∧ w'.cell? ⟨XB, 2, none⟩ = some (.string b))) := hide (fun w' hb => keyS.out w' (next J1.out hb))
      have HT1 : Hid (∀ w' : World, Below v1.heap.size v1 w' → Tb w') := hide (fun w' hb => HTy.out w' (next J1.out hb))
      go_region_held (fun w' : World => w'.cell? ⟨XT, 0, none⟩ = some (.int .i64 3) ∧ w'.cell? ⟨XT, 1, none⟩ = some (.int .i64 0) ∧ w'.cell? ⟨XT, 2, none⟩ = some (.string s) ∧ w'.cell? ⟨XK, 0, none⟩ = some (.int .i64 1) ∧ w'.cell? ⟨XK, 1, none⟩ = some (.int .i64 (K : Int)) ∧ w'.cell? ⟨XK, 2, none⟩ = some (.string no) ∧ w'.cell? ⟨XA, 0, none⟩ = some (.int .i64 3) ∧ w'.cell? ⟨XA, 1, none⟩ = some (.int .i64 0) ∧ w'.cell? ⟨XA, 2, none⟩ = some (.string a) ∧ w'.cell? ⟨XB, 0, none⟩ = some (.int .i64 3) ∧ w'.cell? ⟨XB, 1, none⟩ = some (.int .i64 0) ∧ w'.cell? ⟨XB, 2, none⟩ = some (.string b)) ((refine keyT.out _ ?_; first | (with_reducible exact KJ.out) | (with_reducible exact step KJ.out _) | (with_reducible exact KI.out) | (with_reducible exact step KI.out _) | (with_reducible exact KH.out) | (with_reducible exact step KH.out _) | (with_reducible exact KG.out) | (with_reducible exact step KG.out _) | (with_reducible exact KF.out) | (with_reducible exact step KF.out _) | (with_reducible exact KE.out) | (with_reducible exact step KE.out _) | (with_reducible exact KD.out) | (with_reducible exact step KD.out _) | (with_reducible exact KC.out) | (with_reducible exact step KC.out _) | (with_reducible exact KB.out) | (with_reducible exact step KB.out _) | (with_reducible exact KA.out) | (with_reducible exact step KA.out _) | (with_reducible exact (Below.refl _ _).drew))) (first | ((with_reducible refine (HNn.out _).mono ?_); rintro e w5 ⟨rfl, hb⟩; have KA : Hid (Below v1.heap.size v1 w5) := hide (next ((Below.refl _ _).drew) hb); clear hb) | ((with_reducible refine (HN0.out _).mono ?_); rintro e w6 ⟨rfl, hb⟩; have KB : Hid (Below v1.heap.size v1 w6) := hide (next (KA.out) hb); clear hb) | ((with_reducible refine (LTu.out _).mono ?_); rintro e w7 ⟨rfl, hb⟩; have KC : Hid (Below v1.heap.size v1 w7) := hide (next (KB.out) hb); clear hb) | ((with_reducible refine (R1.out _ (HT1.out _ KC.out)).mono ?_); rintro e w8 ⟨rfl, hb⟩; have KD : Hid (Below v1.heap.size v1 w8) := hide (next (step KC.out _) hb); clear hb) | ((with_reducible refine (LTaub.out _).mono ?_); rintro e w9 ⟨rfl, hb⟩; have KE : Hid (Below v1.heap.size v1 w9) := hide (next (KD.out) hb); clear hb) | ((with_reducible refine (HN1.out _).mono ?_); rintro e w10 ⟨rfl, hb⟩; have KF : Hid (Below v1.heap.size v1 w10) := hide (next (KE.out) hb); clear hb) | ((with_reducible refine (HNm.out _).mono ?_); rintro e w11 ⟨rfl, hb⟩; have KG : Hid (Below v1.heap.size v1 w11) := hide (next (KF.out) hb); clear hb) | ((with_reducible refine (LTu.out _).mono ?_); rintro e w12 ⟨rfl, hb⟩; have KH : Hid (Below v1.heap.size v1 w12) := hide (next (KG.out) hb); clear hb) | ((with_reducible refine (R2.out _ (HT1.out _ KH.out)).mono ?_); rintro e w13 ⟨rfl, hb⟩; have KI : Hid (Below v1.heap.size v1 w13) := hide (next (step KH.out _) hb); clear hb) | ((with_reducible refine (LTub.out _).mono ?_); rintro e w14 ⟨rfl, hb⟩; have KJ : Hid (Below v1.heap.size v1 w14) := hide (next (KI.out) hb); clear hb))
      go_wp2_with fail
      go_meet
      exact ⟨rfl, KJ⟩
    case rest =>
      obtain ⟨rfl, J2⟩ := hcut
      obtain ⟨v2, rfl⟩ : ∃ v2, v2 = wc := ⟨_, rfl⟩
      clear R1 R2 LTu LTaub LTub HN0 naub nub q5 q6 q7 HNn na nb wadd q4
      have SS : Hid (∀ w' : World, Below v2.heap.size v2 w' → (O3 w' XT (.int .i64 3) (.int .i64 0) (.string s) ∧ O3 w' XA (.int .i64 3) (.int .i64 0) (.string a) ∧ O3 w' XB (.int .i64 3) (.int .i64 0) (.string b))) := hide (fun w' hb => ⟨T4.out.keep (next (next J1.out J2.out) hb), oa.out.keep (next (next J1.out J2.out) hb), ob.out.keep (next (next J1.out J2.out) hb)⟩)
      have HT2 : Hid (∀ w' : World, Below v2.heap.size v2 w' → Tb w') := hide (fun w' hb => HTy.out w' (next (next J1.out J2.out) hb))
      have K5 := hide (next (next K4.out J1.out) J2.out)
      have C5 := hide (C4.out.keep (next J1.out J2.out))
      have T5 := hide (T4.out.keep (next J1.out J2.out))
      have oa5 := hide (oa.out.keep (next J1.out J2.out))
      have ob5 := hide (ob.out.keep (next J1.out J2.out))
      clear J1 J2 keyS HTy K4 C4 T4 oa ob
      go_upto_region 15 with fail
      go_cut [171] from 143 to 170 (fun c wx => c = .bool false ∧ Hid (Below v2.heap.size v2 wx))
      case first =>
        cases bs with
        | true =>
          have HRev3 : Hid (FunIs 23 [⟨3, 0, sr⟩] ⟨3, 0, s⟩) := hide (by rw [← hbs.out rfl]; exact HRev2.out)
          refine reg15t SS HT2 HSnd HRev1 HRev3 HLow HUp1 HUp2 HJoin ?_
          intro w₁ x143 x144 x145 x146 x147 x148 x149 x150 x151 x152 x153 x154 x155 x156 x157 x158 x159 x160 x161 x162 x163 x164 x165 x166 x167 x168 x169 x170 hB
          go_wp2_with fail
          go_meet
          exact ⟨rfl, hide hB⟩
        | false =>
          refine reg15f (sr := no) SS HT2 HSnd HLow HUp1 HUp2 HJoin ?_
          intro w₁ x143 x144 x145 x146 x147 x148 x149 x150 x151 x152 x153 x154 x155 x156 x157 x158 x159 x160 x161 x162 x163 x164 x165 x166 x167 x168 x169 x170 hB
          go_wp2_with fail
          go_meet
          exact ⟨rfl, hide hB⟩
      case rest =>
        obtain ⟨rfl, J3⟩ := hcut
        obtain ⟨v3, rfl⟩ : ∃ v3, v3 = wc := ⟨_, rfl⟩
        have K6 := hide (next K5.out J3.out)
        have T6 := hide (T5.out.keep J3.out)
        have ob6 := hide (ob5.out.keep J3.out)
        clear SS HT2 K5 C5 T5 oa5 ob5 J3 HRev1 HRev2 HLow HUp1 HUp2 HJoin HSnd
        have t0 : v3.cell? ⟨XT, 0, none⟩ = some (.int .i64 3) := T6.out.1.1
        have t1 : v3.cell? ⟨XT, 1, none⟩ = some (.int .i64 0) := T6.out.1.2.1
        have t2 : v3.cell? ⟨XT, 2, none⟩ = some (.string s) := T6.out.1.2.2
        have b0 : v3.cell? ⟨XB, 0, none⟩ = some (.int .i64 3) := ob6.out.1.1
        have b1 : v3.cell? ⟨XB, 1, none⟩ = some (.int .i64 0) := ob6.out.1.2.1
        have b2 : v3.cell? ⟨XB, 2, none⟩ = some (.string b) := ob6.out.1.2.2
        go_wp2_with fail
        refine (is2 24 ⟨3, 0, b⟩ ⟨3, 0, s⟩ ⟨1, qf, no⟩ HFind.out _ (HT.out.keep K6.out)).mono ?_
        rintro e w8 ⟨rfl, hb8⟩
        have K7 := hide (step (next (step K6.out _) hb8) (vO 1 qf no))
        have T7 := hide (((T6.out.alloc _).keep hb8).alloc (vO 1 qf no))
        have F7 := hide (O3.new w8 (.int .i64 1) (.int .i64 qf) (.string no) 30)
        clear hb8 K6 T6 ob6 t0 t1 t2 b0 b1 b2
        have f0 : (w8.alloc (vO 1 qf no)).cell? ⟨w8.heap.size, 0, none⟩ = some (.int .i64 1) := F7.out.1.1
        have f1 : (w8.alloc (vO 1 qf no)).cell? ⟨w8.heap.size, 1, none⟩ = some (.int .i64 qf) := F7.out.1.2.1
        have q1 : ((1 : Int) != 1) = false := by decide
        have wadd : wrap64 ((m : Int) + 1) = (m : Int) + 1 := IntWalk.wrap64_in _ ⟨by omega, by have := hK.out; have := hm.out; omega⟩
        have q2 : decide ((m : Int) + 1 < qf) = false := by have := hq2.out; simp; omega
        have q3 : decide (qf < 1) = false := by have := hq1.out; simp; omega
        go_upto_region 20 with fail
        obtain ⟨v4, hv4⟩ : ∃ v4, w8.alloc (vO 1 qf no) = v4 := ⟨_, rfl⟩
        obtain ⟨XF, hXF⟩ : ∃ XF, w8.heap.size = XF := ⟨_, rfl⟩
        rw [hv4] at K7 T7
        try rw [hv4]
        try rw [hXF]
        clear hv4 hXF f0 f1 q1 q2 q3 wadd F7
        have SS : Hid (∀ w' : World, Below v4.heap.size v4 w' → O3 w' XT (.int .i64 3) (.int .i64 0) (.string s)) := hide (fun w' hb => T7.out.keep hb)
        have HT4 : Hid (∀ w' : World, Below v4.heap.size v4 w' → Tb w') := hide (fun w' hb => HT.out.keep (next K7.out hb))
        have HNq := lnum_is nr
        obtain ⟨ok, oi, ot⟩ := out
        refine region_inv (fun (L : Nat → Bool) (a₁ : Act) (w₁ : World) => ∃ (x191 x192 x193 x194 x195 x196 x13 : Value) (XR : Nat), a₁ = ⟨#[.string s, .int .i64 (n : Int), .string u, undef, undef, undef, .bool false, .pointer (some ⟨XT, 0, none⟩), .pointer (some ⟨XK, 0, none⟩), .int .i64 (m : Int), .pointer (some ⟨XA, 0, none⟩), .pointer (some ⟨XB, 0, none⟩), .pointer (some ⟨XF, 0, none⟩), x13, .bool true, .bool false, .string s, .int .i64 (s.size : Int), .bool false, .bool false, .string u, .int .i64 (u.size : Int), .bool false, .bool false, .bool false, .int .i64 (n : Int), .bool false, .bool false, .bool false, .int .i64 (n : Int), .bool false, .bool false, .string s, vV 3 0 s, .agg #[.int .i64 3, .int .i64 0, .string s], .slice (some ⟨wt.heap.size, 0, none⟩) 1 1, vV 1 (K : Int) no, .pointer (some ⟨XK, 0, none⟩), .int .i64 1, .bool false, .bool false, .pointer (some ⟨XK, 1, none⟩), .int .i64 (K : Int), .bool false, .bool false, .bool false, .pointer (some ⟨XK, 1, none⟩), .int .i64 (K : Int), .string s, .int .i64 (s.size : Int), .bool false, .bool false, .int .i64 (n : Int), .pointer (some ⟨XK, 1, none⟩), .int .i64 (K : Int), .int .i64 (m : Int), .agg #[.int .i64 3, .int .i64 0, .string s], .int .i64 (m : Int), vV 1 (m : Int) no, x59, vV 3 0 a, .agg #[.int .i64 3, .int .i64 0, .string s], .pointer (some ⟨XK, 1, none⟩), .int .i64 (K : Int), .int .i64 (m : Int), .int .i64 ((K : Int) - (m : Int)), vV 1 ((K : Int) - (m : Int)) no, x67, vV 3 0 b, u69, u70, u71, u72, u73, u74, u75, u76, u77, u78, u79, u80, u81, u82, u83, u84, u85, u86, u87, u88, u89, u90, u91, u92, u93, u94, u95, u96, u97, u98, u99, u100, u101, u102, u103, u104, u105, u106, u107, .bool false, u109, u110, u111, u112, u113, u114, u115, u116, u117, u118, u119, u120, u121, u122, u123, u124, u125, u126, u127, u128, u129, u130, u131, u132, u133, u134, u135, u136, u137, u138, u139, u140, u141, .bool false, u143, u144, u145, u146, u147, u148, u149, u150, u151, u152, u153, u154, u155, u156, u157, u158, u159, u160, u161, u162, u163, u164, u165, u166, u167, u168, u169, u170, .bool false, .agg #[.int .i64 3, .int .i64 0, .string b], .agg #[.int .i64 3, .int .i64 0, .string s], .slice (some ⟨v3.heap.size, 0, none⟩) 2 2, vV 1 qf no, .pointer (some ⟨XF, 0, none⟩), .int .i64 1, .bool false, .bool false, .pointer (some ⟨XF, 1, none⟩), .int .i64 qf, .int .i64 (m : Int), .int .i64 (wrap64 ((m : Int) + 1)), .bool false, .bool false, .bool false, .pointer (some ⟨XF, 1, none⟩), .int .i64 qf, .bool false, .bool false, x191, x192, x193, x194, x195, x196, undef, undef, undef, undef, undef, undef, undef, undef, undef, undef, undef, undef, undef, undef, undef, undef, undef, undef, undef, undef, undef, undef, undef], []⟩ ∧ Below v4.heap.size v4 w₁ ∧ (L 0 = true → x191 = .agg #[.int .i64 3, .int .i64 0, .string s]) ∧ (L 1 = true → x192 = .int .i64 n) ∧ (L 2 = true → x193 = .int .i64 nr) ∧ (L 3 = true → x194 = vV 1 nr no) ∧ (L 4 = true → L 7 = false → SlF w₁ x195 2 [⟨3, 0, s⟩, ⟨1, nr, no⟩]) ∧ (L 5 = true → x196 = vV ok oi ot) ∧ (L 6 = true → BxF v4.heap.size w₁ x13 XR (if L 7 = true then ⟨ok, oi, ot⟩ else ⟨0, 0, no⟩)) ∧ (L 7 = true → L 6 = true ∧ L 5 = true)) (by kernel_rfl) (by kernel_rfl) ?_ ?_ ?_
        · exact ⟨undef, undef, undef, undef, undef, undef, undef, 0, rfl, (Below.refl _ _).drew, fun h => absurd h (by decide), fun h => absurd h (by decide), fun h => absurd h (by decide), fun h => absurd h (by decide), fun h => absurd h (by decide), fun h => absurd h (by decide), fun h => absurd h (by decide), fun h => absurd h (by decide)⟩
        · intro i hi L a₁ w₁ hI hLi hdep
          obtain ⟨x191, x192, x193, x194, x195, x196, x13, XR, rfl, hB, f0, f1, f2, f3, f4, f5, f6, fe⟩ := hI
          replace f0 := hide f0
          replace f1 := hide f1
          replace f2 := hide f2
          replace f3 := hide f3
          replace f4 := hide f4
          replace f5 := hide f5
          replace f6 := hide f6
          replace fe := hide fe
          replace hB := hide hB
          have hS := hide (SS.out _ hB.out)
          have hiN : i < 8 := hi
          clear hi
          have hcases : i = 0 ∨ i = 1 ∨ i = 2 ∨ i = 3 ∨ i = 4 ∨ i = 5 ∨ i = 6 ∨ i = 7 := by omega
          clear hiN
          rcases hcases with rfl | rfl | rfl | rfl | rfl | rfl | rfl | rfl
          · clear hdep
            obtain ⟨⟨c0, c1, c2⟩, _⟩ := hS.out
            refine wpOp_step rfl (fun K' hKK => ?_)
            replace hKK := hide hKK
            go_simp
            refine hKK.out _ _ ?_
            exact ⟨_, _, _, _, _, _, _, XR, rfl, hB.out, (fun _ => rfl), (fun h => f1.out (lk h (by decide))), (fun h => f2.out (lk h (by decide))), (fun h => f3.out (lk h (by decide))), (fun h h7 => (f4.out (lk h (by decide)) (lkf h7 (by decide)))), (fun h => f5.out (lk h (by decide))), (fun h => (f6.out (lk h (by decide)))), (fun h => (have h3 := fe.out (by simpa using h); ⟨by first | (simp; done) | simpa using h3.1, by first | (simp; done) | simpa using h3.2⟩))⟩
          · clear hdep
            refine wpOp_step rfl (fun K' hKK => ?_)
            replace hKK := hide hKK
            go_simp
            refine hKK.out _ _ ?_
            exact ⟨_, _, _, _, _, _, _, XR, rfl, hB.out, (fun h => f0.out (lk h (by decide))), (fun _ => rfl), (fun h => f2.out (lk h (by decide))), (fun h => f3.out (lk h (by decide))), (fun h h7 => (f4.out (lk h (by decide)) (lkf h7 (by decide)))), (fun h => f5.out (lk h (by decide))), (fun h => (f6.out (lk h (by decide)))), (fun h => (have h3 := fe.out (by simpa using h); ⟨by first | (simp; done) | simpa using h3.1, by first | (simp; done) | simpa using h3.2⟩))⟩
          · have l1 : L 1 = true := hdep _ rfl ⟨1, .data⟩ (by simp) (by rfl)
            clear hdep
            obtain rfl := f1.out l1
            have hnr1 := hnr.out
            refine wpOp_step rfl (fun K' hKK => ?_)
            replace hKK := hide hKK
            go_simp
            refine hKK.out _ _ ?_
            exact ⟨_, _, _, _, _, _, _, XR, rfl, hB.out, (fun h => f0.out (lk h (by decide))), (fun _ => rfl), (fun _ => rfl), (fun h => f3.out (lk h (by decide))), (fun h h7 => (f4.out (lk h (by decide)) (lkf h7 (by decide)))), (fun h => f5.out (lk h (by decide))), (fun h => (f6.out (lk h (by decide)))), (fun h => (have h3 := fe.out (by simpa using h); ⟨by first | (simp; done) | simpa using h3.1, by first | (simp; done) | simpa using h3.2⟩))⟩
          · have l2 : L 2 = true := hdep _ rfl ⟨2, .data⟩ (by simp) (by rfl)
            clear hdep
            obtain rfl := f2.out l2
            refine wpOp_step rfl (fun K' hKK => ?_)
            replace hKK := hide hKK
            go_simp
            go_wp2_with (refine (HNq.out _).mono ?_; rintro e w5 ⟨rfl, hb5⟩)
            refine hKK.out _ _ ?_
            exact ⟨_, _, _, _, _, _, _, XR, rfl, next hB.out hb5, (fun h => f0.out (lk h (by decide))), (fun h => f1.out (lk h (by decide))), (fun _ => rfl), (fun _ => rfl), (fun h h7 => (f4.out (lk h (by decide)) (lkf h7 (by decide))).keep hb5), (fun h => f5.out (lk h (by decide))), (fun h => (f6.out (lk h (by decide))).keep hb5), (fun h => (have h3 := fe.out (by simpa using h); ⟨by first | (simp; done) | simpa using h3.1, by first | (simp; done) | simpa using h3.2⟩))⟩
          · have l0 : L 0 = true := hdep _ rfl ⟨0, .data⟩ (by simp) (by rfl)
            have l3 : L 3 = true := hdep _ rfl ⟨3, .data⟩ (by simp) (by rfl)
            clear hdep
            obtain rfl := f0.out l0
            obtain rfl := f3.out l3
            refine wpOp_step rfl (fun K' hKK => ?_)
            replace hKK := hide hKK
            go_simp
            refine hKK.out _ _ ?_
            exact ⟨_, _, _, _, _, _, _, XR, rfl, step hB.out _, (fun _ => rfl), (fun h => f1.out (lk h (by decide))), (fun h => f2.out (lk h (by decide))), (fun _ => rfl), (fun _ _ => ⟨_, rfl, vals2 _ _ _⟩), (fun h => f5.out (lk h (by decide))), (fun h => (f6.out (lk h (by decide))).keep (step (Below.refl _ _) _)), (fun h => (have h3 := fe.out (by simpa using h); ⟨by first | (simp; done) | simpa using h3.1, by first | (simp; done) | simpa using h3.2⟩))⟩
          · have l4 : L 4 = true := hdep _ rfl ⟨4, .data⟩ (by simp) (by rfl)
            clear hdep
            obtain ⟨bs4, rfl, hv⟩ := f4.out l4 (by cases hc : L 7 with | false => rfl | true => exact absurd (fe.out hc).2 (by rw [hLi]; decide))
            refine wpOp_step rfl (fun K' hKK => ?_)
            replace hKK := hide hKK
            go_simp
            go_wp2_with (refine (is2v 27 ⟨3, 0, s⟩ ⟨1, nr, no⟩ ⟨ok, oi, ot⟩ HRept.out _ bs4 (HT4.out _ hB.out) hv).mono ?_; rintro e w5 ⟨rfl, hb5⟩)
            refine hKK.out _ _ ?_
            exact ⟨_, _, _, _, _, _, _, XR, rfl, next hB.out hb5, (fun h => f0.out (lk h (by decide))), (fun h => f1.out (lk h (by decide))), (fun h => f2.out (lk h (by decide))), (fun h => f3.out (lk h (by decide))), (fun _ _ => ⟨bs4, rfl, hv.keep hb5⟩), (fun _ => rfl), (fun h => (f6.out (lk h (by decide))).keep hb5), (fun h => (have h3 := fe.out (by simpa using h); ⟨by first | (simp; done) | simpa using h3.1, by first | (simp; done) | simpa using h3.2⟩))⟩
          · clear hdep
            refine wpOp_step rfl (fun K' hKK => ?_)
            replace hKK := hide hKK
            go_simp
            refine hKK.out _ _ ?_
            exact ⟨_, _, _, _, _, _, _, w₁.heap.size, rfl, step hB.out _, (fun h => f0.out (lk h (by decide))), (fun h => f1.out (lk h (by decide))), (fun h => f2.out (lk h (by decide))), (fun h => f3.out (lk h (by decide))), (fun h h7 => (f4.out (lk h (by decide)) (lkf h7 (by decide))).keep (step (Below.refl _ _) _)), (fun h => f5.out (lk h (by decide))), (fun _ => ⟨rfl, hB.out.size, by rw [if_neg (fun h7 => by have := (fe.out (by simpa using h7)).1; rw [hLi] at this; cases this)]; exact O3.new _ _ _ _ _⟩), (fun h => (have h3 := fe.out (by simpa using h); ⟨by first | (simp; done) | simpa using h3.1, by first | (simp; done) | simpa using h3.2⟩))⟩
          · have l6 : L 6 = true := hdep _ rfl ⟨6, .data⟩ (by simp) (by rfl)
            have l5 : L 5 = true := hdep _ rfl ⟨5, .data⟩ (by simp) (by rfl)
            clear hdep
            obtain rfl := f5.out l5
            obtain ⟨rfl, hxa, oa⟩ := f6.out l6
            simp only [hLi, Bool.false_eq_true, if_false] at oa
            have c0 := oa.1.1
            have c1 := oa.1.2.1
            have c2 := oa.1.2.2
            have fz := oa.2
            replace oa := hide oa
            refine wpOp_step rfl (fun K' hKK => ?_)
            replace hKK := hide hKK
            go_simp
            refine hKK.out _ _ ?_
            exact ⟨_, _, _, _, _, _, _, XR, rfl, below_put3 (b := XR) hB.out hxa (.int .i64 ok) (.int .i64 oi) (.string ot), (fun h => f0.out (lk h (by decide))), (fun h => f1.out (lk h (by decide))), (fun h => f2.out (lk h (by decide))), (fun h => f3.out (lk h (by decide))), (fun h h7 => by simp at h7), (fun _ => rfl), (fun _ => ⟨rfl, hxa, by rw [if_pos (by simp)]; exact oa.out.put _ _ _⟩), (fun _ => ⟨by simpa using l6, by simpa using l5⟩)⟩
        intro L a₁ w₁ hall hI
        obtain ⟨x191, x192, x193, x194, x195, x196, x13, XR, rfl, hB, f0, f1, f2, f3, f4, f5, f6, fe⟩ := hI
        obtain rfl := f0 (hall 0 (by decide))
        obtain rfl := f1 (hall 1 (by decide))
        obtain rfl := f2 (hall 2 (by decide))
        obtain rfl := f3 (hall 3 (by decide))
        obtain rfl := f5 (hall 5 (by decide))
        obtain ⟨rfl, hxa, rr⟩ := f6 (hall 6 (by decide))
        have l7 := hall 7 (by decide)
        simp only [l7, if_true] at rr
        clear f0 f1 f2 f3 f4 f5 f6 fe hall l7 hxa
        replace hB := hide hB
        have RR := hide rr
        clear rr
        have K8 := hide (next K7.out hB.out)
        obtain ⟨v5, rfl⟩ : ∃ v5, v5 = w₁ := ⟨_, rfl⟩
        clear SS HT4 HNq K7 T7 hB
        have r0 : v5.cell? ⟨XR, 0, none⟩ = some (.int .i64 ok) := RR.out.1.1
        have r1 : v5.cell? ⟨XR, 1, none⟩ = some (.int .i64 oi) := RR.out.1.2.1
        have r2 : v5.cell? ⟨XR, 2, none⟩ = some (.string ot) := RR.out.1.2.2
        have hnr1 := hnr.out
        have hsz1 := hsz.out
        rcases hout.out with ⟨h1, h2⟩ | ⟨h1, r, h2, h3⟩
        · injection h2 with e1 e2 e3
          subst e1 e2 e3
          have r0' := cell_regrown r0
          have r1' := cell_regrown r1
          have r2' := cell_regrown r2
          have kq0 := fun d' os => Calls.regrown_of ((lbad_is 4).out (grow (redrawn v5 d') os))
          have eb := va_eq1 4 4 no
          go_upto_region 22 with fail
          refine wp_region_quiet_below (by kernel_rfl) (by kernel_rfl) ?_
          repeat (go_big_quiet_step (with_reducible exact kq0 _ _))
          refine wpQuiet_nil ?_
          intro wq hwq
          have BQ : Below v5.heap.size v5 wq := by obtain ⟨⟨dq, osq⟩, hq⟩ := hwq; rw [hq]; exact below_regrown _ dq osq
          clear hwq
          go_wp2_with fail
          go_ret
          exact ⟨rfl, next K8.out BQ⟩
        · injection h2 with e1 e2 e3
          subst e1 e2 e3
          have q5 : ((ot.size : Int) == sz) = true := by rw [h3]; simp
          go_wp2_with fail
          go_ret
          exact ⟨rfl, K8.out⟩
end Go.Proofs.YtjmdhfopokmhcaaGreatDoor
