/- CalcTexts: its drawn statement on what is turned, in capitals and joined, by itself. Proved of the Go text. -/
import Derived.Test.YtjmdhfopokmhcaaGreatDoorTxK14
namespace Go.Proofs.YtjmdhfopokmhcaaGreatDoor
open Go.RowKit Go.Sort
set_option linter.unusedVariables false
set_option linter.unusedSimpArgs false

def c1T : Code → Code
  | .seq a _ => a
  | .cond _ a _ => a
  | .block _ b => b
  | .loop b => b
  | c => c
def c2T : Code → Code
  | .seq _ b => b
  | .cond _ _ b => b
  | c => c
def rg15T (c : Code) : Code := c1T (c1T (c2T (c2T (c2T (c2T (c2T (c2T (c2T (c2T (c2T (c2T c)))))))))))
set_option maxHeartbeats 32000000 in
set_option maxRecDepth 100000 in
theorem reg15t {v2 : World} {s a b sr lw up : ByteArray} {XT XA XB : Nat} (SS : Hid (∀ w' : World, Below v2.heap.size v2 w' → (O3 w' XT (.int .i64 3) (.int .i64 0) (.string s) ∧ O3 w' XA (.int .i64 3) (.int .i64 0) (.string a) ∧ O3 w' XB (.int .i64 3) (.int .i64 0) (.string b)))) (HT2 : Hid (∀ w' : World, Below v2.heap.size v2 w' → Tb w')) (HSnd : CallIs 13 #[.string s] (.bool true)) (HRev1 : Hid (FunIs 23 [⟨3, 0, s⟩] ⟨3, 0, sr⟩)) (HRev3 : Hid (FunIs 23 [⟨3, 0, sr⟩] ⟨3, 0, s⟩)) (HLow : Hid (FunIs 21 [⟨3, 0, s⟩] ⟨3, 0, lw⟩)) (HUp1 : Hid (FunIs 20 [⟨3, 0, lw⟩] ⟨3, 0, up⟩)) (HUp2 : Hid (FunIs 20 [⟨3, 0, s⟩] ⟨3, 0, up⟩)) (HJoin : CallT 14 #[.int .i64 6, vV 3 0 a, vV 3 0 b] (vV 3 0 s)) {Q : Exit → Act → World → Prop} {y1 y2 y3 y4 y5 y6 y8 y9 y12 y13 y14 y15 y16 y17 y18 y19 y20 y21 y22 y23 y24 y25 y26 y27 y28 y29 y30 y31 y32 y33 y34 y35 y36 y37 y38 y39 y40 y41 y42 y43 y44 y45 y46 y47 y48 y49 y50 y51 y52 y53 y54 y55 y56 y57 y58 y59 y60 y61 y62 y63 y64 y65 y66 y67 y68 y69 y70 y71 y72 y73 y74 y75 y76 y77 y78 y79 y80 y81 y82 y83 y84 y85 y86 y87 y88 y89 y90 y91 y92 y93 y94 y95 y96 y97 y98 y99 y100 y101 y102 y103 y104 y105 y106 y107 y108 y109 y110 y111 y112 y113 y114 y115 y116 y117 y118 y119 y120 y121 y122 y123 y124 y125 y126 y127 y128 y129 y130 y131 y132 y133 y134 y135 y136 y137 y138 y139 y140 y141 y142 y143 y144 y145 y146 y147 y148 y149 y150 y151 y152 y153 y154 y155 y156 y157 y158 y159 y160 y161 y162 y163 y164 y165 y166 y167 y168 y169 y170 y171 y172 y173 y174 y175 y176 y177 y178 y179 y180 y181 y182 y183 y184 y185 y186 y187 y188 y189 y190 y191 y192 y193 y194 y195 y196 y197 y198 y199 y200 y201 y202 y203 y204 y205 y206 y207 y208 y209 y210 y211 y212 y213 y214 y215 y216 y217 y218 y219 : Value}
    (hQ : ∀ (w' : World) (x143 x144 x145 x146 x147 x148 x149 x150 x151 x152 x153 x154 x155 x156 x157 x158 x159 x160 x161 x162 x163 x164 x165 x166 x167 x168 x169 x170 : Value), Below v2.heap.size v2 w' → Q .normal ⟨#[.string s, y1, y2, y3, y4, y5, y6, .pointer (some ⟨XT, 0, none⟩), y8, y9, .pointer (some ⟨XA, 0, none⟩), .pointer (some ⟨XB, 0, none⟩), y12, y13, y14, y15, y16, y17, y18, y19, y20, y21, y22, y23, y24, y25, y26, y27, y28, y29, y30, y31, y32, y33, y34, y35, y36, y37, y38, y39, y40, y41, y42, y43, y44, y45, y46, y47, y48, y49, y50, y51, y52, y53, y54, y55, y56, y57, y58, y59, y60, y61, y62, y63, y64, y65, y66, y67, y68, y69, y70, y71, y72, y73, y74, y75, y76, y77, y78, y79, y80, y81, y82, y83, y84, y85, y86, y87, y88, y89, y90, y91, y92, y93, y94, y95, y96, y97, y98, y99, y100, y101, y102, y103, y104, y105, y106, y107, y108, y109, y110, y111, y112, y113, y114, y115, y116, y117, y118, y119, y120, y121, y122, y123, y124, y125, y126, y127, y128, y129, y130, y131, y132, y133, y134, y135, y136, y137, y138, y139, y140, y141, y142, x143, x144, x145, x146, x147, x148, x149, x150, x151, x152, x153, x154, x155, x156, x157, x158, x159, x160, x161, x162, x163, x164, x165, x166, x167, x168, x169, x170, .bool false, y172, y173, y174, y175, y176, y177, y178, y179, y180, y181, y182, y183, y184, y185, y186, y187, y188, y189, y190, y191, y192, y193, y194, y195, y196, y197, y198, y199, y200, y201, y202, y203, y204, y205, y206, y207, y208, y209, y210, y211, y212, y213, y214, y215, y216, y217, y218, y219], []⟩ w') : (rg15T (Tryz.f4.body.getD .skip)).wp Tryz.prog Q ⟨#[.string s, y1, y2, y3, y4, y5, y6, .pointer (some ⟨XT, 0, none⟩), y8, y9, .pointer (some ⟨XA, 0, none⟩), .pointer (some ⟨XB, 0, none⟩), y12, y13, y14, y15, y16, y17, y18, y19, y20, y21, y22, y23, y24, y25, y26, y27, y28, y29, y30, y31, y32, y33, y34, y35, y36, y37, y38, y39, y40, y41, y42, y43, y44, y45, y46, y47, y48, y49, y50, y51, y52, y53, y54, y55, y56, y57, y58, y59, y60, y61, y62, y63, y64, y65, y66, y67, y68, y69, y70, y71, y72, y73, y74, y75, y76, y77, y78, y79, y80, y81, y82, y83, y84, y85, y86, y87, y88, y89, y90, y91, y92, y93, y94, y95, y96, y97, y98, y99, y100, y101, y102, y103, y104, y105, y106, y107, y108, y109, y110, y111, y112, y113, y114, y115, y116, y117, y118, y119, y120, y121, y122, y123, y124, y125, y126, y127, y128, y129, y130, y131, y132, y133, y134, y135, y136, y137, y138, y139, y140, y141, y142, y143, y144, y145, y146, y147, y148, y149, y150, y151, y152, y153, y154, y155, y156, y157, y158, y159, y160, y161, y162, y163, y164, y165, y166, y167, y168, y169, y170, y171, y172, y173, y174, y175, y176, y177, y178, y179, y180, y181, y182, y183, y184, y185, y186, y187, y188, y189, y190, y191, y192, y193, y194, y195, y196, y197, y198, y199, y200, y201, y202, y203, y204, y205, y206, y207, y208, y209, y210, y211, y212, y213, y214, y215, y216, y217, y218, y219], []⟩ v2 := by
  dsimp only [Tryz.f4, Option.getD, rg15T, c1T, c2T]
  refine region_inv (fun (L : Nat → Bool) (a₁ : Act) (w₁ : World) => ∃ (x143 x144 x145 x146 x147 x148 x149 x150 x151 x152 x153 x154 x155 x156 x157 x158 x159 x160 x161 x162 x163 x164 x165 x166 x167 x168 x169 x170 x171 : Value), a₁ = ⟨#[.string s, y1, y2, y3, y4, y5, y6, .pointer (some ⟨XT, 0, none⟩), y8, y9, .pointer (some ⟨XA, 0, none⟩), .pointer (some ⟨XB, 0, none⟩), y12, y13, y14, y15, y16, y17, y18, y19, y20, y21, y22, y23, y24, y25, y26, y27, y28, y29, y30, y31, y32, y33, y34, y35, y36, y37, y38, y39, y40, y41, y42, y43, y44, y45, y46, y47, y48, y49, y50, y51, y52, y53, y54, y55, y56, y57, y58, y59, y60, y61, y62, y63, y64, y65, y66, y67, y68, y69, y70, y71, y72, y73, y74, y75, y76, y77, y78, y79, y80, y81, y82, y83, y84, y85, y86, y87, y88, y89, y90, y91, y92, y93, y94, y95, y96, y97, y98, y99, y100, y101, y102, y103, y104, y105, y106, y107, y108, y109, y110, y111, y112, y113, y114, y115, y116, y117, y118, y119, y120, y121, y122, y123, y124, y125, y126, y127, y128, y129, y130, y131, y132, y133, y134, y135, y136, y137, y138, y139, y140, y141, y142, x143, x144, x145, x146, x147, x148, x149, x150, x151, x152, x153, x154, x155, x156, x157, x158, x159, x160, x161, x162, x163, x164, x165, x166, x167, x168, x169, x170, x171, y172, y173, y174, y175, y176, y177, y178, y179, y180, y181, y182, y183, y184, y185, y186, y187, y188, y189, y190, y191, y192, y193, y194, y195, y196, y197, y198, y199, y200, y201, y202, y203, y204, y205, y206, y207, y208, y209, y210, y211, y212, y213, y214, y215, y216, y217, y218, y219], []⟩ ∧ Below v2.heap.size v2 w₁ ∧ (L 0 = true → x143 = .string s) ∧ (L 1 = true → x144 = .bool true) ∧ (L 2 = true → x145 = .bool true) ∧ (L 3 = true → x146 = .agg #[.int .i64 3, .int .i64 0, .string s]) ∧ (L 4 = true → SlF w₁ x147 1 [⟨3, 0, s⟩]) ∧ (L 5 = true → x148 = vV 3 0 sr) ∧ (L 6 = true → SlF w₁ x149 1 [⟨3, 0, sr⟩]) ∧ (L 7 = true → x150 = vV 3 0 s) ∧ (L 8 = true → x151 = .agg #[.int .i64 3, .int .i64 0, .string s]) ∧ (L 9 = true → x152 = .bool false) ∧ (L 10 = true → x153 = .bool false) ∧ (L 11 = true → x154 = .bool false) ∧ (L 12 = true → x155 = .agg #[.int .i64 3, .int .i64 0, .string s]) ∧ (L 13 = true → SlF w₁ x156 1 [⟨3, 0, s⟩]) ∧ (L 14 = true → x157 = vV 3 0 lw) ∧ (L 15 = true → SlF w₁ x158 1 [⟨3, 0, lw⟩]) ∧ (L 16 = true → x159 = vV 3 0 up) ∧ (L 17 = true → x160 = .agg #[.int .i64 3, .int .i64 0, .string s]) ∧ (L 18 = true → SlF w₁ x161 1 [⟨3, 0, s⟩]) ∧ (L 19 = true → x162 = vV 3 0 up) ∧ (L 20 = true → x163 = .bool false) ∧ (L 21 = true → x164 = .bool false) ∧ (L 22 = true → x165 = .bool false) ∧ (L 23 = true → x166 = .agg #[.int .i64 3, .int .i64 0, .string a]) ∧ (L 24 = true → x167 = .agg #[.int .i64 3, .int .i64 0, .string b]) ∧ (L 25 = true → x168 = vV 3 0 s) ∧ (L 26 = true → x169 = .agg #[.int .i64 3, .int .i64 0, .string s]) ∧ (L 27 = true → x170 = .bool false) ∧ (L 28 = true → x171 = .bool false)) (by kernel_rfl) (by kernel_rfl) ?_ ?_ ?_
--STOP21
  · exact ⟨y143, y144, y145, y146, y147, y148, y149, y150, y151, y152, y153, y154, y155, y156, y157, y158, y159, y160, y161, y162, y163, y164, y165, y166, y167, y168, y169, y170, y171, rfl, (Below.refl _ _).drew, fun h => absurd h (by decide), fun h => absurd h (by decide), fun h => absurd h (by decide), fun h => absurd h (by decide), fun h => absurd h (by decide), fun h => absurd h (by decide), fun h => absurd h (by decide), fun h => absurd h (by decide), fun h => absurd h (by decide), fun h => absurd h (by decide), fun h => absurd h (by decide), fun h => absurd h (by decide), fun h => absurd h (by decide), fun h => absurd h (by decide), fun h => absurd h (by decide), fun h => absurd h (by decide), fun h => absurd h (by decide), fun h => absurd h (by decide), fun h => absurd h (by decide), fun h => absurd h (by decide), fun h => absurd h (by decide), fun h => absurd h (by decide), fun h => absurd h (by decide), fun h => absurd h (by decide), fun h => absurd h (by decide), fun h => absurd h (by decide), fun h => absurd h (by decide), fun h => absurd h (by decide), fun h => absurd h (by decide)⟩
--STOP22
  · intro i hi L a₁ w₁ hI hLi hdep
    obtain ⟨x143, x144, x145, x146, x147, x148, x149, x150, x151, x152, x153, x154, x155, x156, x157, x158, x159, x160, x161, x162, x163, x164, x165, x166, x167, x168, x169, x170, x171, ha, hB, hI⟩ := hI
    subst ha
    obtain ⟨f0, f1, f2, f3, f4, f5, f6, f7, f8, f9, f10, f11, f12, f13, f14, f15, f16, f17, f18, f19, f20, f21, f22, f23, f24, f25, f26, f27, f28⟩ := hI
--STOP31
    replace f0 := hide f0
    replace f1 := hide f1
    replace f2 := hide f2
    replace f3 := hide f3
    replace f4 := hide f4
    replace f5 := hide f5
    replace f6 := hide f6
    replace f7 := hide f7
    replace f8 := hide f8
    replace f9 := hide f9
    replace f10 := hide f10
    replace f11 := hide f11
    replace f12 := hide f12
    replace f13 := hide f13
    replace f14 := hide f14
    replace f15 := hide f15
    replace f16 := hide f16
    replace f17 := hide f17
    replace f18 := hide f18
    replace f19 := hide f19
    replace f20 := hide f20
    replace f21 := hide f21
    replace f22 := hide f22
    replace f23 := hide f23
    replace f24 := hide f24
    replace f25 := hide f25
    replace f26 := hide f26
    replace f27 := hide f27
    replace f28 := hide f28
    replace hB := hide hB
    have hS := hide (SS.out _ hB.out)
    have hiN : i < 29 := hi
    clear hi
--STOP32
    have hcases : i = 0 ∨ i = 1 ∨ i = 2 ∨ i = 3 ∨ i = 4 ∨ i = 5 ∨ i = 6 ∨ i = 7 ∨ i = 8 ∨ i = 9 ∨ i = 10 ∨ i = 11 ∨ i = 12 ∨ i = 13 ∨ i = 14 ∨ i = 15 ∨ i = 16 ∨ i = 17 ∨ i = 18 ∨ i = 19 ∨ i = 20 ∨ i = 21 ∨ i = 22 ∨ i = 23 ∨ i = 24 ∨ i = 25 ∨ i = 26 ∨ i = 27 ∨ i = 28 := (show ∀ i, i < 29 → (i = 0 ∨ i = 1 ∨ i = 2 ∨ i = 3 ∨ i = 4 ∨ i = 5 ∨ i = 6 ∨ i = 7 ∨ i = 8 ∨ i = 9 ∨ i = 10 ∨ i = 11 ∨ i = 12 ∨ i = 13 ∨ i = 14 ∨ i = 15 ∨ i = 16 ∨ i = 17 ∨ i = 18 ∨ i = 19 ∨ i = 20 ∨ i = 21 ∨ i = 22 ∨ i = 23 ∨ i = 24 ∨ i = 25 ∨ i = 26 ∨ i = 27 ∨ i = 28) by decide +kernel) i hiN
    clear hiN
--STOP33
    rcases hcases with rfl | rfl | rfl | rfl | rfl | rfl | rfl | rfl | rfl | rfl | rfl | rfl | rfl | rfl | rfl | rfl | rfl | rfl | rfl | rfl | rfl | rfl | rfl | rfl | rfl | rfl | rfl | rfl | rfl
    · clear hdep
      refine wpOp_step rfl (fun K' hKK => ?_)
      replace hKK := hide hKK
      go_simp
      refine hKK.out _ _ ?_
      exact ⟨_, _, _, _, _, _, _, _, _, _, _, _, _, _, _, _, _, _, _, _, _, _, _, _, _, _, _, _, _, rfl, hB.out, (fun _ => rfl), (fun h => f1.out (lk h (by decide))), (fun h => f2.out (lk h (by decide))), (fun h => f3.out (lk h (by decide))), (fun h => (f4.out (lk h (by decide)))), (fun h => f5.out (lk h (by decide))), (fun h => (f6.out (lk h (by decide)))), (fun h => f7.out (lk h (by decide))), (fun h => f8.out (lk h (by decide))), (fun h => f9.out (lk h (by decide))), (fun h => f10.out (lk h (by decide))), (fun h => f11.out (lk h (by decide))), (fun h => f12.out (lk h (by decide))), (fun h => (f13.out (lk h (by decide)))), (fun h => f14.out (lk h (by decide))), (fun h => (f15.out (lk h (by decide)))), (fun h => f16.out (lk h (by decide))), (fun h => f17.out (lk h (by decide))), (fun h => (f18.out (lk h (by decide)))), (fun h => f19.out (lk h (by decide))), (fun h => f20.out (lk h (by decide))), (fun h => f21.out (lk h (by decide))), (fun h => f22.out (lk h (by decide))), (fun h => f23.out (lk h (by decide))), (fun h => f24.out (lk h (by decide))), (fun h => f25.out (lk h (by decide))), (fun h => f26.out (lk h (by decide))), (fun h => f27.out (lk h (by decide))), (fun h => f28.out (lk h (by decide)))⟩
    · have l0 : L 0 = true := hdep _ rfl ⟨0, .data⟩ (by simp) (by rfl)
      clear hdep
      obtain rfl := f0.out l0
      refine wpOp_step rfl (fun K' hKK => ?_)
      replace hKK := hide hKK
      go_simp
      go_wp2_with (refine (HSnd.out _).mono ?_; rintro e w5 ⟨rfl, hb5⟩)
      refine hKK.out _ _ ?_
      exact ⟨_, _, _, _, _, _, _, _, _, _, _, _, _, _, _, _, _, _, _, _, _, _, _, _, _, _, _, _, _, rfl, next hB.out hb5, (fun _ => rfl), (fun _ => rfl), (fun h => f2.out (lk h (by decide))), (fun h => f3.out (lk h (by decide))), (fun h => (f4.out (lk h (by decide))).keep hb5), (fun h => f5.out (lk h (by decide))), (fun h => (f6.out (lk h (by decide))).keep hb5), (fun h => f7.out (lk h (by decide))), (fun h => f8.out (lk h (by decide))), (fun h => f9.out (lk h (by decide))), (fun h => f10.out (lk h (by decide))), (fun h => f11.out (lk h (by decide))), (fun h => f12.out (lk h (by decide))), (fun h => (f13.out (lk h (by decide))).keep hb5), (fun h => f14.out (lk h (by decide))), (fun h => (f15.out (lk h (by decide))).keep hb5), (fun h => f16.out (lk h (by decide))), (fun h => f17.out (lk h (by decide))), (fun h => (f18.out (lk h (by decide))).keep hb5), (fun h => f19.out (lk h (by decide))), (fun h => f20.out (lk h (by decide))), (fun h => f21.out (lk h (by decide))), (fun h => f22.out (lk h (by decide))), (fun h => f23.out (lk h (by decide))), (fun h => f24.out (lk h (by decide))), (fun h => f25.out (lk h (by decide))), (fun h => f26.out (lk h (by decide))), (fun h => f27.out (lk h (by decide))), (fun h => f28.out (lk h (by decide)))⟩
    · have l1 : L 1 = true := hdep _ rfl ⟨1, .data⟩ (by simp) (by rfl)
      clear hdep
      obtain rfl := f1.out l1
      refine wpOp_step rfl (fun K' hKK => ?_)
      replace hKK := hide hKK
      go_simp
      refine hKK.out _ _ ?_
      exact ⟨_, _, _, _, _, _, _, _, _, _, _, _, _, _, _, _, _, _, _, _, _, _, _, _, _, _, _, _, _, rfl, hB.out, (fun h => f0.out (lk h (by decide))), (fun _ => rfl), (fun _ => rfl), (fun h => f3.out (lk h (by decide))), (fun h => (f4.out (lk h (by decide)))), (fun h => f5.out (lk h (by decide))), (fun h => (f6.out (lk h (by decide)))), (fun h => f7.out (lk h (by decide))), (fun h => f8.out (lk h (by decide))), (fun h => f9.out (lk h (by decide))), (fun h => f10.out (lk h (by decide))), (fun h => f11.out (lk h (by decide))), (fun h => f12.out (lk h (by decide))), (fun h => (f13.out (lk h (by decide)))), (fun h => f14.out (lk h (by decide))), (fun h => (f15.out (lk h (by decide)))), (fun h => f16.out (lk h (by decide))), (fun h => f17.out (lk h (by decide))), (fun h => (f18.out (lk h (by decide)))), (fun h => f19.out (lk h (by decide))), (fun h => f20.out (lk h (by decide))), (fun h => f21.out (lk h (by decide))), (fun h => f22.out (lk h (by decide))), (fun h => f23.out (lk h (by decide))), (fun h => f24.out (lk h (by decide))), (fun h => f25.out (lk h (by decide))), (fun h => f26.out (lk h (by decide))), (fun h => f27.out (lk h (by decide))), (fun h => f28.out (lk h (by decide)))⟩
    · have l2 : L 2 = true := hdep _ rfl ⟨2, .guard⟩ (by simp) (by rfl)
      clear hdep
      obtain rfl := f2.out l2
      obtain ⟨⟨⟨c0, c1, c2⟩, _⟩, _, _⟩ := hS.out
      refine wpOp_step rfl (fun K' hKK => ?_)
      replace hKK := hide hKK
      go_simp
      refine hKK.out _ _ ?_
      exact ⟨_, _, _, _, _, _, _, _, _, _, _, _, _, _, _, _, _, _, _, _, _, _, _, _, _, _, _, _, _, rfl, hB.out, (fun h => f0.out (lk h (by decide))), (fun h => f1.out (lk h (by decide))), (fun _ => rfl), (fun _ => rfl), (fun h => (f4.out (lk h (by decide)))), (fun h => f5.out (lk h (by decide))), (fun h => (f6.out (lk h (by decide)))), (fun h => f7.out (lk h (by decide))), (fun h => f8.out (lk h (by decide))), (fun h => f9.out (lk h (by decide))), (fun h => f10.out (lk h (by decide))), (fun h => f11.out (lk h (by decide))), (fun h => f12.out (lk h (by decide))), (fun h => (f13.out (lk h (by decide)))), (fun h => f14.out (lk h (by decide))), (fun h => (f15.out (lk h (by decide)))), (fun h => f16.out (lk h (by decide))), (fun h => f17.out (lk h (by decide))), (fun h => (f18.out (lk h (by decide)))), (fun h => f19.out (lk h (by decide))), (fun h => f20.out (lk h (by decide))), (fun h => f21.out (lk h (by decide))), (fun h => f22.out (lk h (by decide))), (fun h => f23.out (lk h (by decide))), (fun h => f24.out (lk h (by decide))), (fun h => f25.out (lk h (by decide))), (fun h => f26.out (lk h (by decide))), (fun h => f27.out (lk h (by decide))), (fun h => f28.out (lk h (by decide)))⟩
    · have l3 : L 3 = true := hdep _ rfl ⟨3, .data⟩ (by simp) (by rfl)
      have l2 : L 2 = true := hdep _ rfl ⟨2, .guard⟩ (by simp) (by rfl)
      clear hdep
      obtain rfl := f3.out l3
      obtain rfl := f2.out l2
      refine wpOp_step rfl (fun K' hKK => ?_)
      replace hKK := hide hKK
      go_simp
      refine hKK.out _ _ ?_
      exact ⟨_, _, _, _, _, _, _, _, _, _, _, _, _, _, _, _, _, _, _, _, _, _, _, _, _, _, _, _, _, rfl, step hB.out _, (fun h => f0.out (lk h (by decide))), (fun h => f1.out (lk h (by decide))), (fun _ => rfl), (fun _ => rfl), (fun _ => ⟨_, rfl, vals1 _ _⟩), (fun h => f5.out (lk h (by decide))), (fun h => (f6.out (lk h (by decide))).keep (step (Below.refl _ _) _)), (fun h => f7.out (lk h (by decide))), (fun h => f8.out (lk h (by decide))), (fun h => f9.out (lk h (by decide))), (fun h => f10.out (lk h (by decide))), (fun h => f11.out (lk h (by decide))), (fun h => f12.out (lk h (by decide))), (fun h => (f13.out (lk h (by decide))).keep (step (Below.refl _ _) _)), (fun h => f14.out (lk h (by decide))), (fun h => (f15.out (lk h (by decide))).keep (step (Below.refl _ _) _)), (fun h => f16.out (lk h (by decide))), (fun h => f17.out (lk h (by decide))), (fun h => (f18.out (lk h (by decide))).keep (step (Below.refl _ _) _)), (fun h => f19.out (lk h (by decide))), (fun h => f20.out (lk h (by decide))), (fun h => f21.out (lk h (by decide))), (fun h => f22.out (lk h (by decide))), (fun h => f23.out (lk h (by decide))), (fun h => f24.out (lk h (by decide))), (fun h => f25.out (lk h (by decide))), (fun h => f26.out (lk h (by decide))), (fun h => f27.out (lk h (by decide))), (fun h => f28.out (lk h (by decide)))⟩
    · have l4 : L 4 = true := hdep _ rfl ⟨4, .data⟩ (by simp) (by rfl)
      have l2 : L 2 = true := hdep _ rfl ⟨2, .guard⟩ (by simp) (by rfl)
      clear hdep
      obtain rfl := f2.out l2
      obtain ⟨bs4, rfl, hv⟩ := f4.out l4
      refine wpOp_step rfl (fun K' hKK => ?_)
      replace hKK := hide hKK
      go_simp
      go_wp2_with (refine (is1v 23 ⟨3, 0, s⟩ ⟨3, 0, sr⟩ HRev1.out _ bs4 (HT2.out _ hB.out) hv).mono ?_; rintro e w5 ⟨rfl, hb5⟩)
      refine hKK.out _ _ ?_
      exact ⟨_, _, _, _, _, _, _, _, _, _, _, _, _, _, _, _, _, _, _, _, _, _, _, _, _, _, _, _, _, rfl, next hB.out hb5, (fun h => f0.out (lk h (by decide))), (fun h => f1.out (lk h (by decide))), (fun _ => rfl), (fun h => f3.out (lk h (by decide))), (fun _ => ⟨bs4, rfl, hv.keep hb5⟩), (fun _ => rfl), (fun h => (f6.out (lk h (by decide))).keep hb5), (fun h => f7.out (lk h (by decide))), (fun h => f8.out (lk h (by decide))), (fun h => f9.out (lk h (by decide))), (fun h => f10.out (lk h (by decide))), (fun h => f11.out (lk h (by decide))), (fun h => f12.out (lk h (by decide))), (fun h => (f13.out (lk h (by decide))).keep hb5), (fun h => f14.out (lk h (by decide))), (fun h => (f15.out (lk h (by decide))).keep hb5), (fun h => f16.out (lk h (by decide))), (fun h => f17.out (lk h (by decide))), (fun h => (f18.out (lk h (by decide))).keep hb5), (fun h => f19.out (lk h (by decide))), (fun h => f20.out (lk h (by decide))), (fun h => f21.out (lk h (by decide))), (fun h => f22.out (lk h (by decide))), (fun h => f23.out (lk h (by decide))), (fun h => f24.out (lk h (by decide))), (fun h => f25.out (lk h (by decide))), (fun h => f26.out (lk h (by decide))), (fun h => f27.out (lk h (by decide))), (fun h => f28.out (lk h (by decide)))⟩
    · have l5 : L 5 = true := hdep _ rfl ⟨5, .data⟩ (by simp) (by rfl)
      have l2 : L 2 = true := hdep _ rfl ⟨2, .guard⟩ (by simp) (by rfl)
      clear hdep
      obtain rfl := f5.out l5
      obtain rfl := f2.out l2
      refine wpOp_step rfl (fun K' hKK => ?_)
      replace hKK := hide hKK
      go_simp
      refine hKK.out _ _ ?_
      exact ⟨_, _, _, _, _, _, _, _, _, _, _, _, _, _, _, _, _, _, _, _, _, _, _, _, _, _, _, _, _, rfl, step hB.out _, (fun h => f0.out (lk h (by decide))), (fun h => f1.out (lk h (by decide))), (fun _ => rfl), (fun h => f3.out (lk h (by decide))), (fun h => (f4.out (lk h (by decide))).keep (step (Below.refl _ _) _)), (fun _ => rfl), (fun _ => ⟨_, rfl, vals1 _ _⟩), (fun h => f7.out (lk h (by decide))), (fun h => f8.out (lk h (by decide))), (fun h => f9.out (lk h (by decide))), (fun h => f10.out (lk h (by decide))), (fun h => f11.out (lk h (by decide))), (fun h => f12.out (lk h (by decide))), (fun h => (f13.out (lk h (by decide))).keep (step (Below.refl _ _) _)), (fun h => f14.out (lk h (by decide))), (fun h => (f15.out (lk h (by decide))).keep (step (Below.refl _ _) _)), (fun h => f16.out (lk h (by decide))), (fun h => f17.out (lk h (by decide))), (fun h => (f18.out (lk h (by decide))).keep (step (Below.refl _ _) _)), (fun h => f19.out (lk h (by decide))), (fun h => f20.out (lk h (by decide))), (fun h => f21.out (lk h (by decide))), (fun h => f22.out (lk h (by decide))), (fun h => f23.out (lk h (by decide))), (fun h => f24.out (lk h (by decide))), (fun h => f25.out (lk h (by decide))), (fun h => f26.out (lk h (by decide))), (fun h => f27.out (lk h (by decide))), (fun h => f28.out (lk h (by decide)))⟩
    · have l6 : L 6 = true := hdep _ rfl ⟨6, .data⟩ (by simp) (by rfl)
      have l2 : L 2 = true := hdep _ rfl ⟨2, .guard⟩ (by simp) (by rfl)
      clear hdep
      obtain rfl := f2.out l2
      obtain ⟨bs6, rfl, hv⟩ := f6.out l6
      refine wpOp_step rfl (fun K' hKK => ?_)
      replace hKK := hide hKK
      go_simp
      go_wp2_with (refine (is1v 23 ⟨3, 0, sr⟩ ⟨3, 0, s⟩ HRev3.out _ bs6 (HT2.out _ hB.out) hv).mono ?_; rintro e w5 ⟨rfl, hb5⟩)
      refine hKK.out _ _ ?_
      exact ⟨_, _, _, _, _, _, _, _, _, _, _, _, _, _, _, _, _, _, _, _, _, _, _, _, _, _, _, _, _, rfl, next hB.out hb5, (fun h => f0.out (lk h (by decide))), (fun h => f1.out (lk h (by decide))), (fun _ => rfl), (fun h => f3.out (lk h (by decide))), (fun h => (f4.out (lk h (by decide))).keep hb5), (fun h => f5.out (lk h (by decide))), (fun _ => ⟨bs6, rfl, hv.keep hb5⟩), (fun _ => rfl), (fun h => f8.out (lk h (by decide))), (fun h => f9.out (lk h (by decide))), (fun h => f10.out (lk h (by decide))), (fun h => f11.out (lk h (by decide))), (fun h => f12.out (lk h (by decide))), (fun h => (f13.out (lk h (by decide))).keep hb5), (fun h => f14.out (lk h (by decide))), (fun h => (f15.out (lk h (by decide))).keep hb5), (fun h => f16.out (lk h (by decide))), (fun h => f17.out (lk h (by decide))), (fun h => (f18.out (lk h (by decide))).keep hb5), (fun h => f19.out (lk h (by decide))), (fun h => f20.out (lk h (by decide))), (fun h => f21.out (lk h (by decide))), (fun h => f22.out (lk h (by decide))), (fun h => f23.out (lk h (by decide))), (fun h => f24.out (lk h (by decide))), (fun h => f25.out (lk h (by decide))), (fun h => f26.out (lk h (by decide))), (fun h => f27.out (lk h (by decide))), (fun h => f28.out (lk h (by decide)))⟩
    · have l2 : L 2 = true := hdep _ rfl ⟨2, .guard⟩ (by simp) (by rfl)
      clear hdep
      obtain rfl := f2.out l2
      obtain ⟨⟨⟨c0, c1, c2⟩, _⟩, _, _⟩ := hS.out
      refine wpOp_step rfl (fun K' hKK => ?_)
      replace hKK := hide hKK
      go_simp
      refine hKK.out _ _ ?_
      exact ⟨_, _, _, _, _, _, _, _, _, _, _, _, _, _, _, _, _, _, _, _, _, _, _, _, _, _, _, _, _, rfl, hB.out, (fun h => f0.out (lk h (by decide))), (fun h => f1.out (lk h (by decide))), (fun _ => rfl), (fun h => f3.out (lk h (by decide))), (fun h => (f4.out (lk h (by decide)))), (fun h => f5.out (lk h (by decide))), (fun h => (f6.out (lk h (by decide)))), (fun h => f7.out (lk h (by decide))), (fun _ => rfl), (fun h => f9.out (lk h (by decide))), (fun h => f10.out (lk h (by decide))), (fun h => f11.out (lk h (by decide))), (fun h => f12.out (lk h (by decide))), (fun h => (f13.out (lk h (by decide)))), (fun h => f14.out (lk h (by decide))), (fun h => (f15.out (lk h (by decide)))), (fun h => f16.out (lk h (by decide))), (fun h => f17.out (lk h (by decide))), (fun h => (f18.out (lk h (by decide)))), (fun h => f19.out (lk h (by decide))), (fun h => f20.out (lk h (by decide))), (fun h => f21.out (lk h (by decide))), (fun h => f22.out (lk h (by decide))), (fun h => f23.out (lk h (by decide))), (fun h => f24.out (lk h (by decide))), (fun h => f25.out (lk h (by decide))), (fun h => f26.out (lk h (by decide))), (fun h => f27.out (lk h (by decide))), (fun h => f28.out (lk h (by decide)))⟩
    · have l7 : L 7 = true := hdep _ rfl ⟨7, .data⟩ (by simp) (by rfl)
      have l8 : L 8 = true := hdep _ rfl ⟨8, .data⟩ (by simp) (by rfl)
      have l2 : L 2 = true := hdep _ rfl ⟨2, .guard⟩ (by simp) (by rfl)
      clear hdep
      obtain rfl := f7.out l7
      obtain rfl := f8.out l8
      obtain rfl := f2.out l2
      have ns := va_neq 3 0 s
      refine wpOp_step rfl (fun K' hKK => ?_)
      replace hKK := hide hKK
      go_simp
      refine hKK.out _ _ ?_
      exact ⟨_, _, _, _, _, _, _, _, _, _, _, _, _, _, _, _, _, _, _, _, _, _, _, _, _, _, _, _, _, rfl, hB.out, (fun h => f0.out (lk h (by decide))), (fun h => f1.out (lk h (by decide))), (fun _ => rfl), (fun h => f3.out (lk h (by decide))), (fun h => (f4.out (lk h (by decide)))), (fun h => f5.out (lk h (by decide))), (fun h => (f6.out (lk h (by decide)))), (fun _ => rfl), (fun _ => rfl), (fun _ => rfl), (fun h => f10.out (lk h (by decide))), (fun h => f11.out (lk h (by decide))), (fun h => f12.out (lk h (by decide))), (fun h => (f13.out (lk h (by decide)))), (fun h => f14.out (lk h (by decide))), (fun h => (f15.out (lk h (by decide)))), (fun h => f16.out (lk h (by decide))), (fun h => f17.out (lk h (by decide))), (fun h => (f18.out (lk h (by decide)))), (fun h => f19.out (lk h (by decide))), (fun h => f20.out (lk h (by decide))), (fun h => f21.out (lk h (by decide))), (fun h => f22.out (lk h (by decide))), (fun h => f23.out (lk h (by decide))), (fun h => f24.out (lk h (by decide))), (fun h => f25.out (lk h (by decide))), (fun h => f26.out (lk h (by decide))), (fun h => f27.out (lk h (by decide))), (fun h => f28.out (lk h (by decide)))⟩
    · have l2 : L 2 = true := hdep _ rfl ⟨2, .data⟩ (by simp) (by rfl)
      have l9 : L 9 = true := hdep _ rfl ⟨9, .data⟩ (by simp) (by rfl)
      clear hdep
      obtain rfl := f2.out l2
      obtain rfl := f9.out l9
      refine wpOp_step rfl (fun K' hKK => ?_)
      replace hKK := hide hKK
      go_simp
      refine hKK.out _ _ ?_
      exact ⟨_, _, _, _, _, _, _, _, _, _, _, _, _, _, _, _, _, _, _, _, _, _, _, _, _, _, _, _, _, rfl, hB.out, (fun h => f0.out (lk h (by decide))), (fun h => f1.out (lk h (by decide))), (fun _ => rfl), (fun h => f3.out (lk h (by decide))), (fun h => (f4.out (lk h (by decide)))), (fun h => f5.out (lk h (by decide))), (fun h => (f6.out (lk h (by decide)))), (fun h => f7.out (lk h (by decide))), (fun h => f8.out (lk h (by decide))), (fun _ => rfl), (fun _ => rfl), (fun h => f11.out (lk h (by decide))), (fun h => f12.out (lk h (by decide))), (fun h => (f13.out (lk h (by decide)))), (fun h => f14.out (lk h (by decide))), (fun h => (f15.out (lk h (by decide)))), (fun h => f16.out (lk h (by decide))), (fun h => f17.out (lk h (by decide))), (fun h => (f18.out (lk h (by decide)))), (fun h => f19.out (lk h (by decide))), (fun h => f20.out (lk h (by decide))), (fun h => f21.out (lk h (by decide))), (fun h => f22.out (lk h (by decide))), (fun h => f23.out (lk h (by decide))), (fun h => f24.out (lk h (by decide))), (fun h => f25.out (lk h (by decide))), (fun h => f26.out (lk h (by decide))), (fun h => f27.out (lk h (by decide))), (fun h => f28.out (lk h (by decide)))⟩
    · have l10 : L 10 = true := hdep _ rfl ⟨10, .data⟩ (by simp) (by rfl)
      clear hdep
      obtain rfl := f10.out l10
      refine wpOp_step rfl (fun K' hKK => ?_)
      replace hKK := hide hKK
      go_simp
      refine hKK.out _ _ ?_
      exact ⟨_, _, _, _, _, _, _, _, _, _, _, _, _, _, _, _, _, _, _, _, _, _, _, _, _, _, _, _, _, rfl, hB.out, (fun h => f0.out (lk h (by decide))), (fun h => f1.out (lk h (by decide))), (fun h => f2.out (lk h (by decide))), (fun h => f3.out (lk h (by decide))), (fun h => (f4.out (lk h (by decide)))), (fun h => f5.out (lk h (by decide))), (fun h => (f6.out (lk h (by decide)))), (fun h => f7.out (lk h (by decide))), (fun h => f8.out (lk h (by decide))), (fun h => f9.out (lk h (by decide))), (fun _ => rfl), (fun _ => rfl), (fun h => f12.out (lk h (by decide))), (fun h => (f13.out (lk h (by decide)))), (fun h => f14.out (lk h (by decide))), (fun h => (f15.out (lk h (by decide)))), (fun h => f16.out (lk h (by decide))), (fun h => f17.out (lk h (by decide))), (fun h => (f18.out (lk h (by decide)))), (fun h => f19.out (lk h (by decide))), (fun h => f20.out (lk h (by decide))), (fun h => f21.out (lk h (by decide))), (fun h => f22.out (lk h (by decide))), (fun h => f23.out (lk h (by decide))), (fun h => f24.out (lk h (by decide))), (fun h => f25.out (lk h (by decide))), (fun h => f26.out (lk h (by decide))), (fun h => f27.out (lk h (by decide))), (fun h => f28.out (lk h (by decide)))⟩
    · have l11 : L 11 = true := hdep _ rfl ⟨11, .guard⟩ (by simp) (by rfl)
      clear hdep
      obtain rfl := f11.out l11
      obtain ⟨⟨⟨c0, c1, c2⟩, _⟩, _, _⟩ := hS.out
      refine wpOp_step rfl (fun K' hKK => ?_)
      replace hKK := hide hKK
      go_simp
      refine hKK.out _ _ ?_
      exact ⟨_, _, _, _, _, _, _, _, _, _, _, _, _, _, _, _, _, _, _, _, _, _, _, _, _, _, _, _, _, rfl, hB.out, (fun h => f0.out (lk h (by decide))), (fun h => f1.out (lk h (by decide))), (fun h => f2.out (lk h (by decide))), (fun h => f3.out (lk h (by decide))), (fun h => (f4.out (lk h (by decide)))), (fun h => f5.out (lk h (by decide))), (fun h => (f6.out (lk h (by decide)))), (fun h => f7.out (lk h (by decide))), (fun h => f8.out (lk h (by decide))), (fun h => f9.out (lk h (by decide))), (fun h => f10.out (lk h (by decide))), (fun _ => rfl), (fun _ => rfl), (fun h => (f13.out (lk h (by decide)))), (fun h => f14.out (lk h (by decide))), (fun h => (f15.out (lk h (by decide)))), (fun h => f16.out (lk h (by decide))), (fun h => f17.out (lk h (by decide))), (fun h => (f18.out (lk h (by decide)))), (fun h => f19.out (lk h (by decide))), (fun h => f20.out (lk h (by decide))), (fun h => f21.out (lk h (by decide))), (fun h => f22.out (lk h (by decide))), (fun h => f23.out (lk h (by decide))), (fun h => f24.out (lk h (by decide))), (fun h => f25.out (lk h (by decide))), (fun h => f26.out (lk h (by decide))), (fun h => f27.out (lk h (by decide))), (fun h => f28.out (lk h (by decide)))⟩
    · have l12 : L 12 = true := hdep _ rfl ⟨12, .data⟩ (by simp) (by rfl)
      have l11 : L 11 = true := hdep _ rfl ⟨11, .guard⟩ (by simp) (by rfl)
      clear hdep
      obtain rfl := f12.out l12
      obtain rfl := f11.out l11
      refine wpOp_step rfl (fun K' hKK => ?_)
      replace hKK := hide hKK
      go_simp
      refine hKK.out _ _ ?_
      exact ⟨_, _, _, _, _, _, _, _, _, _, _, _, _, _, _, _, _, _, _, _, _, _, _, _, _, _, _, _, _, rfl, step hB.out _, (fun h => f0.out (lk h (by decide))), (fun h => f1.out (lk h (by decide))), (fun h => f2.out (lk h (by decide))), (fun h => f3.out (lk h (by decide))), (fun h => (f4.out (lk h (by decide))).keep (step (Below.refl _ _) _)), (fun h => f5.out (lk h (by decide))), (fun h => (f6.out (lk h (by decide))).keep (step (Below.refl _ _) _)), (fun h => f7.out (lk h (by decide))), (fun h => f8.out (lk h (by decide))), (fun h => f9.out (lk h (by decide))), (fun h => f10.out (lk h (by decide))), (fun _ => rfl), (fun _ => rfl), (fun _ => ⟨_, rfl, vals1 _ _⟩), (fun h => f14.out (lk h (by decide))), (fun h => (f15.out (lk h (by decide))).keep (step (Below.refl _ _) _)), (fun h => f16.out (lk h (by decide))), (fun h => f17.out (lk h (by decide))), (fun h => (f18.out (lk h (by decide))).keep (step (Below.refl _ _) _)), (fun h => f19.out (lk h (by decide))), (fun h => f20.out (lk h (by decide))), (fun h => f21.out (lk h (by decide))), (fun h => f22.out (lk h (by decide))), (fun h => f23.out (lk h (by decide))), (fun h => f24.out (lk h (by decide))), (fun h => f25.out (lk h (by decide))), (fun h => f26.out (lk h (by decide))), (fun h => f27.out (lk h (by decide))), (fun h => f28.out (lk h (by decide)))⟩
    · have l13 : L 13 = true := hdep _ rfl ⟨13, .data⟩ (by simp) (by rfl)
      have l11 : L 11 = true := hdep _ rfl ⟨11, .guard⟩ (by simp) (by rfl)
      clear hdep
      obtain rfl := f11.out l11
      obtain ⟨bs13, rfl, hv⟩ := f13.out l13
      refine wpOp_step rfl (fun K' hKK => ?_)
      replace hKK := hide hKK
      go_simp
      go_wp2_with (refine (is1v 21 ⟨3, 0, s⟩ ⟨3, 0, lw⟩ HLow.out _ bs13 (HT2.out _ hB.out) hv).mono ?_; rintro e w5 ⟨rfl, hb5⟩)
      refine hKK.out _ _ ?_
      exact ⟨_, _, _, _, _, _, _, _, _, _, _, _, _, _, _, _, _, _, _, _, _, _, _, _, _, _, _, _, _, rfl, next hB.out hb5, (fun h => f0.out (lk h (by decide))), (fun h => f1.out (lk h (by decide))), (fun h => f2.out (lk h (by decide))), (fun h => f3.out (lk h (by decide))), (fun h => (f4.out (lk h (by decide))).keep hb5), (fun h => f5.out (lk h (by decide))), (fun h => (f6.out (lk h (by decide))).keep hb5), (fun h => f7.out (lk h (by decide))), (fun h => f8.out (lk h (by decide))), (fun h => f9.out (lk h (by decide))), (fun h => f10.out (lk h (by decide))), (fun _ => rfl), (fun h => f12.out (lk h (by decide))), (fun _ => ⟨bs13, rfl, hv.keep hb5⟩), (fun _ => rfl), (fun h => (f15.out (lk h (by decide))).keep hb5), (fun h => f16.out (lk h (by decide))), (fun h => f17.out (lk h (by decide))), (fun h => (f18.out (lk h (by decide))).keep hb5), (fun h => f19.out (lk h (by decide))), (fun h => f20.out (lk h (by decide))), (fun h => f21.out (lk h (by decide))), (fun h => f22.out (lk h (by decide))), (fun h => f23.out (lk h (by decide))), (fun h => f24.out (lk h (by decide))), (fun h => f25.out (lk h (by decide))), (fun h => f26.out (lk h (by decide))), (fun h => f27.out (lk h (by decide))), (fun h => f28.out (lk h (by decide)))⟩
    · have l14 : L 14 = true := hdep _ rfl ⟨14, .data⟩ (by simp) (by rfl)
      have l11 : L 11 = true := hdep _ rfl ⟨11, .guard⟩ (by simp) (by rfl)
      clear hdep
      obtain rfl := f14.out l14
      obtain rfl := f11.out l11
      refine wpOp_step rfl (fun K' hKK => ?_)
      replace hKK := hide hKK
      go_simp
      refine hKK.out _ _ ?_
      exact ⟨_, _, _, _, _, _, _, _, _, _, _, _, _, _, _, _, _, _, _, _, _, _, _, _, _, _, _, _, _, rfl, step hB.out _, (fun h => f0.out (lk h (by decide))), (fun h => f1.out (lk h (by decide))), (fun h => f2.out (lk h (by decide))), (fun h => f3.out (lk h (by decide))), (fun h => (f4.out (lk h (by decide))).keep (step (Below.refl _ _) _)), (fun h => f5.out (lk h (by decide))), (fun h => (f6.out (lk h (by decide))).keep (step (Below.refl _ _) _)), (fun h => f7.out (lk h (by decide))), (fun h => f8.out (lk h (by decide))), (fun h => f9.out (lk h (by decide))), (fun h => f10.out (lk h (by decide))), (fun _ => rfl), (fun h => f12.out (lk h (by decide))), (fun h => (f13.out (lk h (by decide))).keep (step (Below.refl _ _) _)), (fun _ => rfl), (fun _ => ⟨_, rfl, vals1 _ _⟩), (fun h => f16.out (lk h (by decide))), (fun h => f17.out (lk h (by decide))), (fun h => (f18.out (lk h (by decide))).keep (step (Below.refl _ _) _)), (fun h => f19.out (lk h (by decide))), (fun h => f20.out (lk h (by decide))), (fun h => f21.out (lk h (by decide))), (fun h => f22.out (lk h (by decide))), (fun h => f23.out (lk h (by decide))), (fun h => f24.out (lk h (by decide))), (fun h => f25.out (lk h (by decide))), (fun h => f26.out (lk h (by decide))), (fun h => f27.out (lk h (by decide))), (fun h => f28.out (lk h (by decide)))⟩
    · have l15 : L 15 = true := hdep _ rfl ⟨15, .data⟩ (by simp) (by rfl)
      have l11 : L 11 = true := hdep _ rfl ⟨11, .guard⟩ (by simp) (by rfl)
      clear hdep
      obtain rfl := f11.out l11
      obtain ⟨bs15, rfl, hv⟩ := f15.out l15
      refine wpOp_step rfl (fun K' hKK => ?_)
      replace hKK := hide hKK
      go_simp
      go_wp2_with (refine (is1v 20 ⟨3, 0, lw⟩ ⟨3, 0, up⟩ HUp1.out _ bs15 (HT2.out _ hB.out) hv).mono ?_; rintro e w5 ⟨rfl, hb5⟩)
      refine hKK.out _ _ ?_
      exact ⟨_, _, _, _, _, _, _, _, _, _, _, _, _, _, _, _, _, _, _, _, _, _, _, _, _, _, _, _, _, rfl, next hB.out hb5, (fun h => f0.out (lk h (by decide))), (fun h => f1.out (lk h (by decide))), (fun h => f2.out (lk h (by decide))), (fun h => f3.out (lk h (by decide))), (fun h => (f4.out (lk h (by decide))).keep hb5), (fun h => f5.out (lk h (by decide))), (fun h => (f6.out (lk h (by decide))).keep hb5), (fun h => f7.out (lk h (by decide))), (fun h => f8.out (lk h (by decide))), (fun h => f9.out (lk h (by decide))), (fun h => f10.out (lk h (by decide))), (fun _ => rfl), (fun h => f12.out (lk h (by decide))), (fun h => (f13.out (lk h (by decide))).keep hb5), (fun h => f14.out (lk h (by decide))), (fun _ => ⟨bs15, rfl, hv.keep hb5⟩), (fun _ => rfl), (fun h => f17.out (lk h (by decide))), (fun h => (f18.out (lk h (by decide))).keep hb5), (fun h => f19.out (lk h (by decide))), (fun h => f20.out (lk h (by decide))), (fun h => f21.out (lk h (by decide))), (fun h => f22.out (lk h (by decide))), (fun h => f23.out (lk h (by decide))), (fun h => f24.out (lk h (by decide))), (fun h => f25.out (lk h (by decide))), (fun h => f26.out (lk h (by decide))), (fun h => f27.out (lk h (by decide))), (fun h => f28.out (lk h (by decide)))⟩
    · have l11 : L 11 = true := hdep _ rfl ⟨11, .guard⟩ (by simp) (by rfl)
      clear hdep
      obtain rfl := f11.out l11
      obtain ⟨⟨⟨c0, c1, c2⟩, _⟩, _, _⟩ := hS.out
      refine wpOp_step rfl (fun K' hKK => ?_)
      replace hKK := hide hKK
      go_simp
      refine hKK.out _ _ ?_
      exact ⟨_, _, _, _, _, _, _, _, _, _, _, _, _, _, _, _, _, _, _, _, _, _, _, _, _, _, _, _, _, rfl, hB.out, (fun h => f0.out (lk h (by decide))), (fun h => f1.out (lk h (by decide))), (fun h => f2.out (lk h (by decide))), (fun h => f3.out (lk h (by decide))), (fun h => (f4.out (lk h (by decide)))), (fun h => f5.out (lk h (by decide))), (fun h => (f6.out (lk h (by decide)))), (fun h => f7.out (lk h (by decide))), (fun h => f8.out (lk h (by decide))), (fun h => f9.out (lk h (by decide))), (fun h => f10.out (lk h (by decide))), (fun _ => rfl), (fun h => f12.out (lk h (by decide))), (fun h => (f13.out (lk h (by decide)))), (fun h => f14.out (lk h (by decide))), (fun h => (f15.out (lk h (by decide)))), (fun h => f16.out (lk h (by decide))), (fun _ => rfl), (fun h => (f18.out (lk h (by decide)))), (fun h => f19.out (lk h (by decide))), (fun h => f20.out (lk h (by decide))), (fun h => f21.out (lk h (by decide))), (fun h => f22.out (lk h (by decide))), (fun h => f23.out (lk h (by decide))), (fun h => f24.out (lk h (by decide))), (fun h => f25.out (lk h (by decide))), (fun h => f26.out (lk h (by decide))), (fun h => f27.out (lk h (by decide))), (fun h => f28.out (lk h (by decide)))⟩
    · have l17 : L 17 = true := hdep _ rfl ⟨17, .data⟩ (by simp) (by rfl)
      have l11 : L 11 = true := hdep _ rfl ⟨11, .guard⟩ (by simp) (by rfl)
      clear hdep
      obtain rfl := f17.out l17
      obtain rfl := f11.out l11
      refine wpOp_step rfl (fun K' hKK => ?_)
      replace hKK := hide hKK
      go_simp
      refine hKK.out _ _ ?_
      exact ⟨_, _, _, _, _, _, _, _, _, _, _, _, _, _, _, _, _, _, _, _, _, _, _, _, _, _, _, _, _, rfl, step hB.out _, (fun h => f0.out (lk h (by decide))), (fun h => f1.out (lk h (by decide))), (fun h => f2.out (lk h (by decide))), (fun h => f3.out (lk h (by decide))), (fun h => (f4.out (lk h (by decide))).keep (step (Below.refl _ _) _)), (fun h => f5.out (lk h (by decide))), (fun h => (f6.out (lk h (by decide))).keep (step (Below.refl _ _) _)), (fun h => f7.out (lk h (by decide))), (fun h => f8.out (lk h (by decide))), (fun h => f9.out (lk h (by decide))), (fun h => f10.out (lk h (by decide))), (fun _ => rfl), (fun h => f12.out (lk h (by decide))), (fun h => (f13.out (lk h (by decide))).keep (step (Below.refl _ _) _)), (fun h => f14.out (lk h (by decide))), (fun h => (f15.out (lk h (by decide))).keep (step (Below.refl _ _) _)), (fun h => f16.out (lk h (by decide))), (fun _ => rfl), (fun _ => ⟨_, rfl, vals1 _ _⟩), (fun h => f19.out (lk h (by decide))), (fun h => f20.out (lk h (by decide))), (fun h => f21.out (lk h (by decide))), (fun h => f22.out (lk h (by decide))), (fun h => f23.out (lk h (by decide))), (fun h => f24.out (lk h (by decide))), (fun h => f25.out (lk h (by decide))), (fun h => f26.out (lk h (by decide))), (fun h => f27.out (lk h (by decide))), (fun h => f28.out (lk h (by decide)))⟩
    · have l18 : L 18 = true := hdep _ rfl ⟨18, .data⟩ (by simp) (by rfl)
      have l11 : L 11 = true := hdep _ rfl ⟨11, .guard⟩ (by simp) (by rfl)
      clear hdep
      obtain rfl := f11.out l11
      obtain ⟨bs18, rfl, hv⟩ := f18.out l18
      refine wpOp_step rfl (fun K' hKK => ?_)
      replace hKK := hide hKK
      go_simp
      go_wp2_with (refine (is1v 20 ⟨3, 0, s⟩ ⟨3, 0, up⟩ HUp2.out _ bs18 (HT2.out _ hB.out) hv).mono ?_; rintro e w5 ⟨rfl, hb5⟩)
      refine hKK.out _ _ ?_
      exact ⟨_, _, _, _, _, _, _, _, _, _, _, _, _, _, _, _, _, _, _, _, _, _, _, _, _, _, _, _, _, rfl, next hB.out hb5, (fun h => f0.out (lk h (by decide))), (fun h => f1.out (lk h (by decide))), (fun h => f2.out (lk h (by decide))), (fun h => f3.out (lk h (by decide))), (fun h => (f4.out (lk h (by decide))).keep hb5), (fun h => f5.out (lk h (by decide))), (fun h => (f6.out (lk h (by decide))).keep hb5), (fun h => f7.out (lk h (by decide))), (fun h => f8.out (lk h (by decide))), (fun h => f9.out (lk h (by decide))), (fun h => f10.out (lk h (by decide))), (fun _ => rfl), (fun h => f12.out (lk h (by decide))), (fun h => (f13.out (lk h (by decide))).keep hb5), (fun h => f14.out (lk h (by decide))), (fun h => (f15.out (lk h (by decide))).keep hb5), (fun h => f16.out (lk h (by decide))), (fun h => f17.out (lk h (by decide))), (fun _ => ⟨bs18, rfl, hv.keep hb5⟩), (fun _ => rfl), (fun h => f20.out (lk h (by decide))), (fun h => f21.out (lk h (by decide))), (fun h => f22.out (lk h (by decide))), (fun h => f23.out (lk h (by decide))), (fun h => f24.out (lk h (by decide))), (fun h => f25.out (lk h (by decide))), (fun h => f26.out (lk h (by decide))), (fun h => f27.out (lk h (by decide))), (fun h => f28.out (lk h (by decide)))⟩
    · have l16 : L 16 = true := hdep _ rfl ⟨16, .data⟩ (by simp) (by rfl)
      have l19 : L 19 = true := hdep _ rfl ⟨19, .data⟩ (by simp) (by rfl)
      have l11 : L 11 = true := hdep _ rfl ⟨11, .guard⟩ (by simp) (by rfl)
      clear hdep
      obtain rfl := f16.out l16
      obtain rfl := f19.out l19
      obtain rfl := f11.out l11
      have nu := va_neq 3 0 up
      refine wpOp_step rfl (fun K' hKK => ?_)
      replace hKK := hide hKK
      go_simp
      refine hKK.out _ _ ?_
      exact ⟨_, _, _, _, _, _, _, _, _, _, _, _, _, _, _, _, _, _, _, _, _, _, _, _, _, _, _, _, _, rfl, hB.out, (fun h => f0.out (lk h (by decide))), (fun h => f1.out (lk h (by decide))), (fun h => f2.out (lk h (by decide))), (fun h => f3.out (lk h (by decide))), (fun h => (f4.out (lk h (by decide)))), (fun h => f5.out (lk h (by decide))), (fun h => (f6.out (lk h (by decide)))), (fun h => f7.out (lk h (by decide))), (fun h => f8.out (lk h (by decide))), (fun h => f9.out (lk h (by decide))), (fun h => f10.out (lk h (by decide))), (fun _ => rfl), (fun h => f12.out (lk h (by decide))), (fun h => (f13.out (lk h (by decide)))), (fun h => f14.out (lk h (by decide))), (fun h => (f15.out (lk h (by decide)))), (fun _ => rfl), (fun h => f17.out (lk h (by decide))), (fun h => (f18.out (lk h (by decide)))), (fun _ => rfl), (fun _ => rfl), (fun h => f21.out (lk h (by decide))), (fun h => f22.out (lk h (by decide))), (fun h => f23.out (lk h (by decide))), (fun h => f24.out (lk h (by decide))), (fun h => f25.out (lk h (by decide))), (fun h => f26.out (lk h (by decide))), (fun h => f27.out (lk h (by decide))), (fun h => f28.out (lk h (by decide)))⟩
    · have l11 : L 11 = true := hdep _ rfl ⟨11, .data⟩ (by simp) (by rfl)
      have l20 : L 20 = true := hdep _ rfl ⟨20, .data⟩ (by simp) (by rfl)
      clear hdep
      obtain rfl := f11.out l11
      obtain rfl := f20.out l20
      refine wpOp_step rfl (fun K' hKK => ?_)
      replace hKK := hide hKK
      go_simp
      refine hKK.out _ _ ?_
      exact ⟨_, _, _, _, _, _, _, _, _, _, _, _, _, _, _, _, _, _, _, _, _, _, _, _, _, _, _, _, _, rfl, hB.out, (fun h => f0.out (lk h (by decide))), (fun h => f1.out (lk h (by decide))), (fun h => f2.out (lk h (by decide))), (fun h => f3.out (lk h (by decide))), (fun h => (f4.out (lk h (by decide)))), (fun h => f5.out (lk h (by decide))), (fun h => (f6.out (lk h (by decide)))), (fun h => f7.out (lk h (by decide))), (fun h => f8.out (lk h (by decide))), (fun h => f9.out (lk h (by decide))), (fun h => f10.out (lk h (by decide))), (fun _ => rfl), (fun h => f12.out (lk h (by decide))), (fun h => (f13.out (lk h (by decide)))), (fun h => f14.out (lk h (by decide))), (fun h => (f15.out (lk h (by decide)))), (fun h => f16.out (lk h (by decide))), (fun h => f17.out (lk h (by decide))), (fun h => (f18.out (lk h (by decide)))), (fun h => f19.out (lk h (by decide))), (fun _ => rfl), (fun _ => rfl), (fun h => f22.out (lk h (by decide))), (fun h => f23.out (lk h (by decide))), (fun h => f24.out (lk h (by decide))), (fun h => f25.out (lk h (by decide))), (fun h => f26.out (lk h (by decide))), (fun h => f27.out (lk h (by decide))), (fun h => f28.out (lk h (by decide)))⟩
    · have l21 : L 21 = true := hdep _ rfl ⟨21, .data⟩ (by simp) (by rfl)
      clear hdep
      obtain rfl := f21.out l21
      refine wpOp_step rfl (fun K' hKK => ?_)
      replace hKK := hide hKK
      go_simp
      refine hKK.out _ _ ?_
      exact ⟨_, _, _, _, _, _, _, _, _, _, _, _, _, _, _, _, _, _, _, _, _, _, _, _, _, _, _, _, _, rfl, hB.out, (fun h => f0.out (lk h (by decide))), (fun h => f1.out (lk h (by decide))), (fun h => f2.out (lk h (by decide))), (fun h => f3.out (lk h (by decide))), (fun h => (f4.out (lk h (by decide)))), (fun h => f5.out (lk h (by decide))), (fun h => (f6.out (lk h (by decide)))), (fun h => f7.out (lk h (by decide))), (fun h => f8.out (lk h (by decide))), (fun h => f9.out (lk h (by decide))), (fun h => f10.out (lk h (by decide))), (fun h => f11.out (lk h (by decide))), (fun h => f12.out (lk h (by decide))), (fun h => (f13.out (lk h (by decide)))), (fun h => f14.out (lk h (by decide))), (fun h => (f15.out (lk h (by decide)))), (fun h => f16.out (lk h (by decide))), (fun h => f17.out (lk h (by decide))), (fun h => (f18.out (lk h (by decide)))), (fun h => f19.out (lk h (by decide))), (fun h => f20.out (lk h (by decide))), (fun _ => rfl), (fun _ => rfl), (fun h => f23.out (lk h (by decide))), (fun h => f24.out (lk h (by decide))), (fun h => f25.out (lk h (by decide))), (fun h => f26.out (lk h (by decide))), (fun h => f27.out (lk h (by decide))), (fun h => f28.out (lk h (by decide)))⟩
    · have l22 : L 22 = true := hdep _ rfl ⟨22, .guard⟩ (by simp) (by rfl)
      clear hdep
      obtain rfl := f22.out l22
      obtain ⟨_, ⟨⟨c0, c1, c2⟩, _⟩, _⟩ := hS.out
      refine wpOp_step rfl (fun K' hKK => ?_)
      replace hKK := hide hKK
      go_simp
      refine hKK.out _ _ ?_
      exact ⟨_, _, _, _, _, _, _, _, _, _, _, _, _, _, _, _, _, _, _, _, _, _, _, _, _, _, _, _, _, rfl, hB.out, (fun h => f0.out (lk h (by decide))), (fun h => f1.out (lk h (by decide))), (fun h => f2.out (lk h (by decide))), (fun h => f3.out (lk h (by decide))), (fun h => (f4.out (lk h (by decide)))), (fun h => f5.out (lk h (by decide))), (fun h => (f6.out (lk h (by decide)))), (fun h => f7.out (lk h (by decide))), (fun h => f8.out (lk h (by decide))), (fun h => f9.out (lk h (by decide))), (fun h => f10.out (lk h (by decide))), (fun h => f11.out (lk h (by decide))), (fun h => f12.out (lk h (by decide))), (fun h => (f13.out (lk h (by decide)))), (fun h => f14.out (lk h (by decide))), (fun h => (f15.out (lk h (by decide)))), (fun h => f16.out (lk h (by decide))), (fun h => f17.out (lk h (by decide))), (fun h => (f18.out (lk h (by decide)))), (fun h => f19.out (lk h (by decide))), (fun h => f20.out (lk h (by decide))), (fun h => f21.out (lk h (by decide))), (fun _ => rfl), (fun _ => rfl), (fun h => f24.out (lk h (by decide))), (fun h => f25.out (lk h (by decide))), (fun h => f26.out (lk h (by decide))), (fun h => f27.out (lk h (by decide))), (fun h => f28.out (lk h (by decide)))⟩
    · have l22 : L 22 = true := hdep _ rfl ⟨22, .guard⟩ (by simp) (by rfl)
      clear hdep
      obtain rfl := f22.out l22
      obtain ⟨_, _, ⟨⟨c0, c1, c2⟩, _⟩⟩ := hS.out
      refine wpOp_step rfl (fun K' hKK => ?_)
      replace hKK := hide hKK
      go_simp
      refine hKK.out _ _ ?_
      exact ⟨_, _, _, _, _, _, _, _, _, _, _, _, _, _, _, _, _, _, _, _, _, _, _, _, _, _, _, _, _, rfl, hB.out, (fun h => f0.out (lk h (by decide))), (fun h => f1.out (lk h (by decide))), (fun h => f2.out (lk h (by decide))), (fun h => f3.out (lk h (by decide))), (fun h => (f4.out (lk h (by decide)))), (fun h => f5.out (lk h (by decide))), (fun h => (f6.out (lk h (by decide)))), (fun h => f7.out (lk h (by decide))), (fun h => f8.out (lk h (by decide))), (fun h => f9.out (lk h (by decide))), (fun h => f10.out (lk h (by decide))), (fun h => f11.out (lk h (by decide))), (fun h => f12.out (lk h (by decide))), (fun h => (f13.out (lk h (by decide)))), (fun h => f14.out (lk h (by decide))), (fun h => (f15.out (lk h (by decide)))), (fun h => f16.out (lk h (by decide))), (fun h => f17.out (lk h (by decide))), (fun h => (f18.out (lk h (by decide)))), (fun h => f19.out (lk h (by decide))), (fun h => f20.out (lk h (by decide))), (fun h => f21.out (lk h (by decide))), (fun _ => rfl), (fun h => f23.out (lk h (by decide))), (fun _ => rfl), (fun h => f25.out (lk h (by decide))), (fun h => f26.out (lk h (by decide))), (fun h => f27.out (lk h (by decide))), (fun h => f28.out (lk h (by decide)))⟩
    · have l23 : L 23 = true := hdep _ rfl ⟨23, .data⟩ (by simp) (by rfl)
      have l24 : L 24 = true := hdep _ rfl ⟨24, .data⟩ (by simp) (by rfl)
      have l22 : L 22 = true := hdep _ rfl ⟨22, .guard⟩ (by simp) (by rfl)
      clear hdep
      obtain rfl := f23.out l23
      obtain rfl := f24.out l24
      obtain rfl := f22.out l22
      refine wpOp_step rfl (fun K' hKK => ?_)
      replace hKK := hide hKK
      go_simp
      go_wp2_with (refine (HJoin.out _ (HT2.out _ hB.out).1).mono ?_; rintro e w5 ⟨rfl, hb5⟩)
      refine hKK.out _ _ ?_
      exact ⟨_, _, _, _, _, _, _, _, _, _, _, _, _, _, _, _, _, _, _, _, _, _, _, _, _, _, _, _, _, rfl, next hB.out hb5, (fun h => f0.out (lk h (by decide))), (fun h => f1.out (lk h (by decide))), (fun h => f2.out (lk h (by decide))), (fun h => f3.out (lk h (by decide))), (fun h => (f4.out (lk h (by decide))).keep hb5), (fun h => f5.out (lk h (by decide))), (fun h => (f6.out (lk h (by decide))).keep hb5), (fun h => f7.out (lk h (by decide))), (fun h => f8.out (lk h (by decide))), (fun h => f9.out (lk h (by decide))), (fun h => f10.out (lk h (by decide))), (fun h => f11.out (lk h (by decide))), (fun h => f12.out (lk h (by decide))), (fun h => (f13.out (lk h (by decide))).keep hb5), (fun h => f14.out (lk h (by decide))), (fun h => (f15.out (lk h (by decide))).keep hb5), (fun h => f16.out (lk h (by decide))), (fun h => f17.out (lk h (by decide))), (fun h => (f18.out (lk h (by decide))).keep hb5), (fun h => f19.out (lk h (by decide))), (fun h => f20.out (lk h (by decide))), (fun h => f21.out (lk h (by decide))), (fun _ => rfl), (fun _ => rfl), (fun _ => rfl), (fun _ => rfl), (fun h => f26.out (lk h (by decide))), (fun h => f27.out (lk h (by decide))), (fun h => f28.out (lk h (by decide)))⟩
    · have l22 : L 22 = true := hdep _ rfl ⟨22, .guard⟩ (by simp) (by rfl)
      clear hdep
      obtain rfl := f22.out l22
      obtain ⟨⟨⟨c0, c1, c2⟩, _⟩, _, _⟩ := hS.out
      refine wpOp_step rfl (fun K' hKK => ?_)
      replace hKK := hide hKK
      go_simp
      refine hKK.out _ _ ?_
      exact ⟨_, _, _, _, _, _, _, _, _, _, _, _, _, _, _, _, _, _, _, _, _, _, _, _, _, _, _, _, _, rfl, hB.out, (fun h => f0.out (lk h (by decide))), (fun h => f1.out (lk h (by decide))), (fun h => f2.out (lk h (by decide))), (fun h => f3.out (lk h (by decide))), (fun h => (f4.out (lk h (by decide)))), (fun h => f5.out (lk h (by decide))), (fun h => (f6.out (lk h (by decide)))), (fun h => f7.out (lk h (by decide))), (fun h => f8.out (lk h (by decide))), (fun h => f9.out (lk h (by decide))), (fun h => f10.out (lk h (by decide))), (fun h => f11.out (lk h (by decide))), (fun h => f12.out (lk h (by decide))), (fun h => (f13.out (lk h (by decide)))), (fun h => f14.out (lk h (by decide))), (fun h => (f15.out (lk h (by decide)))), (fun h => f16.out (lk h (by decide))), (fun h => f17.out (lk h (by decide))), (fun h => (f18.out (lk h (by decide)))), (fun h => f19.out (lk h (by decide))), (fun h => f20.out (lk h (by decide))), (fun h => f21.out (lk h (by decide))), (fun _ => rfl), (fun h => f23.out (lk h (by decide))), (fun h => f24.out (lk h (by decide))), (fun h => f25.out (lk h (by decide))), (fun _ => rfl), (fun h => f27.out (lk h (by decide))), (fun h => f28.out (lk h (by decide)))⟩
    · have l25 : L 25 = true := hdep _ rfl ⟨25, .data⟩ (by simp) (by rfl)
      have l26 : L 26 = true := hdep _ rfl ⟨26, .data⟩ (by simp) (by rfl)
      have l22 : L 22 = true := hdep _ rfl ⟨22, .guard⟩ (by simp) (by rfl)
      clear hdep
      obtain rfl := f25.out l25
      obtain rfl := f26.out l26
      obtain rfl := f22.out l22
      have ns := va_neq 3 0 s
      refine wpOp_step rfl (fun K' hKK => ?_)
      replace hKK := hide hKK
      go_simp
      refine hKK.out _ _ ?_
      exact ⟨_, _, _, _, _, _, _, _, _, _, _, _, _, _, _, _, _, _, _, _, _, _, _, _, _, _, _, _, _, rfl, hB.out, (fun h => f0.out (lk h (by decide))), (fun h => f1.out (lk h (by decide))), (fun h => f2.out (lk h (by decide))), (fun h => f3.out (lk h (by decide))), (fun h => (f4.out (lk h (by decide)))), (fun h => f5.out (lk h (by decide))), (fun h => (f6.out (lk h (by decide)))), (fun h => f7.out (lk h (by decide))), (fun h => f8.out (lk h (by decide))), (fun h => f9.out (lk h (by decide))), (fun h => f10.out (lk h (by decide))), (fun h => f11.out (lk h (by decide))), (fun h => f12.out (lk h (by decide))), (fun h => (f13.out (lk h (by decide)))), (fun h => f14.out (lk h (by decide))), (fun h => (f15.out (lk h (by decide)))), (fun h => f16.out (lk h (by decide))), (fun h => f17.out (lk h (by decide))), (fun h => (f18.out (lk h (by decide)))), (fun h => f19.out (lk h (by decide))), (fun h => f20.out (lk h (by decide))), (fun h => f21.out (lk h (by decide))), (fun _ => rfl), (fun h => f23.out (lk h (by decide))), (fun h => f24.out (lk h (by decide))), (fun _ => rfl), (fun _ => rfl), (fun _ => rfl), (fun h => f28.out (lk h (by decide)))⟩
    · have l22 : L 22 = true := hdep _ rfl ⟨22, .data⟩ (by simp) (by rfl)
      have l27 : L 27 = true := hdep _ rfl ⟨27, .data⟩ (by simp) (by rfl)
      clear hdep
      obtain rfl := f22.out l22
      obtain rfl := f27.out l27
      refine wpOp_step rfl (fun K' hKK => ?_)
      replace hKK := hide hKK
      go_simp
      refine hKK.out _ _ ?_
      exact ⟨_, _, _, _, _, _, _, _, _, _, _, _, _, _, _, _, _, _, _, _, _, _, _, _, _, _, _, _, _, rfl, hB.out, (fun h => f0.out (lk h (by decide))), (fun h => f1.out (lk h (by decide))), (fun h => f2.out (lk h (by decide))), (fun h => f3.out (lk h (by decide))), (fun h => (f4.out (lk h (by decide)))), (fun h => f5.out (lk h (by decide))), (fun h => (f6.out (lk h (by decide)))), (fun h => f7.out (lk h (by decide))), (fun h => f8.out (lk h (by decide))), (fun h => f9.out (lk h (by decide))), (fun h => f10.out (lk h (by decide))), (fun h => f11.out (lk h (by decide))), (fun h => f12.out (lk h (by decide))), (fun h => (f13.out (lk h (by decide)))), (fun h => f14.out (lk h (by decide))), (fun h => (f15.out (lk h (by decide)))), (fun h => f16.out (lk h (by decide))), (fun h => f17.out (lk h (by decide))), (fun h => (f18.out (lk h (by decide)))), (fun h => f19.out (lk h (by decide))), (fun h => f20.out (lk h (by decide))), (fun h => f21.out (lk h (by decide))), (fun _ => rfl), (fun h => f23.out (lk h (by decide))), (fun h => f24.out (lk h (by decide))), (fun h => f25.out (lk h (by decide))), (fun h => f26.out (lk h (by decide))), (fun _ => rfl), (fun _ => rfl)⟩
--STOP23
  intro L a₁ w₁ hall hI
  obtain ⟨x143, x144, x145, x146, x147, x148, x149, x150, x151, x152, x153, x154, x155, x156, x157, x158, x159, x160, x161, x162, x163, x164, x165, x166, x167, x168, x169, x170, x171, ha, hB, hI⟩ := hI
  subst ha
  obtain ⟨f0, f1, f2, f3, f4, f5, f6, f7, f8, f9, f10, f11, f12, f13, f14, f15, f16, f17, f18, f19, f20, f21, f22, f23, f24, f25, f26, f27, f28⟩ := hI
  obtain rfl := f0 (hall 0 (by decide))
  obtain rfl := f1 (hall 1 (by decide))
  obtain rfl := f2 (hall 2 (by decide))
  obtain rfl := f3 (hall 3 (by decide))
  obtain rfl := f5 (hall 5 (by decide))
  obtain rfl := f7 (hall 7 (by decide))
  obtain rfl := f8 (hall 8 (by decide))
  obtain rfl := f9 (hall 9 (by decide))
  obtain rfl := f10 (hall 10 (by decide))
  obtain rfl := f11 (hall 11 (by decide))
  obtain rfl := f12 (hall 12 (by decide))
  obtain rfl := f14 (hall 14 (by decide))
  obtain rfl := f16 (hall 16 (by decide))
  obtain rfl := f17 (hall 17 (by decide))
  obtain rfl := f19 (hall 19 (by decide))
  obtain rfl := f20 (hall 20 (by decide))
  obtain rfl := f21 (hall 21 (by decide))
  obtain rfl := f22 (hall 22 (by decide))
  obtain rfl := f23 (hall 23 (by decide))
  obtain rfl := f24 (hall 24 (by decide))
  obtain rfl := f25 (hall 25 (by decide))
  obtain rfl := f26 (hall 26 (by decide))
  obtain rfl := f27 (hall 27 (by decide))
  obtain rfl := f28 (hall 28 (by decide))
  clear f0 f1 f2 f3 f4 f5 f6 f7 f8 f9 f10 f11 f12 f13 f14 f15 f16 f17 f18 f19 f20 f21 f22 f23 f24 f25 f26 f27 f28 hall
  replace hB := hide hB
  exact hQ _ _ _ _ _ _ _ _ _ _ _ _ _ _ _ _ _ _ _ _ _ _ _ _ _ _ _ _ _ hB.out
set_option maxHeartbeats 32000000 in
set_option maxRecDepth 100000 in
theorem reg15f {v2 : World} {s a b sr lw up : ByteArray} {XT XA XB : Nat} (SS : Hid (∀ w' : World, Below v2.heap.size v2 w' → (O3 w' XT (.int .i64 3) (.int .i64 0) (.string s) ∧ O3 w' XA (.int .i64 3) (.int .i64 0) (.string a) ∧ O3 w' XB (.int .i64 3) (.int .i64 0) (.string b)))) (HT2 : Hid (∀ w' : World, Below v2.heap.size v2 w' → Tb w')) (HSnd : CallIs 13 #[.string s] (.bool false)) (HLow : Hid (FunIs 21 [⟨3, 0, s⟩] ⟨3, 0, lw⟩)) (HUp1 : Hid (FunIs 20 [⟨3, 0, lw⟩] ⟨3, 0, up⟩)) (HUp2 : Hid (FunIs 20 [⟨3, 0, s⟩] ⟨3, 0, up⟩)) (HJoin : CallT 14 #[.int .i64 6, vV 3 0 a, vV 3 0 b] (vV 3 0 s)) {Q : Exit → Act → World → Prop} {y1 y2 y3 y4 y5 y6 y8 y9 y12 y13 y14 y15 y16 y17 y18 y19 y20 y21 y22 y23 y24 y25 y26 y27 y28 y29 y30 y31 y32 y33 y34 y35 y36 y37 y38 y39 y40 y41 y42 y43 y44 y45 y46 y47 y48 y49 y50 y51 y52 y53 y54 y55 y56 y57 y58 y59 y60 y61 y62 y63 y64 y65 y66 y67 y68 y69 y70 y71 y72 y73 y74 y75 y76 y77 y78 y79 y80 y81 y82 y83 y84 y85 y86 y87 y88 y89 y90 y91 y92 y93 y94 y95 y96 y97 y98 y99 y100 y101 y102 y103 y104 y105 y106 y107 y108 y109 y110 y111 y112 y113 y114 y115 y116 y117 y118 y119 y120 y121 y122 y123 y124 y125 y126 y127 y128 y129 y130 y131 y132 y133 y134 y135 y136 y137 y138 y139 y140 y141 y142 y143 y144 y145 y146 y147 y148 y149 y150 y151 y152 y153 y154 y155 y156 y157 y158 y159 y160 y161 y162 y163 y164 y165 y166 y167 y168 y169 y170 y171 y172 y173 y174 y175 y176 y177 y178 y179 y180 y181 y182 y183 y184 y185 y186 y187 y188 y189 y190 y191 y192 y193 y194 y195 y196 y197 y198 y199 y200 y201 y202 y203 y204 y205 y206 y207 y208 y209 y210 y211 y212 y213 y214 y215 y216 y217 y218 y219 : Value}
    (hQ : ∀ (w' : World) (x143 x144 x145 x146 x147 x148 x149 x150 x151 x152 x153 x154 x155 x156 x157 x158 x159 x160 x161 x162 x163 x164 x165 x166 x167 x168 x169 x170 : Value), Below v2.heap.size v2 w' → Q .normal ⟨#[.string s, y1, y2, y3, y4, y5, y6, .pointer (some ⟨XT, 0, none⟩), y8, y9, .pointer (some ⟨XA, 0, none⟩), .pointer (some ⟨XB, 0, none⟩), y12, y13, y14, y15, y16, y17, y18, y19, y20, y21, y22, y23, y24, y25, y26, y27, y28, y29, y30, y31, y32, y33, y34, y35, y36, y37, y38, y39, y40, y41, y42, y43, y44, y45, y46, y47, y48, y49, y50, y51, y52, y53, y54, y55, y56, y57, y58, y59, y60, y61, y62, y63, y64, y65, y66, y67, y68, y69, y70, y71, y72, y73, y74, y75, y76, y77, y78, y79, y80, y81, y82, y83, y84, y85, y86, y87, y88, y89, y90, y91, y92, y93, y94, y95, y96, y97, y98, y99, y100, y101, y102, y103, y104, y105, y106, y107, y108, y109, y110, y111, y112, y113, y114, y115, y116, y117, y118, y119, y120, y121, y122, y123, y124, y125, y126, y127, y128, y129, y130, y131, y132, y133, y134, y135, y136, y137, y138, y139, y140, y141, y142, x143, x144, x145, x146, x147, x148, x149, x150, x151, x152, x153, x154, x155, x156, x157, x158, x159, x160, x161, x162, x163, x164, x165, x166, x167, x168, x169, x170, .bool false, y172, y173, y174, y175, y176, y177, y178, y179, y180, y181, y182, y183, y184, y185, y186, y187, y188, y189, y190, y191, y192, y193, y194, y195, y196, y197, y198, y199, y200, y201, y202, y203, y204, y205, y206, y207, y208, y209, y210, y211, y212, y213, y214, y215, y216, y217, y218, y219], []⟩ w') : (rg15T (Tryz.f4.body.getD .skip)).wp Tryz.prog Q ⟨#[.string s, y1, y2, y3, y4, y5, y6, .pointer (some ⟨XT, 0, none⟩), y8, y9, .pointer (some ⟨XA, 0, none⟩), .pointer (some ⟨XB, 0, none⟩), y12, y13, y14, y15, y16, y17, y18, y19, y20, y21, y22, y23, y24, y25, y26, y27, y28, y29, y30, y31, y32, y33, y34, y35, y36, y37, y38, y39, y40, y41, y42, y43, y44, y45, y46, y47, y48, y49, y50, y51, y52, y53, y54, y55, y56, y57, y58, y59, y60, y61, y62, y63, y64, y65, y66, y67, y68, y69, y70, y71, y72, y73, y74, y75, y76, y77, y78, y79, y80, y81, y82, y83, y84, y85, y86, y87, y88, y89, y90, y91, y92, y93, y94, y95, y96, y97, y98, y99, y100, y101, y102, y103, y104, y105, y106, y107, y108, y109, y110, y111, y112, y113, y114, y115, y116, y117, y118, y119, y120, y121, y122, y123, y124, y125, y126, y127, y128, y129, y130, y131, y132, y133, y134, y135, y136, y137, y138, y139, y140, y141, y142, y143, y144, y145, y146, y147, y148, y149, y150, y151, y152, y153, y154, y155, y156, y157, y158, y159, y160, y161, y162, y163, y164, y165, y166, y167, y168, y169, y170, y171, y172, y173, y174, y175, y176, y177, y178, y179, y180, y181, y182, y183, y184, y185, y186, y187, y188, y189, y190, y191, y192, y193, y194, y195, y196, y197, y198, y199, y200, y201, y202, y203, y204, y205, y206, y207, y208, y209, y210, y211, y212, y213, y214, y215, y216, y217, y218, y219], []⟩ v2 := by
  dsimp only [Tryz.f4, Option.getD, rg15T, c1T, c2T]
  refine region_inv (fun (L : Nat → Bool) (a₁ : Act) (w₁ : World) => ∃ (x143 x144 x145 x146 x147 x148 x149 x150 x151 x152 x153 x154 x155 x156 x157 x158 x159 x160 x161 x162 x163 x164 x165 x166 x167 x168 x169 x170 x171 : Value), a₁ = ⟨#[.string s, y1, y2, y3, y4, y5, y6, .pointer (some ⟨XT, 0, none⟩), y8, y9, .pointer (some ⟨XA, 0, none⟩), .pointer (some ⟨XB, 0, none⟩), y12, y13, y14, y15, y16, y17, y18, y19, y20, y21, y22, y23, y24, y25, y26, y27, y28, y29, y30, y31, y32, y33, y34, y35, y36, y37, y38, y39, y40, y41, y42, y43, y44, y45, y46, y47, y48, y49, y50, y51, y52, y53, y54, y55, y56, y57, y58, y59, y60, y61, y62, y63, y64, y65, y66, y67, y68, y69, y70, y71, y72, y73, y74, y75, y76, y77, y78, y79, y80, y81, y82, y83, y84, y85, y86, y87, y88, y89, y90, y91, y92, y93, y94, y95, y96, y97, y98, y99, y100, y101, y102, y103, y104, y105, y106, y107, y108, y109, y110, y111, y112, y113, y114, y115, y116, y117, y118, y119, y120, y121, y122, y123, y124, y125, y126, y127, y128, y129, y130, y131, y132, y133, y134, y135, y136, y137, y138, y139, y140, y141, y142, x143, x144, x145, x146, x147, x148, x149, x150, x151, x152, x153, x154, x155, x156, x157, x158, x159, x160, x161, x162, x163, x164, x165, x166, x167, x168, x169, x170, x171, y172, y173, y174, y175, y176, y177, y178, y179, y180, y181, y182, y183, y184, y185, y186, y187, y188, y189, y190, y191, y192, y193, y194, y195, y196, y197, y198, y199, y200, y201, y202, y203, y204, y205, y206, y207, y208, y209, y210, y211, y212, y213, y214, y215, y216, y217, y218, y219], []⟩ ∧ Below v2.heap.size v2 w₁ ∧ (L 0 = true → x143 = .string s) ∧ (L 1 = true → x144 = .bool false) ∧ (L 2 = true → x145 = .bool false) ∧ (L 3 = true → x146 = undef) ∧ (L 4 = true → x147 = undef) ∧ (L 5 = true → x148 = undef) ∧ (L 6 = true → x149 = undef) ∧ (L 7 = true → x150 = undef) ∧ (L 8 = true → x151 = undef) ∧ (L 9 = true → x152 = undef) ∧ (L 10 = true → x153 = .bool false) ∧ (L 11 = true → x154 = .bool false) ∧ (L 12 = true → x155 = .agg #[.int .i64 3, .int .i64 0, .string s]) ∧ (L 13 = true → SlF w₁ x156 1 [⟨3, 0, s⟩]) ∧ (L 14 = true → x157 = vV 3 0 lw) ∧ (L 15 = true → SlF w₁ x158 1 [⟨3, 0, lw⟩]) ∧ (L 16 = true → x159 = vV 3 0 up) ∧ (L 17 = true → x160 = .agg #[.int .i64 3, .int .i64 0, .string s]) ∧ (L 18 = true → SlF w₁ x161 1 [⟨3, 0, s⟩]) ∧ (L 19 = true → x162 = vV 3 0 up) ∧ (L 20 = true → x163 = .bool false) ∧ (L 21 = true → x164 = .bool false) ∧ (L 22 = true → x165 = .bool false) ∧ (L 23 = true → x166 = .agg #[.int .i64 3, .int .i64 0, .string a]) ∧ (L 24 = true → x167 = .agg #[.int .i64 3, .int .i64 0, .string b]) ∧ (L 25 = true → x168 = vV 3 0 s) ∧ (L 26 = true → x169 = .agg #[.int .i64 3, .int .i64 0, .string s]) ∧ (L 27 = true → x170 = .bool false) ∧ (L 28 = true → x171 = .bool false)) (by kernel_rfl) (by kernel_rfl) ?_ ?_ ?_
--STOP21
  · exact ⟨y143, y144, y145, y146, y147, y148, y149, y150, y151, y152, y153, y154, y155, y156, y157, y158, y159, y160, y161, y162, y163, y164, y165, y166, y167, y168, y169, y170, y171, rfl, (Below.refl _ _).drew, fun h => absurd h (by decide), fun h => absurd h (by decide), fun h => absurd h (by decide), fun h => absurd h (by decide), fun h => absurd h (by decide), fun h => absurd h (by decide), fun h => absurd h (by decide), fun h => absurd h (by decide), fun h => absurd h (by decide), fun h => absurd h (by decide), fun h => absurd h (by decide), fun h => absurd h (by decide), fun h => absurd h (by decide), fun h => absurd h (by decide), fun h => absurd h (by decide), fun h => absurd h (by decide), fun h => absurd h (by decide), fun h => absurd h (by decide), fun h => absurd h (by decide), fun h => absurd h (by decide), fun h => absurd h (by decide), fun h => absurd h (by decide), fun h => absurd h (by decide), fun h => absurd h (by decide), fun h => absurd h (by decide), fun h => absurd h (by decide), fun h => absurd h (by decide), fun h => absurd h (by decide), fun h => absurd h (by decide)⟩
--STOP22
  · intro i hi L a₁ w₁ hI hLi hdep
    obtain ⟨x143, x144, x145, x146, x147, x148, x149, x150, x151, x152, x153, x154, x155, x156, x157, x158, x159, x160, x161, x162, x163, x164, x165, x166, x167, x168, x169, x170, x171, ha, hB, hI⟩ := hI
    subst ha
    obtain ⟨f0, f1, f2, f3, f4, f5, f6, f7, f8, f9, f10, f11, f12, f13, f14, f15, f16, f17, f18, f19, f20, f21, f22, f23, f24, f25, f26, f27, f28⟩ := hI
--STOP31
    replace f0 := hide f0
    replace f1 := hide f1
    replace f2 := hide f2
    replace f3 := hide f3
    replace f4 := hide f4
    replace f5 := hide f5
    replace f6 := hide f6
    replace f7 := hide f7
    replace f8 := hide f8
    replace f9 := hide f9
    replace f10 := hide f10
    replace f11 := hide f11
    replace f12 := hide f12
    replace f13 := hide f13
    replace f14 := hide f14
    replace f15 := hide f15
    replace f16 := hide f16
    replace f17 := hide f17
    replace f18 := hide f18
    replace f19 := hide f19
    replace f20 := hide f20
    replace f21 := hide f21
    replace f22 := hide f22
    replace f23 := hide f23
    replace f24 := hide f24
    replace f25 := hide f25
    replace f26 := hide f26
    replace f27 := hide f27
    replace f28 := hide f28
    replace hB := hide hB
    have hS := hide (SS.out _ hB.out)
    have hiN : i < 29 := hi
    clear hi
--STOP32
    have hcases : i = 0 ∨ i = 1 ∨ i = 2 ∨ i = 3 ∨ i = 4 ∨ i = 5 ∨ i = 6 ∨ i = 7 ∨ i = 8 ∨ i = 9 ∨ i = 10 ∨ i = 11 ∨ i = 12 ∨ i = 13 ∨ i = 14 ∨ i = 15 ∨ i = 16 ∨ i = 17 ∨ i = 18 ∨ i = 19 ∨ i = 20 ∨ i = 21 ∨ i = 22 ∨ i = 23 ∨ i = 24 ∨ i = 25 ∨ i = 26 ∨ i = 27 ∨ i = 28 := (show ∀ i, i < 29 → (i = 0 ∨ i = 1 ∨ i = 2 ∨ i = 3 ∨ i = 4 ∨ i = 5 ∨ i = 6 ∨ i = 7 ∨ i = 8 ∨ i = 9 ∨ i = 10 ∨ i = 11 ∨ i = 12 ∨ i = 13 ∨ i = 14 ∨ i = 15 ∨ i = 16 ∨ i = 17 ∨ i = 18 ∨ i = 19 ∨ i = 20 ∨ i = 21 ∨ i = 22 ∨ i = 23 ∨ i = 24 ∨ i = 25 ∨ i = 26 ∨ i = 27 ∨ i = 28) by decide +kernel) i hiN
    clear hiN
--STOP33
    rcases hcases with rfl | rfl | rfl | rfl | rfl | rfl | rfl | rfl | rfl | rfl | rfl | rfl | rfl | rfl | rfl | rfl | rfl | rfl | rfl | rfl | rfl | rfl | rfl | rfl | rfl | rfl | rfl | rfl | rfl
    · clear hdep
      refine wpOp_step rfl (fun K' hKK => ?_)
      replace hKK := hide hKK
      go_simp
      refine hKK.out _ _ ?_
      exact ⟨_, _, _, _, _, _, _, _, _, _, _, _, _, _, _, _, _, _, _, _, _, _, _, _, _, _, _, _, _, rfl, hB.out, (fun _ => rfl), (fun h => f1.out (lk h (by decide))), (fun h => f2.out (lk h (by decide))), (fun h => f3.out (lk h (by decide))), (fun h => f4.out (lk h (by decide))), (fun h => f5.out (lk h (by decide))), (fun h => f6.out (lk h (by decide))), (fun h => f7.out (lk h (by decide))), (fun h => f8.out (lk h (by decide))), (fun h => f9.out (lk h (by decide))), (fun h => f10.out (lk h (by decide))), (fun h => f11.out (lk h (by decide))), (fun h => f12.out (lk h (by decide))), (fun h => (f13.out (lk h (by decide)))), (fun h => f14.out (lk h (by decide))), (fun h => (f15.out (lk h (by decide)))), (fun h => f16.out (lk h (by decide))), (fun h => f17.out (lk h (by decide))), (fun h => (f18.out (lk h (by decide)))), (fun h => f19.out (lk h (by decide))), (fun h => f20.out (lk h (by decide))), (fun h => f21.out (lk h (by decide))), (fun h => f22.out (lk h (by decide))), (fun h => f23.out (lk h (by decide))), (fun h => f24.out (lk h (by decide))), (fun h => f25.out (lk h (by decide))), (fun h => f26.out (lk h (by decide))), (fun h => f27.out (lk h (by decide))), (fun h => f28.out (lk h (by decide)))⟩
    · have l0 : L 0 = true := hdep _ rfl ⟨0, .data⟩ (by simp) (by rfl)
      clear hdep
      obtain rfl := f0.out l0
      refine wpOp_step rfl (fun K' hKK => ?_)
      replace hKK := hide hKK
      go_simp
      go_wp2_with (refine (HSnd.out _).mono ?_; rintro e w5 ⟨rfl, hb5⟩)
      refine hKK.out _ _ ?_
      exact ⟨_, _, _, _, _, _, _, _, _, _, _, _, _, _, _, _, _, _, _, _, _, _, _, _, _, _, _, _, _, rfl, next hB.out hb5, (fun _ => rfl), (fun _ => rfl), (fun h => f2.out (lk h (by decide))), (fun h => f3.out (lk h (by decide))), (fun h => f4.out (lk h (by decide))), (fun h => f5.out (lk h (by decide))), (fun h => f6.out (lk h (by decide))), (fun h => f7.out (lk h (by decide))), (fun h => f8.out (lk h (by decide))), (fun h => f9.out (lk h (by decide))), (fun h => f10.out (lk h (by decide))), (fun h => f11.out (lk h (by decide))), (fun h => f12.out (lk h (by decide))), (fun h => (f13.out (lk h (by decide))).keep hb5), (fun h => f14.out (lk h (by decide))), (fun h => (f15.out (lk h (by decide))).keep hb5), (fun h => f16.out (lk h (by decide))), (fun h => f17.out (lk h (by decide))), (fun h => (f18.out (lk h (by decide))).keep hb5), (fun h => f19.out (lk h (by decide))), (fun h => f20.out (lk h (by decide))), (fun h => f21.out (lk h (by decide))), (fun h => f22.out (lk h (by decide))), (fun h => f23.out (lk h (by decide))), (fun h => f24.out (lk h (by decide))), (fun h => f25.out (lk h (by decide))), (fun h => f26.out (lk h (by decide))), (fun h => f27.out (lk h (by decide))), (fun h => f28.out (lk h (by decide)))⟩
    · have l1 : L 1 = true := hdep _ rfl ⟨1, .data⟩ (by simp) (by rfl)
      clear hdep
      obtain rfl := f1.out l1
      refine wpOp_step rfl (fun K' hKK => ?_)
      replace hKK := hide hKK
      go_simp
      refine hKK.out _ _ ?_
      exact ⟨_, _, _, _, _, _, _, _, _, _, _, _, _, _, _, _, _, _, _, _, _, _, _, _, _, _, _, _, _, rfl, hB.out, (fun h => f0.out (lk h (by decide))), (fun _ => rfl), (fun _ => rfl), (fun h => f3.out (lk h (by decide))), (fun h => f4.out (lk h (by decide))), (fun h => f5.out (lk h (by decide))), (fun h => f6.out (lk h (by decide))), (fun h => f7.out (lk h (by decide))), (fun h => f8.out (lk h (by decide))), (fun h => f9.out (lk h (by decide))), (fun h => f10.out (lk h (by decide))), (fun h => f11.out (lk h (by decide))), (fun h => f12.out (lk h (by decide))), (fun h => (f13.out (lk h (by decide)))), (fun h => f14.out (lk h (by decide))), (fun h => (f15.out (lk h (by decide)))), (fun h => f16.out (lk h (by decide))), (fun h => f17.out (lk h (by decide))), (fun h => (f18.out (lk h (by decide)))), (fun h => f19.out (lk h (by decide))), (fun h => f20.out (lk h (by decide))), (fun h => f21.out (lk h (by decide))), (fun h => f22.out (lk h (by decide))), (fun h => f23.out (lk h (by decide))), (fun h => f24.out (lk h (by decide))), (fun h => f25.out (lk h (by decide))), (fun h => f26.out (lk h (by decide))), (fun h => f27.out (lk h (by decide))), (fun h => f28.out (lk h (by decide)))⟩
    · have l2 : L 2 = true := hdep _ rfl ⟨2, .guard⟩ (by simp) (by rfl)
      clear hdep
      obtain rfl := f2.out l2
      refine wpOp_step rfl (fun K' hKK => ?_)
      replace hKK := hide hKK
      go_simp
      refine hKK.out _ _ ?_
      exact ⟨_, _, _, _, _, _, _, _, _, _, _, _, _, _, _, _, _, _, _, _, _, _, _, _, _, _, _, _, _, rfl, hB.out, (fun h => f0.out (lk h (by decide))), (fun h => f1.out (lk h (by decide))), (fun _ => rfl), (fun _ => rfl), (fun h => f4.out (lk h (by decide))), (fun h => f5.out (lk h (by decide))), (fun h => f6.out (lk h (by decide))), (fun h => f7.out (lk h (by decide))), (fun h => f8.out (lk h (by decide))), (fun h => f9.out (lk h (by decide))), (fun h => f10.out (lk h (by decide))), (fun h => f11.out (lk h (by decide))), (fun h => f12.out (lk h (by decide))), (fun h => (f13.out (lk h (by decide)))), (fun h => f14.out (lk h (by decide))), (fun h => (f15.out (lk h (by decide)))), (fun h => f16.out (lk h (by decide))), (fun h => f17.out (lk h (by decide))), (fun h => (f18.out (lk h (by decide)))), (fun h => f19.out (lk h (by decide))), (fun h => f20.out (lk h (by decide))), (fun h => f21.out (lk h (by decide))), (fun h => f22.out (lk h (by decide))), (fun h => f23.out (lk h (by decide))), (fun h => f24.out (lk h (by decide))), (fun h => f25.out (lk h (by decide))), (fun h => f26.out (lk h (by decide))), (fun h => f27.out (lk h (by decide))), (fun h => f28.out (lk h (by decide)))⟩
    · have l2 : L 2 = true := hdep _ rfl ⟨2, .guard⟩ (by simp) (by rfl)
      clear hdep
      obtain rfl := f2.out l2
      refine wpOp_step rfl (fun K' hKK => ?_)
      replace hKK := hide hKK
      go_simp
      refine hKK.out _ _ ?_
      exact ⟨_, _, _, _, _, _, _, _, _, _, _, _, _, _, _, _, _, _, _, _, _, _, _, _, _, _, _, _, _, rfl, hB.out, (fun h => f0.out (lk h (by decide))), (fun h => f1.out (lk h (by decide))), (fun _ => rfl), (fun h => f3.out (lk h (by decide))), (fun _ => rfl), (fun h => f5.out (lk h (by decide))), (fun h => f6.out (lk h (by decide))), (fun h => f7.out (lk h (by decide))), (fun h => f8.out (lk h (by decide))), (fun h => f9.out (lk h (by decide))), (fun h => f10.out (lk h (by decide))), (fun h => f11.out (lk h (by decide))), (fun h => f12.out (lk h (by decide))), (fun h => (f13.out (lk h (by decide)))), (fun h => f14.out (lk h (by decide))), (fun h => (f15.out (lk h (by decide)))), (fun h => f16.out (lk h (by decide))), (fun h => f17.out (lk h (by decide))), (fun h => (f18.out (lk h (by decide)))), (fun h => f19.out (lk h (by decide))), (fun h => f20.out (lk h (by decide))), (fun h => f21.out (lk h (by decide))), (fun h => f22.out (lk h (by decide))), (fun h => f23.out (lk h (by decide))), (fun h => f24.out (lk h (by decide))), (fun h => f25.out (lk h (by decide))), (fun h => f26.out (lk h (by decide))), (fun h => f27.out (lk h (by decide))), (fun h => f28.out (lk h (by decide)))⟩
    · have l2 : L 2 = true := hdep _ rfl ⟨2, .guard⟩ (by simp) (by rfl)
      clear hdep
      obtain rfl := f2.out l2
      refine wpOp_step rfl (fun K' hKK => ?_)
      replace hKK := hide hKK
      go_simp
      refine hKK.out _ _ ?_
      exact ⟨_, _, _, _, _, _, _, _, _, _, _, _, _, _, _, _, _, _, _, _, _, _, _, _, _, _, _, _, _, rfl, hB.out, (fun h => f0.out (lk h (by decide))), (fun h => f1.out (lk h (by decide))), (fun _ => rfl), (fun h => f3.out (lk h (by decide))), (fun h => f4.out (lk h (by decide))), (fun _ => rfl), (fun h => f6.out (lk h (by decide))), (fun h => f7.out (lk h (by decide))), (fun h => f8.out (lk h (by decide))), (fun h => f9.out (lk h (by decide))), (fun h => f10.out (lk h (by decide))), (fun h => f11.out (lk h (by decide))), (fun h => f12.out (lk h (by decide))), (fun h => (f13.out (lk h (by decide)))), (fun h => f14.out (lk h (by decide))), (fun h => (f15.out (lk h (by decide)))), (fun h => f16.out (lk h (by decide))), (fun h => f17.out (lk h (by decide))), (fun h => (f18.out (lk h (by decide)))), (fun h => f19.out (lk h (by decide))), (fun h => f20.out (lk h (by decide))), (fun h => f21.out (lk h (by decide))), (fun h => f22.out (lk h (by decide))), (fun h => f23.out (lk h (by decide))), (fun h => f24.out (lk h (by decide))), (fun h => f25.out (lk h (by decide))), (fun h => f26.out (lk h (by decide))), (fun h => f27.out (lk h (by decide))), (fun h => f28.out (lk h (by decide)))⟩
    · have l2 : L 2 = true := hdep _ rfl ⟨2, .guard⟩ (by simp) (by rfl)
      clear hdep
      obtain rfl := f2.out l2
      refine wpOp_step rfl (fun K' hKK => ?_)
      replace hKK := hide hKK
      go_simp
      refine hKK.out _ _ ?_
      exact ⟨_, _, _, _, _, _, _, _, _, _, _, _, _, _, _, _, _, _, _, _, _, _, _, _, _, _, _, _, _, rfl, hB.out, (fun h => f0.out (lk h (by decide))), (fun h => f1.out (lk h (by decide))), (fun _ => rfl), (fun h => f3.out (lk h (by decide))), (fun h => f4.out (lk h (by decide))), (fun h => f5.out (lk h (by decide))), (fun _ => rfl), (fun h => f7.out (lk h (by decide))), (fun h => f8.out (lk h (by decide))), (fun h => f9.out (lk h (by decide))), (fun h => f10.out (lk h (by decide))), (fun h => f11.out (lk h (by decide))), (fun h => f12.out (lk h (by decide))), (fun h => (f13.out (lk h (by decide)))), (fun h => f14.out (lk h (by decide))), (fun h => (f15.out (lk h (by decide)))), (fun h => f16.out (lk h (by decide))), (fun h => f17.out (lk h (by decide))), (fun h => (f18.out (lk h (by decide)))), (fun h => f19.out (lk h (by decide))), (fun h => f20.out (lk h (by decide))), (fun h => f21.out (lk h (by decide))), (fun h => f22.out (lk h (by decide))), (fun h => f23.out (lk h (by decide))), (fun h => f24.out (lk h (by decide))), (fun h => f25.out (lk h (by decide))), (fun h => f26.out (lk h (by decide))), (fun h => f27.out (lk h (by decide))), (fun h => f28.out (lk h (by decide)))⟩
    · have l2 : L 2 = true := hdep _ rfl ⟨2, .guard⟩ (by simp) (by rfl)
      clear hdep
      obtain rfl := f2.out l2
      refine wpOp_step rfl (fun K' hKK => ?_)
      replace hKK := hide hKK
      go_simp
      refine hKK.out _ _ ?_
      exact ⟨_, _, _, _, _, _, _, _, _, _, _, _, _, _, _, _, _, _, _, _, _, _, _, _, _, _, _, _, _, rfl, hB.out, (fun h => f0.out (lk h (by decide))), (fun h => f1.out (lk h (by decide))), (fun _ => rfl), (fun h => f3.out (lk h (by decide))), (fun h => f4.out (lk h (by decide))), (fun h => f5.out (lk h (by decide))), (fun h => f6.out (lk h (by decide))), (fun _ => rfl), (fun h => f8.out (lk h (by decide))), (fun h => f9.out (lk h (by decide))), (fun h => f10.out (lk h (by decide))), (fun h => f11.out (lk h (by decide))), (fun h => f12.out (lk h (by decide))), (fun h => (f13.out (lk h (by decide)))), (fun h => f14.out (lk h (by decide))), (fun h => (f15.out (lk h (by decide)))), (fun h => f16.out (lk h (by decide))), (fun h => f17.out (lk h (by decide))), (fun h => (f18.out (lk h (by decide)))), (fun h => f19.out (lk h (by decide))), (fun h => f20.out (lk h (by decide))), (fun h => f21.out (lk h (by decide))), (fun h => f22.out (lk h (by decide))), (fun h => f23.out (lk h (by decide))), (fun h => f24.out (lk h (by decide))), (fun h => f25.out (lk h (by decide))), (fun h => f26.out (lk h (by decide))), (fun h => f27.out (lk h (by decide))), (fun h => f28.out (lk h (by decide)))⟩
    · have l2 : L 2 = true := hdep _ rfl ⟨2, .guard⟩ (by simp) (by rfl)
      clear hdep
      obtain rfl := f2.out l2
      refine wpOp_step rfl (fun K' hKK => ?_)
      replace hKK := hide hKK
      go_simp
      refine hKK.out _ _ ?_
      exact ⟨_, _, _, _, _, _, _, _, _, _, _, _, _, _, _, _, _, _, _, _, _, _, _, _, _, _, _, _, _, rfl, hB.out, (fun h => f0.out (lk h (by decide))), (fun h => f1.out (lk h (by decide))), (fun _ => rfl), (fun h => f3.out (lk h (by decide))), (fun h => f4.out (lk h (by decide))), (fun h => f5.out (lk h (by decide))), (fun h => f6.out (lk h (by decide))), (fun h => f7.out (lk h (by decide))), (fun _ => rfl), (fun h => f9.out (lk h (by decide))), (fun h => f10.out (lk h (by decide))), (fun h => f11.out (lk h (by decide))), (fun h => f12.out (lk h (by decide))), (fun h => (f13.out (lk h (by decide)))), (fun h => f14.out (lk h (by decide))), (fun h => (f15.out (lk h (by decide)))), (fun h => f16.out (lk h (by decide))), (fun h => f17.out (lk h (by decide))), (fun h => (f18.out (lk h (by decide)))), (fun h => f19.out (lk h (by decide))), (fun h => f20.out (lk h (by decide))), (fun h => f21.out (lk h (by decide))), (fun h => f22.out (lk h (by decide))), (fun h => f23.out (lk h (by decide))), (fun h => f24.out (lk h (by decide))), (fun h => f25.out (lk h (by decide))), (fun h => f26.out (lk h (by decide))), (fun h => f27.out (lk h (by decide))), (fun h => f28.out (lk h (by decide)))⟩
    · have l2 : L 2 = true := hdep _ rfl ⟨2, .guard⟩ (by simp) (by rfl)
      clear hdep
      obtain rfl := f2.out l2
      refine wpOp_step rfl (fun K' hKK => ?_)
      replace hKK := hide hKK
      go_simp
      refine hKK.out _ _ ?_
      exact ⟨_, _, _, _, _, _, _, _, _, _, _, _, _, _, _, _, _, _, _, _, _, _, _, _, _, _, _, _, _, rfl, hB.out, (fun h => f0.out (lk h (by decide))), (fun h => f1.out (lk h (by decide))), (fun _ => rfl), (fun h => f3.out (lk h (by decide))), (fun h => f4.out (lk h (by decide))), (fun h => f5.out (lk h (by decide))), (fun h => f6.out (lk h (by decide))), (fun h => f7.out (lk h (by decide))), (fun h => f8.out (lk h (by decide))), (fun _ => rfl), (fun h => f10.out (lk h (by decide))), (fun h => f11.out (lk h (by decide))), (fun h => f12.out (lk h (by decide))), (fun h => (f13.out (lk h (by decide)))), (fun h => f14.out (lk h (by decide))), (fun h => (f15.out (lk h (by decide)))), (fun h => f16.out (lk h (by decide))), (fun h => f17.out (lk h (by decide))), (fun h => (f18.out (lk h (by decide)))), (fun h => f19.out (lk h (by decide))), (fun h => f20.out (lk h (by decide))), (fun h => f21.out (lk h (by decide))), (fun h => f22.out (lk h (by decide))), (fun h => f23.out (lk h (by decide))), (fun h => f24.out (lk h (by decide))), (fun h => f25.out (lk h (by decide))), (fun h => f26.out (lk h (by decide))), (fun h => f27.out (lk h (by decide))), (fun h => f28.out (lk h (by decide)))⟩
    · have l2 : L 2 = true := hdep _ rfl ⟨2, .data⟩ (by simp) (by rfl)
      have l9 : L 9 = true := hdep _ rfl ⟨9, .data⟩ (by simp) (by rfl)
      clear hdep
      obtain rfl := f2.out l2
      obtain rfl := f9.out l9
      refine wpOp_step rfl (fun K' hKK => ?_)
      replace hKK := hide hKK
      go_simp
      refine hKK.out _ _ ?_
      exact ⟨_, _, _, _, _, _, _, _, _, _, _, _, _, _, _, _, _, _, _, _, _, _, _, _, _, _, _, _, _, rfl, hB.out, (fun h => f0.out (lk h (by decide))), (fun h => f1.out (lk h (by decide))), (fun _ => rfl), (fun h => f3.out (lk h (by decide))), (fun h => f4.out (lk h (by decide))), (fun h => f5.out (lk h (by decide))), (fun h => f6.out (lk h (by decide))), (fun h => f7.out (lk h (by decide))), (fun h => f8.out (lk h (by decide))), (fun _ => rfl), (fun _ => rfl), (fun h => f11.out (lk h (by decide))), (fun h => f12.out (lk h (by decide))), (fun h => (f13.out (lk h (by decide)))), (fun h => f14.out (lk h (by decide))), (fun h => (f15.out (lk h (by decide)))), (fun h => f16.out (lk h (by decide))), (fun h => f17.out (lk h (by decide))), (fun h => (f18.out (lk h (by decide)))), (fun h => f19.out (lk h (by decide))), (fun h => f20.out (lk h (by decide))), (fun h => f21.out (lk h (by decide))), (fun h => f22.out (lk h (by decide))), (fun h => f23.out (lk h (by decide))), (fun h => f24.out (lk h (by decide))), (fun h => f25.out (lk h (by decide))), (fun h => f26.out (lk h (by decide))), (fun h => f27.out (lk h (by decide))), (fun h => f28.out (lk h (by decide)))⟩
    · have l10 : L 10 = true := hdep _ rfl ⟨10, .data⟩ (by simp) (by rfl)
      clear hdep
      obtain rfl := f10.out l10
      refine wpOp_step rfl (fun K' hKK => ?_)
      replace hKK := hide hKK
      go_simp
      refine hKK.out _ _ ?_
      exact ⟨_, _, _, _, _, _, _, _, _, _, _, _, _, _, _, _, _, _, _, _, _, _, _, _, _, _, _, _, _, rfl, hB.out, (fun h => f0.out (lk h (by decide))), (fun h => f1.out (lk h (by decide))), (fun h => f2.out (lk h (by decide))), (fun h => f3.out (lk h (by decide))), (fun h => f4.out (lk h (by decide))), (fun h => f5.out (lk h (by decide))), (fun h => f6.out (lk h (by decide))), (fun h => f7.out (lk h (by decide))), (fun h => f8.out (lk h (by decide))), (fun h => f9.out (lk h (by decide))), (fun _ => rfl), (fun _ => rfl), (fun h => f12.out (lk h (by decide))), (fun h => (f13.out (lk h (by decide)))), (fun h => f14.out (lk h (by decide))), (fun h => (f15.out (lk h (by decide)))), (fun h => f16.out (lk h (by decide))), (fun h => f17.out (lk h (by decide))), (fun h => (f18.out (lk h (by decide)))), (fun h => f19.out (lk h (by decide))), (fun h => f20.out (lk h (by decide))), (fun h => f21.out (lk h (by decide))), (fun h => f22.out (lk h (by decide))), (fun h => f23.out (lk h (by decide))), (fun h => f24.out (lk h (by decide))), (fun h => f25.out (lk h (by decide))), (fun h => f26.out (lk h (by decide))), (fun h => f27.out (lk h (by decide))), (fun h => f28.out (lk h (by decide)))⟩
    · have l11 : L 11 = true := hdep _ rfl ⟨11, .guard⟩ (by simp) (by rfl)
      clear hdep
      obtain rfl := f11.out l11
      obtain ⟨⟨⟨c0, c1, c2⟩, _⟩, _, _⟩ := hS.out
      refine wpOp_step rfl (fun K' hKK => ?_)
      replace hKK := hide hKK
      go_simp
      refine hKK.out _ _ ?_
      exact ⟨_, _, _, _, _, _, _, _, _, _, _, _, _, _, _, _, _, _, _, _, _, _, _, _, _, _, _, _, _, rfl, hB.out, (fun h => f0.out (lk h (by decide))), (fun h => f1.out (lk h (by decide))), (fun h => f2.out (lk h (by decide))), (fun h => f3.out (lk h (by decide))), (fun h => f4.out (lk h (by decide))), (fun h => f5.out (lk h (by decide))), (fun h => f6.out (lk h (by decide))), (fun h => f7.out (lk h (by decide))), (fun h => f8.out (lk h (by decide))), (fun h => f9.out (lk h (by decide))), (fun h => f10.out (lk h (by decide))), (fun _ => rfl), (fun _ => rfl), (fun h => (f13.out (lk h (by decide)))), (fun h => f14.out (lk h (by decide))), (fun h => (f15.out (lk h (by decide)))), (fun h => f16.out (lk h (by decide))), (fun h => f17.out (lk h (by decide))), (fun h => (f18.out (lk h (by decide)))), (fun h => f19.out (lk h (by decide))), (fun h => f20.out (lk h (by decide))), (fun h => f21.out (lk h (by decide))), (fun h => f22.out (lk h (by decide))), (fun h => f23.out (lk h (by decide))), (fun h => f24.out (lk h (by decide))), (fun h => f25.out (lk h (by decide))), (fun h => f26.out (lk h (by decide))), (fun h => f27.out (lk h (by decide))), (fun h => f28.out (lk h (by decide)))⟩
    · have l12 : L 12 = true := hdep _ rfl ⟨12, .data⟩ (by simp) (by rfl)
      have l11 : L 11 = true := hdep _ rfl ⟨11, .guard⟩ (by simp) (by rfl)
      clear hdep
      obtain rfl := f12.out l12
      obtain rfl := f11.out l11
      refine wpOp_step rfl (fun K' hKK => ?_)
      replace hKK := hide hKK
      go_simp
      refine hKK.out _ _ ?_
      exact ⟨_, _, _, _, _, _, _, _, _, _, _, _, _, _, _, _, _, _, _, _, _, _, _, _, _, _, _, _, _, rfl, step hB.out _, (fun h => f0.out (lk h (by decide))), (fun h => f1.out (lk h (by decide))), (fun h => f2.out (lk h (by decide))), (fun h => f3.out (lk h (by decide))), (fun h => f4.out (lk h (by decide))), (fun h => f5.out (lk h (by decide))), (fun h => f6.out (lk h (by decide))), (fun h => f7.out (lk h (by decide))), (fun h => f8.out (lk h (by decide))), (fun h => f9.out (lk h (by decide))), (fun h => f10.out (lk h (by decide))), (fun _ => rfl), (fun _ => rfl), (fun _ => ⟨_, rfl, vals1 _ _⟩), (fun h => f14.out (lk h (by decide))), (fun h => (f15.out (lk h (by decide))).keep (step (Below.refl _ _) _)), (fun h => f16.out (lk h (by decide))), (fun h => f17.out (lk h (by decide))), (fun h => (f18.out (lk h (by decide))).keep (step (Below.refl _ _) _)), (fun h => f19.out (lk h (by decide))), (fun h => f20.out (lk h (by decide))), (fun h => f21.out (lk h (by decide))), (fun h => f22.out (lk h (by decide))), (fun h => f23.out (lk h (by decide))), (fun h => f24.out (lk h (by decide))), (fun h => f25.out (lk h (by decide))), (fun h => f26.out (lk h (by decide))), (fun h => f27.out (lk h (by decide))), (fun h => f28.out (lk h (by decide)))⟩
    · have l13 : L 13 = true := hdep _ rfl ⟨13, .data⟩ (by simp) (by rfl)
      have l11 : L 11 = true := hdep _ rfl ⟨11, .guard⟩ (by simp) (by rfl)
      clear hdep
      obtain rfl := f11.out l11
      obtain ⟨bs13, rfl, hv⟩ := f13.out l13
      refine wpOp_step rfl (fun K' hKK => ?_)
      replace hKK := hide hKK
      go_simp
      go_wp2_with (refine (is1v 21 ⟨3, 0, s⟩ ⟨3, 0, lw⟩ HLow.out _ bs13 (HT2.out _ hB.out) hv).mono ?_; rintro e w5 ⟨rfl, hb5⟩)
      refine hKK.out _ _ ?_
      exact ⟨_, _, _, _, _, _, _, _, _, _, _, _, _, _, _, _, _, _, _, _, _, _, _, _, _, _, _, _, _, rfl, next hB.out hb5, (fun h => f0.out (lk h (by decide))), (fun h => f1.out (lk h (by decide))), (fun h => f2.out (lk h (by decide))), (fun h => f3.out (lk h (by decide))), (fun h => f4.out (lk h (by decide))), (fun h => f5.out (lk h (by decide))), (fun h => f6.out (lk h (by decide))), (fun h => f7.out (lk h (by decide))), (fun h => f8.out (lk h (by decide))), (fun h => f9.out (lk h (by decide))), (fun h => f10.out (lk h (by decide))), (fun _ => rfl), (fun h => f12.out (lk h (by decide))), (fun _ => ⟨bs13, rfl, hv.keep hb5⟩), (fun _ => rfl), (fun h => (f15.out (lk h (by decide))).keep hb5), (fun h => f16.out (lk h (by decide))), (fun h => f17.out (lk h (by decide))), (fun h => (f18.out (lk h (by decide))).keep hb5), (fun h => f19.out (lk h (by decide))), (fun h => f20.out (lk h (by decide))), (fun h => f21.out (lk h (by decide))), (fun h => f22.out (lk h (by decide))), (fun h => f23.out (lk h (by decide))), (fun h => f24.out (lk h (by decide))), (fun h => f25.out (lk h (by decide))), (fun h => f26.out (lk h (by decide))), (fun h => f27.out (lk h (by decide))), (fun h => f28.out (lk h (by decide)))⟩
    · have l14 : L 14 = true := hdep _ rfl ⟨14, .data⟩ (by simp) (by rfl)
      have l11 : L 11 = true := hdep _ rfl ⟨11, .guard⟩ (by simp) (by rfl)
      clear hdep
      obtain rfl := f14.out l14
      obtain rfl := f11.out l11
      refine wpOp_step rfl (fun K' hKK => ?_)
      replace hKK := hide hKK
      go_simp
      refine hKK.out _ _ ?_
      exact ⟨_, _, _, _, _, _, _, _, _, _, _, _, _, _, _, _, _, _, _, _, _, _, _, _, _, _, _, _, _, rfl, step hB.out _, (fun h => f0.out (lk h (by decide))), (fun h => f1.out (lk h (by decide))), (fun h => f2.out (lk h (by decide))), (fun h => f3.out (lk h (by decide))), (fun h => f4.out (lk h (by decide))), (fun h => f5.out (lk h (by decide))), (fun h => f6.out (lk h (by decide))), (fun h => f7.out (lk h (by decide))), (fun h => f8.out (lk h (by decide))), (fun h => f9.out (lk h (by decide))), (fun h => f10.out (lk h (by decide))), (fun _ => rfl), (fun h => f12.out (lk h (by decide))), (fun h => (f13.out (lk h (by decide))).keep (step (Below.refl _ _) _)), (fun _ => rfl), (fun _ => ⟨_, rfl, vals1 _ _⟩), (fun h => f16.out (lk h (by decide))), (fun h => f17.out (lk h (by decide))), (fun h => (f18.out (lk h (by decide))).keep (step (Below.refl _ _) _)), (fun h => f19.out (lk h (by decide))), (fun h => f20.out (lk h (by decide))), (fun h => f21.out (lk h (by decide))), (fun h => f22.out (lk h (by decide))), (fun h => f23.out (lk h (by decide))), (fun h => f24.out (lk h (by decide))), (fun h => f25.out (lk h (by decide))), (fun h => f26.out (lk h (by decide))), (fun h => f27.out (lk h (by decide))), (fun h => f28.out (lk h (by decide)))⟩
    · have l15 : L 15 = true := hdep _ rfl ⟨15, .data⟩ (by simp) (by rfl)
      have l11 : L 11 = true := hdep _ rfl ⟨11, .guard⟩ (by simp) (by rfl)
      clear hdep
      obtain rfl := f11.out l11
      obtain ⟨bs15, rfl, hv⟩ := f15.out l15
      refine wpOp_step rfl (fun K' hKK => ?_)
      replace hKK := hide hKK
      go_simp
      go_wp2_with (refine (is1v 20 ⟨3, 0, lw⟩ ⟨3, 0, up⟩ HUp1.out _ bs15 (HT2.out _ hB.out) hv).mono ?_; rintro e w5 ⟨rfl, hb5⟩)
      refine hKK.out _ _ ?_
      exact ⟨_, _, _, _, _, _, _, _, _, _, _, _, _, _, _, _, _, _, _, _, _, _, _, _, _, _, _, _, _, rfl, next hB.out hb5, (fun h => f0.out (lk h (by decide))), (fun h => f1.out (lk h (by decide))), (fun h => f2.out (lk h (by decide))), (fun h => f3.out (lk h (by decide))), (fun h => f4.out (lk h (by decide))), (fun h => f5.out (lk h (by decide))), (fun h => f6.out (lk h (by decide))), (fun h => f7.out (lk h (by decide))), (fun h => f8.out (lk h (by decide))), (fun h => f9.out (lk h (by decide))), (fun h => f10.out (lk h (by decide))), (fun _ => rfl), (fun h => f12.out (lk h (by decide))), (fun h => (f13.out (lk h (by decide))).keep hb5), (fun h => f14.out (lk h (by decide))), (fun _ => ⟨bs15, rfl, hv.keep hb5⟩), (fun _ => rfl), (fun h => f17.out (lk h (by decide))), (fun h => (f18.out (lk h (by decide))).keep hb5), (fun h => f19.out (lk h (by decide))), (fun h => f20.out (lk h (by decide))), (fun h => f21.out (lk h (by decide))), (fun h => f22.out (lk h (by decide))), (fun h => f23.out (lk h (by decide))), (fun h => f24.out (lk h (by decide))), (fun h => f25.out (lk h (by decide))), (fun h => f26.out (lk h (by decide))), (fun h => f27.out (lk h (by decide))), (fun h => f28.out (lk h (by decide)))⟩
    · have l11 : L 11 = true := hdep _ rfl ⟨11, .guard⟩ (by simp) (by rfl)
      clear hdep
      obtain rfl := f11.out l11
      obtain ⟨⟨⟨c0, c1, c2⟩, _⟩, _, _⟩ := hS.out
      refine wpOp_step rfl (fun K' hKK => ?_)
      replace hKK := hide hKK
      go_simp
      refine hKK.out _ _ ?_
      exact ⟨_, _, _, _, _, _, _, _, _, _, _, _, _, _, _, _, _, _, _, _, _, _, _, _, _, _, _, _, _, rfl, hB.out, (fun h => f0.out (lk h (by decide))), (fun h => f1.out (lk h (by decide))), (fun h => f2.out (lk h (by decide))), (fun h => f3.out (lk h (by decide))), (fun h => f4.out (lk h (by decide))), (fun h => f5.out (lk h (by decide))), (fun h => f6.out (lk h (by decide))), (fun h => f7.out (lk h (by decide))), (fun h => f8.out (lk h (by decide))), (fun h => f9.out (lk h (by decide))), (fun h => f10.out (lk h (by decide))), (fun _ => rfl), (fun h => f12.out (lk h (by decide))), (fun h => (f13.out (lk h (by decide)))), (fun h => f14.out (lk h (by decide))), (fun h => (f15.out (lk h (by decide)))), (fun h => f16.out (lk h (by decide))), (fun _ => rfl), (fun h => (f18.out (lk h (by decide)))), (fun h => f19.out (lk h (by decide))), (fun h => f20.out (lk h (by decide))), (fun h => f21.out (lk h (by decide))), (fun h => f22.out (lk h (by decide))), (fun h => f23.out (lk h (by decide))), (fun h => f24.out (lk h (by decide))), (fun h => f25.out (lk h (by decide))), (fun h => f26.out (lk h (by decide))), (fun h => f27.out (lk h (by decide))), (fun h => f28.out (lk h (by decide)))⟩
    · have l17 : L 17 = true := hdep _ rfl ⟨17, .data⟩ (by simp) (by rfl)
      have l11 : L 11 = true := hdep _ rfl ⟨11, .guard⟩ (by simp) (by rfl)
      clear hdep
      obtain rfl := f17.out l17
      obtain rfl := f11.out l11
      refine wpOp_step rfl (fun K' hKK => ?_)
      replace hKK := hide hKK
      go_simp
      refine hKK.out _ _ ?_
      exact ⟨_, _, _, _, _, _, _, _, _, _, _, _, _, _, _, _, _, _, _, _, _, _, _, _, _, _, _, _, _, rfl, step hB.out _, (fun h => f0.out (lk h (by decide))), (fun h => f1.out (lk h (by decide))), (fun h => f2.out (lk h (by decide))), (fun h => f3.out (lk h (by decide))), (fun h => f4.out (lk h (by decide))), (fun h => f5.out (lk h (by decide))), (fun h => f6.out (lk h (by decide))), (fun h => f7.out (lk h (by decide))), (fun h => f8.out (lk h (by decide))), (fun h => f9.out (lk h (by decide))), (fun h => f10.out (lk h (by decide))), (fun _ => rfl), (fun h => f12.out (lk h (by decide))), (fun h => (f13.out (lk h (by decide))).keep (step (Below.refl _ _) _)), (fun h => f14.out (lk h (by decide))), (fun h => (f15.out (lk h (by decide))).keep (step (Below.refl _ _) _)), (fun h => f16.out (lk h (by decide))), (fun _ => rfl), (fun _ => ⟨_, rfl, vals1 _ _⟩), (fun h => f19.out (lk h (by decide))), (fun h => f20.out (lk h (by decide))), (fun h => f21.out (lk h (by decide))), (fun h => f22.out (lk h (by decide))), (fun h => f23.out (lk h (by decide))), (fun h => f24.out (lk h (by decide))), (fun h => f25.out (lk h (by decide))), (fun h => f26.out (lk h (by decide))), (fun h => f27.out (lk h (by decide))), (fun h => f28.out (lk h (by decide)))⟩
    · have l18 : L 18 = true := hdep _ rfl ⟨18, .data⟩ (by simp) (by rfl)
      have l11 : L 11 = true := hdep _ rfl ⟨11, .guard⟩ (by simp) (by rfl)
      clear hdep
      obtain rfl := f11.out l11
      obtain ⟨bs18, rfl, hv⟩ := f18.out l18
      refine wpOp_step rfl (fun K' hKK => ?_)
      replace hKK := hide hKK
      go_simp
      go_wp2_with (refine (is1v 20 ⟨3, 0, s⟩ ⟨3, 0, up⟩ HUp2.out _ bs18 (HT2.out _ hB.out) hv).mono ?_; rintro e w5 ⟨rfl, hb5⟩)
      refine hKK.out _ _ ?_
      exact ⟨_, _, _, _, _, _, _, _, _, _, _, _, _, _, _, _, _, _, _, _, _, _, _, _, _, _, _, _, _, rfl, next hB.out hb5, (fun h => f0.out (lk h (by decide))), (fun h => f1.out (lk h (by decide))), (fun h => f2.out (lk h (by decide))), (fun h => f3.out (lk h (by decide))), (fun h => f4.out (lk h (by decide))), (fun h => f5.out (lk h (by decide))), (fun h => f6.out (lk h (by decide))), (fun h => f7.out (lk h (by decide))), (fun h => f8.out (lk h (by decide))), (fun h => f9.out (lk h (by decide))), (fun h => f10.out (lk h (by decide))), (fun _ => rfl), (fun h => f12.out (lk h (by decide))), (fun h => (f13.out (lk h (by decide))).keep hb5), (fun h => f14.out (lk h (by decide))), (fun h => (f15.out (lk h (by decide))).keep hb5), (fun h => f16.out (lk h (by decide))), (fun h => f17.out (lk h (by decide))), (fun _ => ⟨bs18, rfl, hv.keep hb5⟩), (fun _ => rfl), (fun h => f20.out (lk h (by decide))), (fun h => f21.out (lk h (by decide))), (fun h => f22.out (lk h (by decide))), (fun h => f23.out (lk h (by decide))), (fun h => f24.out (lk h (by decide))), (fun h => f25.out (lk h (by decide))), (fun h => f26.out (lk h (by decide))), (fun h => f27.out (lk h (by decide))), (fun h => f28.out (lk h (by decide)))⟩
    · have l16 : L 16 = true := hdep _ rfl ⟨16, .data⟩ (by simp) (by rfl)
      have l19 : L 19 = true := hdep _ rfl ⟨19, .data⟩ (by simp) (by rfl)
      have l11 : L 11 = true := hdep _ rfl ⟨11, .guard⟩ (by simp) (by rfl)
      clear hdep
      obtain rfl := f16.out l16
      obtain rfl := f19.out l19
      obtain rfl := f11.out l11
      have nu := va_neq 3 0 up
      refine wpOp_step rfl (fun K' hKK => ?_)
      replace hKK := hide hKK
      go_simp
      refine hKK.out _ _ ?_
      exact ⟨_, _, _, _, _, _, _, _, _, _, _, _, _, _, _, _, _, _, _, _, _, _, _, _, _, _, _, _, _, rfl, hB.out, (fun h => f0.out (lk h (by decide))), (fun h => f1.out (lk h (by decide))), (fun h => f2.out (lk h (by decide))), (fun h => f3.out (lk h (by decide))), (fun h => f4.out (lk h (by decide))), (fun h => f5.out (lk h (by decide))), (fun h => f6.out (lk h (by decide))), (fun h => f7.out (lk h (by decide))), (fun h => f8.out (lk h (by decide))), (fun h => f9.out (lk h (by decide))), (fun h => f10.out (lk h (by decide))), (fun _ => rfl), (fun h => f12.out (lk h (by decide))), (fun h => (f13.out (lk h (by decide)))), (fun h => f14.out (lk h (by decide))), (fun h => (f15.out (lk h (by decide)))), (fun _ => rfl), (fun h => f17.out (lk h (by decide))), (fun h => (f18.out (lk h (by decide)))), (fun _ => rfl), (fun _ => rfl), (fun h => f21.out (lk h (by decide))), (fun h => f22.out (lk h (by decide))), (fun h => f23.out (lk h (by decide))), (fun h => f24.out (lk h (by decide))), (fun h => f25.out (lk h (by decide))), (fun h => f26.out (lk h (by decide))), (fun h => f27.out (lk h (by decide))), (fun h => f28.out (lk h (by decide)))⟩
    · have l11 : L 11 = true := hdep _ rfl ⟨11, .data⟩ (by simp) (by rfl)
      have l20 : L 20 = true := hdep _ rfl ⟨20, .data⟩ (by simp) (by rfl)
      clear hdep
      obtain rfl := f11.out l11
      obtain rfl := f20.out l20
      refine wpOp_step rfl (fun K' hKK => ?_)
      replace hKK := hide hKK
      go_simp
      refine hKK.out _ _ ?_
      exact ⟨_, _, _, _, _, _, _, _, _, _, _, _, _, _, _, _, _, _, _, _, _, _, _, _, _, _, _, _, _, rfl, hB.out, (fun h => f0.out (lk h (by decide))), (fun h => f1.out (lk h (by decide))), (fun h => f2.out (lk h (by decide))), (fun h => f3.out (lk h (by decide))), (fun h => f4.out (lk h (by decide))), (fun h => f5.out (lk h (by decide))), (fun h => f6.out (lk h (by decide))), (fun h => f7.out (lk h (by decide))), (fun h => f8.out (lk h (by decide))), (fun h => f9.out (lk h (by decide))), (fun h => f10.out (lk h (by decide))), (fun _ => rfl), (fun h => f12.out (lk h (by decide))), (fun h => (f13.out (lk h (by decide)))), (fun h => f14.out (lk h (by decide))), (fun h => (f15.out (lk h (by decide)))), (fun h => f16.out (lk h (by decide))), (fun h => f17.out (lk h (by decide))), (fun h => (f18.out (lk h (by decide)))), (fun h => f19.out (lk h (by decide))), (fun _ => rfl), (fun _ => rfl), (fun h => f22.out (lk h (by decide))), (fun h => f23.out (lk h (by decide))), (fun h => f24.out (lk h (by decide))), (fun h => f25.out (lk h (by decide))), (fun h => f26.out (lk h (by decide))), (fun h => f27.out (lk h (by decide))), (fun h => f28.out (lk h (by decide)))⟩
    · have l21 : L 21 = true := hdep _ rfl ⟨21, .data⟩ (by simp) (by rfl)
      clear hdep
      obtain rfl := f21.out l21
      refine wpOp_step rfl (fun K' hKK => ?_)
      replace hKK := hide hKK
      go_simp
      refine hKK.out _ _ ?_
      exact ⟨_, _, _, _, _, _, _, _, _, _, _, _, _, _, _, _, _, _, _, _, _, _, _, _, _, _, _, _, _, rfl, hB.out, (fun h => f0.out (lk h (by decide))), (fun h => f1.out (lk h (by decide))), (fun h => f2.out (lk h (by decide))), (fun h => f3.out (lk h (by decide))), (fun h => f4.out (lk h (by decide))), (fun h => f5.out (lk h (by decide))), (fun h => f6.out (lk h (by decide))), (fun h => f7.out (lk h (by decide))), (fun h => f8.out (lk h (by decide))), (fun h => f9.out (lk h (by decide))), (fun h => f10.out (lk h (by decide))), (fun h => f11.out (lk h (by decide))), (fun h => f12.out (lk h (by decide))), (fun h => (f13.out (lk h (by decide)))), (fun h => f14.out (lk h (by decide))), (fun h => (f15.out (lk h (by decide)))), (fun h => f16.out (lk h (by decide))), (fun h => f17.out (lk h (by decide))), (fun h => (f18.out (lk h (by decide)))), (fun h => f19.out (lk h (by decide))), (fun h => f20.out (lk h (by decide))), (fun _ => rfl), (fun _ => rfl), (fun h => f23.out (lk h (by decide))), (fun h => f24.out (lk h (by decide))), (fun h => f25.out (lk h (by decide))), (fun h => f26.out (lk h (by decide))), (fun h => f27.out (lk h (by decide))), (fun h => f28.out (lk h (by decide)))⟩
    · have l22 : L 22 = true := hdep _ rfl ⟨22, .guard⟩ (by simp) (by rfl)
      clear hdep
      obtain rfl := f22.out l22
      obtain ⟨_, ⟨⟨c0, c1, c2⟩, _⟩, _⟩ := hS.out
      refine wpOp_step rfl (fun K' hKK => ?_)
      replace hKK := hide hKK
      go_simp
      refine hKK.out _ _ ?_
      exact ⟨_, _, _, _, _, _, _, _, _, _, _, _, _, _, _, _, _, _, _, _, _, _, _, _, _, _, _, _, _, rfl, hB.out, (fun h => f0.out (lk h (by decide))), (fun h => f1.out (lk h (by decide))), (fun h => f2.out (lk h (by decide))), (fun h => f3.out (lk h (by decide))), (fun h => f4.out (lk h (by decide))), (fun h => f5.out (lk h (by decide))), (fun h => f6.out (lk h (by decide))), (fun h => f7.out (lk h (by decide))), (fun h => f8.out (lk h (by decide))), (fun h => f9.out (lk h (by decide))), (fun h => f10.out (lk h (by decide))), (fun h => f11.out (lk h (by decide))), (fun h => f12.out (lk h (by decide))), (fun h => (f13.out (lk h (by decide)))), (fun h => f14.out (lk h (by decide))), (fun h => (f15.out (lk h (by decide)))), (fun h => f16.out (lk h (by decide))), (fun h => f17.out (lk h (by decide))), (fun h => (f18.out (lk h (by decide)))), (fun h => f19.out (lk h (by decide))), (fun h => f20.out (lk h (by decide))), (fun h => f21.out (lk h (by decide))), (fun _ => rfl), (fun _ => rfl), (fun h => f24.out (lk h (by decide))), (fun h => f25.out (lk h (by decide))), (fun h => f26.out (lk h (by decide))), (fun h => f27.out (lk h (by decide))), (fun h => f28.out (lk h (by decide)))⟩
    · have l22 : L 22 = true := hdep _ rfl ⟨22, .guard⟩ (by simp) (by rfl)
      clear hdep
      obtain rfl := f22.out l22
      obtain ⟨_, _, ⟨⟨c0, c1, c2⟩, _⟩⟩ := hS.out
      refine wpOp_step rfl (fun K' hKK => ?_)
      replace hKK := hide hKK
      go_simp
      refine hKK.out _ _ ?_
      exact ⟨_, _, _, _, _, _, _, _, _, _, _, _, _, _, _, _, _, _, _, _, _, _, _, _, _, _, _, _, _, rfl, hB.out, (fun h => f0.out (lk h (by decide))), (fun h => f1.out (lk h (by decide))), (fun h => f2.out (lk h (by decide))), (fun h => f3.out (lk h (by decide))), (fun h => f4.out (lk h (by decide))), (fun h => f5.out (lk h (by decide))), (fun h => f6.out (lk h (by decide))), (fun h => f7.out (lk h (by decide))), (fun h => f8.out (lk h (by decide))), (fun h => f9.out (lk h (by decide))), (fun h => f10.out (lk h (by decide))), (fun h => f11.out (lk h (by decide))), (fun h => f12.out (lk h (by decide))), (fun h => (f13.out (lk h (by decide)))), (fun h => f14.out (lk h (by decide))), (fun h => (f15.out (lk h (by decide)))), (fun h => f16.out (lk h (by decide))), (fun h => f17.out (lk h (by decide))), (fun h => (f18.out (lk h (by decide)))), (fun h => f19.out (lk h (by decide))), (fun h => f20.out (lk h (by decide))), (fun h => f21.out (lk h (by decide))), (fun _ => rfl), (fun h => f23.out (lk h (by decide))), (fun _ => rfl), (fun h => f25.out (lk h (by decide))), (fun h => f26.out (lk h (by decide))), (fun h => f27.out (lk h (by decide))), (fun h => f28.out (lk h (by decide)))⟩
    · have l23 : L 23 = true := hdep _ rfl ⟨23, .data⟩ (by simp) (by rfl)
      have l24 : L 24 = true := hdep _ rfl ⟨24, .data⟩ (by simp) (by rfl)
      have l22 : L 22 = true := hdep _ rfl ⟨22, .guard⟩ (by simp) (by rfl)
      clear hdep
      obtain rfl := f23.out l23
      obtain rfl := f24.out l24
      obtain rfl := f22.out l22
      refine wpOp_step rfl (fun K' hKK => ?_)
      replace hKK := hide hKK
      go_simp
      go_wp2_with (refine (HJoin.out _ (HT2.out _ hB.out).1).mono ?_; rintro e w5 ⟨rfl, hb5⟩)
      refine hKK.out _ _ ?_
      exact ⟨_, _, _, _, _, _, _, _, _, _, _, _, _, _, _, _, _, _, _, _, _, _, _, _, _, _, _, _, _, rfl, next hB.out hb5, (fun h => f0.out (lk h (by decide))), (fun h => f1.out (lk h (by decide))), (fun h => f2.out (lk h (by decide))), (fun h => f3.out (lk h (by decide))), (fun h => f4.out (lk h (by decide))), (fun h => f5.out (lk h (by decide))), (fun h => f6.out (lk h (by decide))), (fun h => f7.out (lk h (by decide))), (fun h => f8.out (lk h (by decide))), (fun h => f9.out (lk h (by decide))), (fun h => f10.out (lk h (by decide))), (fun h => f11.out (lk h (by decide))), (fun h => f12.out (lk h (by decide))), (fun h => (f13.out (lk h (by decide))).keep hb5), (fun h => f14.out (lk h (by decide))), (fun h => (f15.out (lk h (by decide))).keep hb5), (fun h => f16.out (lk h (by decide))), (fun h => f17.out (lk h (by decide))), (fun h => (f18.out (lk h (by decide))).keep hb5), (fun h => f19.out (lk h (by decide))), (fun h => f20.out (lk h (by decide))), (fun h => f21.out (lk h (by decide))), (fun _ => rfl), (fun _ => rfl), (fun _ => rfl), (fun _ => rfl), (fun h => f26.out (lk h (by decide))), (fun h => f27.out (lk h (by decide))), (fun h => f28.out (lk h (by decide)))⟩
    · have l22 : L 22 = true := hdep _ rfl ⟨22, .guard⟩ (by simp) (by rfl)
      clear hdep
      obtain rfl := f22.out l22
      obtain ⟨⟨⟨c0, c1, c2⟩, _⟩, _, _⟩ := hS.out
      refine wpOp_step rfl (fun K' hKK => ?_)
      replace hKK := hide hKK
      go_simp
      refine hKK.out _ _ ?_
      exact ⟨_, _, _, _, _, _, _, _, _, _, _, _, _, _, _, _, _, _, _, _, _, _, _, _, _, _, _, _, _, rfl, hB.out, (fun h => f0.out (lk h (by decide))), (fun h => f1.out (lk h (by decide))), (fun h => f2.out (lk h (by decide))), (fun h => f3.out (lk h (by decide))), (fun h => f4.out (lk h (by decide))), (fun h => f5.out (lk h (by decide))), (fun h => f6.out (lk h (by decide))), (fun h => f7.out (lk h (by decide))), (fun h => f8.out (lk h (by decide))), (fun h => f9.out (lk h (by decide))), (fun h => f10.out (lk h (by decide))), (fun h => f11.out (lk h (by decide))), (fun h => f12.out (lk h (by decide))), (fun h => (f13.out (lk h (by decide)))), (fun h => f14.out (lk h (by decide))), (fun h => (f15.out (lk h (by decide)))), (fun h => f16.out (lk h (by decide))), (fun h => f17.out (lk h (by decide))), (fun h => (f18.out (lk h (by decide)))), (fun h => f19.out (lk h (by decide))), (fun h => f20.out (lk h (by decide))), (fun h => f21.out (lk h (by decide))), (fun _ => rfl), (fun h => f23.out (lk h (by decide))), (fun h => f24.out (lk h (by decide))), (fun h => f25.out (lk h (by decide))), (fun _ => rfl), (fun h => f27.out (lk h (by decide))), (fun h => f28.out (lk h (by decide)))⟩
    · have l25 : L 25 = true := hdep _ rfl ⟨25, .data⟩ (by simp) (by rfl)
      have l26 : L 26 = true := hdep _ rfl ⟨26, .data⟩ (by simp) (by rfl)
      have l22 : L 22 = true := hdep _ rfl ⟨22, .guard⟩ (by simp) (by rfl)
      clear hdep
      obtain rfl := f25.out l25
      obtain rfl := f26.out l26
      obtain rfl := f22.out l22
      have ns := va_neq 3 0 s
      refine wpOp_step rfl (fun K' hKK => ?_)
      replace hKK := hide hKK
      go_simp
      refine hKK.out _ _ ?_
      exact ⟨_, _, _, _, _, _, _, _, _, _, _, _, _, _, _, _, _, _, _, _, _, _, _, _, _, _, _, _, _, rfl, hB.out, (fun h => f0.out (lk h (by decide))), (fun h => f1.out (lk h (by decide))), (fun h => f2.out (lk h (by decide))), (fun h => f3.out (lk h (by decide))), (fun h => f4.out (lk h (by decide))), (fun h => f5.out (lk h (by decide))), (fun h => f6.out (lk h (by decide))), (fun h => f7.out (lk h (by decide))), (fun h => f8.out (lk h (by decide))), (fun h => f9.out (lk h (by decide))), (fun h => f10.out (lk h (by decide))), (fun h => f11.out (lk h (by decide))), (fun h => f12.out (lk h (by decide))), (fun h => (f13.out (lk h (by decide)))), (fun h => f14.out (lk h (by decide))), (fun h => (f15.out (lk h (by decide)))), (fun h => f16.out (lk h (by decide))), (fun h => f17.out (lk h (by decide))), (fun h => (f18.out (lk h (by decide)))), (fun h => f19.out (lk h (by decide))), (fun h => f20.out (lk h (by decide))), (fun h => f21.out (lk h (by decide))), (fun _ => rfl), (fun h => f23.out (lk h (by decide))), (fun h => f24.out (lk h (by decide))), (fun _ => rfl), (fun _ => rfl), (fun _ => rfl), (fun h => f28.out (lk h (by decide)))⟩
    · have l22 : L 22 = true := hdep _ rfl ⟨22, .data⟩ (by simp) (by rfl)
      have l27 : L 27 = true := hdep _ rfl ⟨27, .data⟩ (by simp) (by rfl)
      clear hdep
      obtain rfl := f22.out l22
      obtain rfl := f27.out l27
      refine wpOp_step rfl (fun K' hKK => ?_)
      replace hKK := hide hKK
      go_simp
      refine hKK.out _ _ ?_
      exact ⟨_, _, _, _, _, _, _, _, _, _, _, _, _, _, _, _, _, _, _, _, _, _, _, _, _, _, _, _, _, rfl, hB.out, (fun h => f0.out (lk h (by decide))), (fun h => f1.out (lk h (by decide))), (fun h => f2.out (lk h (by decide))), (fun h => f3.out (lk h (by decide))), (fun h => f4.out (lk h (by decide))), (fun h => f5.out (lk h (by decide))), (fun h => f6.out (lk h (by decide))), (fun h => f7.out (lk h (by decide))), (fun h => f8.out (lk h (by decide))), (fun h => f9.out (lk h (by decide))), (fun h => f10.out (lk h (by decide))), (fun h => f11.out (lk h (by decide))), (fun h => f12.out (lk h (by decide))), (fun h => (f13.out (lk h (by decide)))), (fun h => f14.out (lk h (by decide))), (fun h => (f15.out (lk h (by decide)))), (fun h => f16.out (lk h (by decide))), (fun h => f17.out (lk h (by decide))), (fun h => (f18.out (lk h (by decide)))), (fun h => f19.out (lk h (by decide))), (fun h => f20.out (lk h (by decide))), (fun h => f21.out (lk h (by decide))), (fun _ => rfl), (fun h => f23.out (lk h (by decide))), (fun h => f24.out (lk h (by decide))), (fun h => f25.out (lk h (by decide))), (fun h => f26.out (lk h (by decide))), (fun _ => rfl), (fun _ => rfl)⟩
--STOP23
  intro L a₁ w₁ hall hI
  obtain ⟨x143, x144, x145, x146, x147, x148, x149, x150, x151, x152, x153, x154, x155, x156, x157, x158, x159, x160, x161, x162, x163, x164, x165, x166, x167, x168, x169, x170, x171, ha, hB, hI⟩ := hI
  subst ha
  obtain ⟨f0, f1, f2, f3, f4, f5, f6, f7, f8, f9, f10, f11, f12, f13, f14, f15, f16, f17, f18, f19, f20, f21, f22, f23, f24, f25, f26, f27, f28⟩ := hI
  obtain rfl := f0 (hall 0 (by decide))
  obtain rfl := f1 (hall 1 (by decide))
  obtain rfl := f2 (hall 2 (by decide))
  obtain rfl := f3 (hall 3 (by decide))
  obtain rfl := f4 (hall 4 (by decide))
  obtain rfl := f5 (hall 5 (by decide))
  obtain rfl := f6 (hall 6 (by decide))
  obtain rfl := f7 (hall 7 (by decide))
  obtain rfl := f8 (hall 8 (by decide))
  obtain rfl := f9 (hall 9 (by decide))
  obtain rfl := f10 (hall 10 (by decide))
  obtain rfl := f11 (hall 11 (by decide))
  obtain rfl := f12 (hall 12 (by decide))
  obtain rfl := f14 (hall 14 (by decide))
  obtain rfl := f16 (hall 16 (by decide))
  obtain rfl := f17 (hall 17 (by decide))
  obtain rfl := f19 (hall 19 (by decide))
  obtain rfl := f20 (hall 20 (by decide))
  obtain rfl := f21 (hall 21 (by decide))
  obtain rfl := f22 (hall 22 (by decide))
  obtain rfl := f23 (hall 23 (by decide))
  obtain rfl := f24 (hall 24 (by decide))
  obtain rfl := f25 (hall 25 (by decide))
  obtain rfl := f26 (hall 26 (by decide))
  obtain rfl := f27 (hall 27 (by decide))
  obtain rfl := f28 (hall 28 (by decide))
  clear f0 f1 f2 f3 f4 f5 f6 f7 f8 f9 f10 f11 f12 f13 f14 f15 f16 f17 f18 f19 f20 f21 f22 f23 f24 f25 f26 f27 f28 hall
  replace hB := hide hB
  exact hQ _ _ _ _ _ _ _ _ _ _ _ _ _ _ _ _ _ _ _ _ _ _ _ _ _ _ _ _ _ hB.out
end Go.Proofs.YtjmdhfopokmhcaaGreatDoor
