/- quadrillelaw14.is: what a function makes of its arguments; whole. -/
import Derived.Test.YtjmdhfopokmhcaaGreatDoorB14J
import Derived.Test.YtjmdhfopokmhcaaGreatDoorGcd
namespace Go.Proofs.YtjmdhfopokmhcaaGreatDoor
open Go.RowKit Go.Sort
set_option linter.unusedVariables false

/-- A call that is answered. -/
def FunIs (f : Int) (xs : List Va) (out : Va) : Prop := ∀ (w : World) (a : Option Addr) (cap : Nat), Tb w → ValsAt w a xs → Calls Tryz.prog 7 #[.int .i64 f, .slice a xs.length cap] w fun e w' => e = .returned (.tuple #[out.v, .int .i64 0]) ∧ Below w.heap.size w w'
set_option maxHeartbeats 1000000 in
theorem is_any (f : Int) (xs : List Va) (k i : Int) (t : ByteArray) (hf : FunIs f xs ⟨k, i, t⟩) (a : Option Addr) (cap : Nat) (w : World) (ht : Tb w) (hv0 : ValsAt w a xs) : Calls Tryz.prog 11 #[.int .i64 f, .slice a xs.length cap] w fun e w' => e = .returned (vV k i t) ∧ Below w.heap.size w w' := by
  have HC : Hid (∀ (w : World) (a : Option Addr) (cap : Nat), Tb w → ValsAt w a xs → Calls Tryz.prog 7 #[.int .i64 f, .slice a xs.length cap] w fun e w' => e = .returned (.tuple #[vV k i t, .int .i64 0]) ∧ Below w.heap.size w w') := hide hf
  have HT := hide ht
  have hv := hide hv0
  clear hf ht hv0
  generalize xs.length = len at *
  go_enter Tryz.func11, Tryz.ntmps11
  try simp only [List.append]
  go_wp2_with fail
  refine (HC.out _ _ _ (HT.out.alloc _) (hv.out.alloc _)).mono ?_
  rintro e w1 ⟨rfl, hb1⟩
  have B1 := hide (next (step (Below.refl w.heap.size w) _) hb1)
  have cr := hide ((O3.new w (.int .i64 0) (.int .i64 0) (.string no) 30).keep hb1)
  replace cr := hide ((cr.out.alloc (vO k i t)))
  have cru20 := cr.out.1.1
  have cru21 := cr.out.1.2.1
  have cru22 := cr.out.1.2.2
  have cru2f := cr.out.2
  have Bq1 := hide (below_put3 (b := w.heap.size) (step (B1.out) (vO k i t)) (by omega) (.int .i64 k) (.int .i64 i) (.string t))
  replace cr := hide (cr.out.put (.int .i64 k) (.int .i64 i) (.string t))
  obtain ⟨wq1, hwq1⟩ : ∃ wq1, put3 ((w1.alloc (vO k i t))) (w.heap.size) (.int .i64 k) (.int .i64 i) (.string t) = wq1 := ⟨_, rfl⟩
  rw [hwq1] at Bq1 cr
  unfold put3 at hwq1
  have cru30 := cr.out.1.1
  have cru31 := cr.out.1.2.1
  have cru32 := cr.out.1.2.2
  go_wp2_with fail
  refine bodyPost_ret (by simp [results, Tryz.results11, go_sem, cru30, cru31, cru32]; try rfl) rfl ?_
  exact ⟨rfl, Bq1.out⟩
theorem is1 (f : Int) (x : Va) (out : Va) (hf : FunIs f [x] out) (w : World) (HT : Tb w) : Calls Tryz.prog 11 #[.int .i64 f, .slice (some ⟨w.heap.size, 0, none⟩) 1 1] (w.alloc (.cells #[.int .i64 x.k, .int .i64 x.i, .string x.t] 30)) fun e w' => e = .returned (vV out.k out.i out.t) ∧ Below (w.alloc (.cells #[.int .i64 x.k, .int .i64 x.i, .string x.t] 30)).heap.size (w.alloc (.cells #[.int .i64 x.k, .int .i64 x.i, .string x.t] 30)) w' :=
  is_any f [x] out.k out.i out.t hf _ 1 _ (HT.alloc _) (vals1 w x)
theorem is2 (f : Int) (x y : Va) (out : Va) (hf : FunIs f [x, y] out) (w : World) (HT : Tb w) : Calls Tryz.prog 11 #[.int .i64 f, .slice (some ⟨w.heap.size, 0, none⟩) 2 2] (w.alloc (.cells #[.int .i64 x.k, .int .i64 x.i, .string x.t, .int .i64 y.k, .int .i64 y.i, .string y.t] 30)) fun e w' => e = .returned (vV out.k out.i out.t) ∧ Below (w.alloc (.cells #[.int .i64 x.k, .int .i64 x.i, .string x.t, .int .i64 y.k, .int .i64 y.i, .string y.t] 30)).heap.size (w.alloc (.cells #[.int .i64 x.k, .int .i64 x.i, .string x.t, .int .i64 y.k, .int .i64 y.i, .string y.t] 30)) w' :=
  is_any f [x, y] out.k out.i out.t hf _ 2 _ (HT.alloc _) (vals2 w x y)
/-- Two numbers. -/
theorem fun_nn (k : Nat) (hk : k < 35) (nm : ByteArray) (h : T9.tab[k]? = some (nm, 2, 2)) (fn : Nat) (hr : rtab[k]? = some (⟨#[110, 110]⟩, fn)) (hf : fn ≠ 0) (hent : ∀ args w, (callFunc fn args).run Tryz.prog w = .ok (.enter fn args) w) (a b : Int) (out : Va) (hd : DoIs fn [⟨1, a, no⟩, ⟨1, b, no⟩] out) : FunIs ((k : Int) + 1) [⟨1, a, no⟩, ⟨1, b, no⟩] out := by
  intro w ad cap HT hv
  have := callS k hk nm 2 2 h _ fn hr hf hent [⟨1, a, no⟩, ⟨1, b, no⟩] [⟨1, a, no⟩, ⟨1, b, no⟩] out ad cap w HT hv (by show 2 ≤ maxLen; unfold maxLen; decide) (by show ¬ ((2 : Nat) : Int) < 2; decide) (by show ¬ 2 < ((2 : Nat) : Int); decide) (by intro x hx; rcases List.mem_cons.1 hx with rfl | hx; exact good_int _; rcases List.mem_cons.1 hx with rfl | hx; exact good_int _; cases hx)
    (fun _ => look2 110 110 _ _ _ _ (as_int _) (as_int _)) (by show 2 ≤ maxLen; unfold maxLen; decide) (fun _ _ => hd)
  rw [scV_out rfl rfl] at this
  exact this
theorem row3 : rtab[2]? = some (⟨#[110, 110]⟩, 38) := by kernel_rfl
theorem tab3 : T9.tab[2]? = some (⟨#[77, 79, 68]⟩, 2, 2) := by kernel_rfl
theorem row4 : rtab[3]? = some (⟨#[110, 110]⟩, 40) := by kernel_rfl
theorem tab4 : T9.tab[3]? = some (⟨#[81, 85, 79, 84, 73, 69, 78, 84]⟩, 2, 2) := by kernel_rfl
theorem row6 : rtab[5]? = some (⟨#[110, 110]⟩, 43) := by kernel_rfl
theorem tab6 : T9.tab[5]? = some (⟨#[71, 67, 68]⟩, 2, 2) := by kernel_rfl
theorem row7 : rtab[6]? = some (⟨#[110, 110]⟩, 45) := by kernel_rfl
theorem tab7 : T9.tab[6]? = some (⟨#[76, 67, 77]⟩, 2, 2) := by kernel_rfl
theorem f_quo (a b r e : Int) (out : Va) (HO : CallIs 33 #[.int .i64 a, .int .i64 b] (iiV r e)) (HR : CallIs 32 #[.int .i64 r, .int .i64 e] out.v) : FunIs 4 [⟨1, a, no⟩, ⟨1, b, no⟩] out := fun_nn 3 (by decide) _ tab4 _ row4 (by decide) ent4 a b out (do2 fun b' o cap w hT c0 c1 => do_quo ⟨1, a, no⟩ ⟨1, b, no⟩ r e out.k out.i out.t HO HR b' o cap w hT c0 c1)
theorem f_mod (a b r e : Int) (out : Va) (HO : CallIs 39 #[.int .i64 a, .int .i64 b] (iiV r e)) (HR : CallIs 32 #[.int .i64 r, .int .i64 e] out.v) : FunIs 3 [⟨1, a, no⟩, ⟨1, b, no⟩] out := fun_nn 2 (by decide) _ tab3 _ row3 (by decide) ent3 a b out (do2 fun b' o cap w hT c0 c1 => do_mod ⟨1, a, no⟩ ⟨1, b, no⟩ r e out.k out.i out.t HO HR b' o cap w hT c0 c1)
theorem f_gcd (a b r e : Int) (out : Va) (HO : CallIs 44 #[.int .i64 a, .int .i64 b] (iiV r e)) (HR : CallIs 32 #[.int .i64 r, .int .i64 e] out.v) : FunIs 6 [⟨1, a, no⟩, ⟨1, b, no⟩] out := fun_nn 5 (by decide) _ tab6 _ row6 (by decide) ent6 a b out (do2 fun b' o cap w hT c0 c1 => do_gcd ⟨1, a, no⟩ ⟨1, b, no⟩ r e out.k out.i out.t HO HR b' o cap w hT c0 c1)
theorem f_lcm (a b r e : Int) (out : Va) (HO : CallIs 46 #[.int .i64 a, .int .i64 b] (iiV r e)) (HR : CallIs 32 #[.int .i64 r, .int .i64 e] out.v) : FunIs 7 [⟨1, a, no⟩, ⟨1, b, no⟩] out := fun_nn 6 (by decide) _ tab7 _ row7 (by decide) ent7 a b out (do2 fun b' o cap w hT c0 c1 => do_lcm ⟨1, a, no⟩ ⟨1, b, no⟩ r e out.k out.i out.t HO HR b' o cap w hT c0 c1)
theorem drewN_is {f : FuncId} {args : Array Value} {v : Value} (h : ∀ w, Calls Tryz.prog f args w fun e w' => e = .returned v ∧ ∃ n, w' = w.drewN n) : CallIs f args v := fun w => (h w).mono fun e w' ⟨h1, n, h2⟩ => ⟨h1, by rw [h2]; exact below_drewN (Below.refl _ _) n⟩
theorem va_neq (k i : Int) (t : ByteArray) (w : World) : (binOp .neq 30 (vV k i t) (vV k i t)).run Tryz.prog w = .ok (.bool false) w := by go_simp
theorem va_eq1 (k i : Int) (t : ByteArray) (w : World) : (binOp .eql 30 (vV k i t) (vV k i t)).run Tryz.prog w = .ok (.bool true) w := by go_simp
end Go.Proofs.YtjmdhfopokmhcaaGreatDoor
