/- The law SpotBegins returns true for every two texts, and changes nothing that was there. -/
import Derived.Test.YtjhfjpofmkofhaaDoorCaps
import Derived.Test.YtjhfjpofmkofhaaDoorBeginsS
import Derived.Test.YtjhfjpofmkofhaaDoorBegins0e
import Derived.Test.YtjhfjpofmkofhaaDoorBegins0l
import Derived.Test.YtjhfjpofmkofhaaDoorBegins0g
import Derived.Test.YtjhfjpofmkofhaaDoorBegins10e
import Derived.Test.YtjhfjpofmkofhaaDoorBegins10l
import Derived.Test.YtjhfjpofmkofhaaDoorBegins10g
namespace Go.Proofs.YtjhfjpofmkofhaaDoor
open Go.RowKit Go.Sort
set_option linter.unusedVariables false

theorem refs_is (s : ByteArray) (hs : s.size ≤ maxLen) (r c : Int) (p q : Bool) (n e : Int) (h1 : rE s = e) (h2 : rR s = r) (h3 : rC s = c) (h4 : rP s = p) (h5 : rQ s = q) (h6 : (rN s : Int) = n) : ReadRefIs s r c p q n e := hide fun w => by
  have := readRef_any s w hs
  rw [h1, h2, h3, h4, h5, h6] at this
  exact this.mono fun e w' ⟨h, h'⟩ => ⟨h, h' ▸ (Below.refl _ _).alloc (Nat.le_refl _) _⟩
theorem stops_at (s : ByteArray) (h : 0 < s.size) (hd : dig s[0] = false) : stops dig s.data.toList = true := by
  obtain ⟨r, hr⟩ := toList_cons s h
  rw [hr]; simp [stops, hd]
theorem dig_no (c : UInt8) (h : (c.toNat : Int) < 48 ∨ 57 < (c.toNat : Int)) : dig c = false := by simp [dig]; omega
theorem no_dig (c : UInt8) (h : dig c = false) : (c.toNat : Int) < 48 ∨ 57 < (c.toNat : Int) := by simp [dig] at h; omega
theorem yes_dig (c : UInt8) (h : dig c = true) : 48 ≤ (c.toNat : Int) ∧ (c.toNat : Int) ≤ 57 := by simp [dig] at h; omega
theorem spotBegins_walk (s more : ByteArray) (w : World) (zs : s.size ≤ maxLen) (zm : more.size ≤ maxLen) (ht : Tab w) :
    Calls Tryd.prog 5 #[.string s, .string more] w fun e w' => e = .returned (.bool true) ∧ Below w.heap.size w w' := by
  have HB : BegunAt w := hide (fun (w1 : World) (hb : Below w.heap.size w w1) => begun_any w1 (tab_below ht hb))
  by_cases y1 : 1048576 < s.size
  · exact begins_ls s more w y1 zs zm HB
  by_cases y2 : 1048576 < more.size
  · exact begins_lm s more w (by omega) y2 zm HB
  cases hy : synS s
  case true =>
    exact begins_syn s more w (by omega) (by omega) HB (refs_is s zs _ _ _ _ _ _ (by unfold rE; rw [hy]; rfl) (by unfold rR; rw [hy]; rfl) (by unfold rC; rw [hy]; rfl) (by unfold rP; rw [hy]; rfl) (by unfold rQ; rw [hy]; rfl) (by unfold rN; rw [hy]; rfl))
  have M := made_of s hy
  obtain ⟨l1, l2, l3, l4⟩ := cut_le s
  have hall := runE_all dig s (cC s)
  have hst := runE_stops dig s (cC s)
  rw [show runE dig s (cC s) = cD s from rfl] at hall hst
  have hcd : cC s < cD s := by
    have h2 : cD s ≠ cC s := by
      unfold synS at hy
      simp only [Bool.or_eq_false_iff] at hy
      simpa using hy.1.2
    omega
  have hN := M.cuts.2.2.2
  have hT := M.capSize
  have hC : CapsIs (s.extract 0 (cD s)) (capB (s.extract 0 (cD s))) := hide fun w => capitals_any _ w (by rw [ByteArray.size_extract]; omega)
  have hA := fun (hm : stops dig more.data.toList = true) => M.again more hm
  have hcap : ∀ L : List UInt8, L.all isL = true → col (L.map capOf) = col L := cap_col
  have zT : (capB (s.extract 0 (cD s)) ++ more).size ≤ maxLen := by rw [ByteArray.size_append, hT]; unfold maxLen; omega
  generalize (s.extract (cA s) (cB s)).data.toList = L at *
  generalize (s.extract (cC s) (cD s)).data.toList = D at *
  generalize decide (0 < cA s) = q at *
  generalize decide (cB s < cC s) = p at *
  obtain ⟨m, hm⟩ : ∃ m, cD s = m + 1 := ⟨cD s - 1, by omega⟩
  have hl : m < s.size := by omega
  have hd := yes_dig _ (hall m (by omega) (by omega) hl)
  obtain ⟨T, hTT⟩ : ∃ T, capB (s.extract 0 (cD s)) = T := ⟨_, rfl⟩
  obtain ⟨u, hu⟩ : ∃ u, s.extract 0 (cD s) = u := ⟨_, rfl⟩
  have hQ := M
  by_cases hon : col L ≤ 702 ∧ val D ≤ 65536

  · obtain ⟨e1, e2, e3, e4, e5, e6⟩ := M.on hon.1 hon.2
    obtain ⟨o1, o2, o3⟩ := M.written hon.1 hon.2
    have HT : RefTextAt w (((val D - 1 : Nat) : Int)) (((col L - 1 : Nat) : Int)) p q T 0 := hide fun w1 hb => by
      have := refText_yes (val D - 1) (col L - 1) p q w1 (by omega) (by omega) (tab_below ht hb)
      rwa [← o3, hTT] at this
    have HR : ReadRefIs s (((val D - 1 : Nat) : Int)) (((col L - 1 : Nat) : Int)) p q ((m : Int) + 1) 0 := refs_is s zs _ _ _ _ _ _ e1 (by rw [e2]; omega) (by rw [e3]; omega) e4 e5 (by rw [e6, ← hN, hm]; rfl)
    have HQ : stops dig more.data.toList = true → ReadRefIs (T ++ more) (((val D - 1 : Nat) : Int)) (((col L - 1 : Nat) : Int)) p q ((m : Int) + 1) 0 := fun hx => by
      have A := hA hx
      rw [hTT] at A zT
      obtain ⟨f1, f2, f3, f4, f5, f6⟩ := A.on (by rw [hcap L M.ls]; exact hon.1) hon.2
      refine refs_is _ zT _ _ _ _ _ _ f1 (by rw [f2]; omega) (by rw [f3, hcap L M.ls]; omega) f4 f5 ?_
      rw [f6, List.length_map, ← hN, hm]; rfl
    generalize ((val D - 1 : Nat) : Int) = R at *
    generalize ((col L - 1 : Nat) : Int) = C at *
    rw [hTT, hu] at hC
    rw [hTT] at hT
    rw [hm] at hu hT
    clear hA M hQ hall e1 e2 e3 e4 e5 e6 o1 o2 o3 hN hcap zT
    by_cases n0 : m + 1 = s.size
    · skip
      by_cases k0 : more.size = 0
      · exact begins_0ee s more u T m R C p q w (by omega) (by omega) (by omega) hl hd.1 hd.2 n0 k0 hu HB HR hC (HQ (by rw [toList_nil more (by omega)]; rfl)) HT
      cases kd : dig (more[0]'(by omega))
      · rcases no_dig _ kd with k1 | k1
        · exact begins_0el s more u T m R C p q w (by omega) (by omega) (by omega) hl hd.1 hd.2 n0 (by omega) k1 hu HB HR hC (HQ (stops_at more (by omega) kd)) HT
        · exact begins_0eg s more u T m R C p q w (by omega) (by omega) (by omega) hl hd.1 hd.2 n0 (by omega) k1 hu HB HR hC (HQ (stops_at more (by omega) kd)) HT
      · exact begins_0ed s more u T m R C p q w (by omega) (by omega) (by omega) hl hd.1 hd.2 n0 (by omega) (yes_dig _ kd).1 (yes_dig _ kd).2 hu HB HR hC HT
    have nd : dig (s[m + 1]'(by omega)) = false := by
      rw [hm, drop_cons s (m + 1) (by omega)] at hst
      simpa [stops] using hst
    rcases no_dig _ nd with n1 | n1
    · skip
      by_cases k0 : more.size = 0
      · exact begins_0le s more u T m R C p q w (by omega) (by omega) (by omega) hl hd.1 hd.2 (by omega) n1 k0 hu HB HR hC (HQ (by rw [toList_nil more (by omega)]; rfl)) HT
      cases kd : dig (more[0]'(by omega))
      · rcases no_dig _ kd with k1 | k1
        · exact begins_0ll s more u T m R C p q w (by omega) (by omega) (by omega) hl hd.1 hd.2 (by omega) n1 (by omega) k1 hu HB HR hC (HQ (stops_at more (by omega) kd)) HT
        · exact begins_0lg s more u T m R C p q w (by omega) (by omega) (by omega) hl hd.1 hd.2 (by omega) n1 (by omega) k1 hu HB HR hC (HQ (stops_at more (by omega) kd)) HT
      · exact begins_0ld s more u T m R C p q w (by omega) (by omega) (by omega) hl hd.1 hd.2 (by omega) n1 (by omega) (yes_dig _ kd).1 (yes_dig _ kd).2 hu HB HR hC HT
    · skip
      by_cases k0 : more.size = 0
      · exact begins_0ge s more u T m R C p q w (by omega) (by omega) (by omega) hl hd.1 hd.2 (by omega) n1 k0 hu HB HR hC (HQ (by rw [toList_nil more (by omega)]; rfl)) HT
      cases kd : dig (more[0]'(by omega))
      · rcases no_dig _ kd with k1 | k1
        · exact begins_0gl s more u T m R C p q w (by omega) (by omega) (by omega) hl hd.1 hd.2 (by omega) n1 (by omega) k1 hu HB HR hC (HQ (stops_at more (by omega) kd)) HT
        · exact begins_0gg s more u T m R C p q w (by omega) (by omega) (by omega) hl hd.1 hd.2 (by omega) n1 (by omega) k1 hu HB HR hC (HQ (stops_at more (by omega) kd)) HT
      · exact begins_0gd s more u T m R C p q w (by omega) (by omega) (by omega) hl hd.1 hd.2 (by omega) n1 (by omega) (yes_dig _ kd).1 (yes_dig _ kd).2 hu HB HR hC HT

  · have ho : 702 < col L ∨ 65536 < val D := by omega
    obtain ⟨e1, e2, e3, e4, e5, e6⟩ := M.off ho
    have HR : ReadRefIs s 0 0 false false ((m : Int) + 1) 10 := refs_is s zs _ _ _ _ _ _ e1 e2 e3 e4 e5 (by rw [e6, ← hN, hm]; rfl)
    have HQ : stops dig more.data.toList = true → ReadRefIs (T ++ more) 0 0 false false ((m : Int) + 1) 10 := fun hx => by
      have A := hA hx
      rw [hTT] at A zT
      obtain ⟨f1, f2, f3, f4, f5, f6⟩ := A.off (by rw [hcap L M.ls]; exact ho)
      refine refs_is _ zT _ _ _ _ _ _ f1 f2 f3 f4 f5 ?_
      rw [f6, List.length_map, ← hN, hm]; rfl
    rw [hTT, hu] at hC
    rw [hTT] at hT
    rw [hm] at hu hT
    clear hA M hQ hall e1 e2 e3 e4 e5 e6 hN hcap zT
    by_cases n0 : m + 1 = s.size
    · skip
      by_cases k0 : more.size = 0
      · exact begins_10ee s more u T m w (by omega) (by omega) (by omega) hl hd.1 hd.2 n0 k0 hu HB HR hC (HQ (by rw [toList_nil more (by omega)]; rfl))
      cases kd : dig (more[0]'(by omega))
      · rcases no_dig _ kd with k1 | k1
        · exact begins_10el s more u T m w (by omega) (by omega) (by omega) hl hd.1 hd.2 n0 (by omega) k1 hu HB HR hC (HQ (stops_at more (by omega) kd))
        · exact begins_10eg s more u T m w (by omega) (by omega) (by omega) hl hd.1 hd.2 n0 (by omega) k1 hu HB HR hC (HQ (stops_at more (by omega) kd))
      · exact begins_10ed s more u T m w (by omega) (by omega) (by omega) hl hd.1 hd.2 n0 (by omega) (yes_dig _ kd).1 (yes_dig _ kd).2 hu HB HR hC
    have nd : dig (s[m + 1]'(by omega)) = false := by
      rw [hm, drop_cons s (m + 1) (by omega)] at hst
      simpa [stops] using hst
    rcases no_dig _ nd with n1 | n1
    · skip
      by_cases k0 : more.size = 0
      · exact begins_10le s more u T m w (by omega) (by omega) (by omega) hl hd.1 hd.2 (by omega) n1 k0 hu HB HR hC (HQ (by rw [toList_nil more (by omega)]; rfl))
      cases kd : dig (more[0]'(by omega))
      · rcases no_dig _ kd with k1 | k1
        · exact begins_10ll s more u T m w (by omega) (by omega) (by omega) hl hd.1 hd.2 (by omega) n1 (by omega) k1 hu HB HR hC (HQ (stops_at more (by omega) kd))
        · exact begins_10lg s more u T m w (by omega) (by omega) (by omega) hl hd.1 hd.2 (by omega) n1 (by omega) k1 hu HB HR hC (HQ (stops_at more (by omega) kd))
      · exact begins_10ld s more u T m w (by omega) (by omega) (by omega) hl hd.1 hd.2 (by omega) n1 (by omega) (yes_dig _ kd).1 (yes_dig _ kd).2 hu HB HR hC
    · skip
      by_cases k0 : more.size = 0
      · exact begins_10ge s more u T m w (by omega) (by omega) (by omega) hl hd.1 hd.2 (by omega) n1 k0 hu HB HR hC (HQ (by rw [toList_nil more (by omega)]; rfl))
      cases kd : dig (more[0]'(by omega))
      · rcases no_dig _ kd with k1 | k1
        · exact begins_10gl s more u T m w (by omega) (by omega) (by omega) hl hd.1 hd.2 (by omega) n1 (by omega) k1 hu HB HR hC (HQ (stops_at more (by omega) kd))
        · exact begins_10gg s more u T m w (by omega) (by omega) (by omega) hl hd.1 hd.2 (by omega) n1 (by omega) k1 hu HB HR hC (HQ (stops_at more (by omega) kd))
      · exact begins_10gd s more u T m w (by omega) (by omega) (by omega) hl hd.1 hd.2 (by omega) n1 (by omega) (yes_dig _ kd).1 (yes_dig _ kd).2 hu HB HR hC

end Go.Proofs.YtjhfjpofmkofhaaDoor
