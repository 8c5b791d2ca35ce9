/- The law ValueOrder returns true for every three values, and changes nothing that was there. -/
import Derived.Test.YtlgmcabnbmbocaaDoorOrd4a
import Derived.Test.YtlgmcabnbmbocaaDoorOrd4b
import Derived.Test.YtlgmcabnbmbocaaDoorOrd4c
namespace Go.Proofs.YtlgmcabnbmbocaaDoor
open Go.RowKit Go.Sort
set_option linter.unusedVariables false

theorem cmpV_anti (k i : Int) (t : ByteArray) (k' i' : Int) (t' : ByteArray) : cmpV k' i' t' k i t = - cmpV k i t k' i' t' := cmpK_anti _ _ _ _ _ _
theorem cmpV_self (k i : Int) (t : ByteArray) : cmpV k i t k i t = 0 := by unfold cmpV; rw [cmpK_t, cb_self]
theorem cmpV_range (k i : Int) (t : ByteArray) (k' i' : Int) (t' : ByteArray) : cmpV k i t k' i' t' = -1 ∨ cmpV k i t k' i' t' = 0 ∨ cmpV k i t k' i' t' = 1 := cmpK_range _ _ _ _ _ _
theorem bes_not {k k2 : Int} (h : k ≠ 0) : besK k k2 = k := if_neg (fun x => h x.1)
theorem cmpV_full {k i k' i' : Int} {t t' : ByteArray} (h : k ≠ 0) (h' : k' ≠ 0) : cmpV k i t k' i' t' = cmpK (rk k) i t (rk k') i' t' := by unfold cmpV; rw [bes_not h, bes_not h']
theorem cmpV_zero {k i k' i' : Int} {t t' : ByteArray} (g : Good k i t) (g' : Good k' i' t') (h : k ≠ 0) (h' : k' ≠ 0) (e : cmpV k i t k' i' t' = 0) : k = k' ∧ i = i' ∧ t = t' := by
  rw [cmpV_full h h'] at e
  obtain ⟨e1, e2, e3⟩ := cmpK_zero e
  exact ⟨rk_inj g.range g'.range e1, e2, e3⟩
theorem cmpV_trans {k i k1 i1 k2 i2 : Int} {t t1 t2 : ByteArray} (h : k ≠ 0) (h1 : k1 ≠ 0) (h2 : k2 ≠ 0) (a : cmpV k i t k1 i1 t1 ≤ 0) (b : cmpV k1 i1 t1 k2 i2 t2 ≤ 0) : cmpV k i t k2 i2 t2 ≤ 0 := by
  rw [cmpV_full h h1] at a; rw [cmpV_full h1 h2] at b; rw [cmpV_full h h2]; exact cmpK_trans a b
abbrev CmpIs (a0 a1 : Int) (a2 : ByteArray) (b0 b1 : Int) (b2 : ByteArray) (x : Int) : Prop := CallIs 15 #[vV a0 a1 a2, vV b0 b1 b2] (.int .i64 x)
/-- Where one of the three may not be. -/
theorem ord_may (a0 a1 : Int) (a2 : ByteArray) (b0 b1 : Int) (b2 : ByteArray) (c0 c1 : Int) (c2 : ByteArray) (x y z : Int) (hx : x = -1 ∨ x = 0 ∨ x = 1) (H1 : CmpIs a0 a1 a2 b0 b1 b2 x) (H2 : CmpIs b0 b1 b2 c0 c1 c2 y) (H3 : CmpIs a0 a1 a2 c0 c1 c2 z) (H4 : CmpIs b0 b1 b2 a0 a1 a2 (-x)) (H5 : CmpIs a0 a1 a2 a0 a1 a2 0)
    (h : ¬ Good a0 a1 a2 ∨ ¬ Good b0 b1 b2 ∨ ¬ Good c0 c1 c2) : CallT 6 #[vV a0 a1 a2, vV b0 b1 b2, vV c0 c1 c2] (.bool true) := by
  by_cases ga : Good a0 a1 a2
  · by_cases gb : Good b0 b1 b2
    · have gc : ¬ Good c0 c1 c2 := by
        rcases h with h | h | h
        · exact absurd ga h
        · exact absurd gb h
        · exact h
      rcases hx with rfl | rfl | rfl
      · exact ord_m_may3 _ _ _ _ _ _ _ _ _ _ _ begun_is H1 H2 H3 H4 H5 (vmay_yes ga) (vmay_yes gb) (vmay_no gc)
      · exact ord_z_may3 _ _ _ _ _ _ _ _ _ _ _ begun_is H1 H2 H3 H4 H5 (vmay_yes ga) (vmay_yes gb) (vmay_no gc)
      · exact ord_p_may3 _ _ _ _ _ _ _ _ _ _ _ begun_is H1 H2 H3 H4 H5 (vmay_yes ga) (vmay_yes gb) (vmay_no gc)
    · rcases hx with rfl | rfl | rfl
      · exact ord_m_may2 _ _ _ _ _ _ _ _ _ _ _ begun_is H1 H2 H3 H4 H5 (vmay_yes ga) (vmay_no gb)
      · exact ord_z_may2 _ _ _ _ _ _ _ _ _ _ _ begun_is H1 H2 H3 H4 H5 (vmay_yes ga) (vmay_no gb)
      · exact ord_p_may2 _ _ _ _ _ _ _ _ _ _ _ begun_is H1 H2 H3 H4 H5 (vmay_yes ga) (vmay_no gb)
  · rcases hx with rfl | rfl | rfl
    · exact ord_m_may1 _ _ _ _ _ _ _ _ _ _ _ begun_is H1 H2 H3 H4 H5 (vmay_no ga)
    · exact ord_z_may1 _ _ _ _ _ _ _ _ _ _ _ begun_is H1 H2 H3 H4 H5 (vmay_no ga)
    · exact ord_p_may1 _ _ _ _ _ _ _ _ _ _ _ begun_is H1 H2 H3 H4 H5 (vmay_no ga)
/-- Where a blank is among the three. -/
theorem ord_blank (a0 a1 : Int) (a2 : ByteArray) (b0 b1 : Int) (b2 : ByteArray) (c0 c1 : Int) (c2 : ByteArray) (x y z : Int) (hx : x = -1 ∨ x = 0 ∨ x = 1) (H1 : CmpIs a0 a1 a2 b0 b1 b2 x) (H2 : CmpIs b0 b1 b2 c0 c1 c2 y) (H3 : CmpIs a0 a1 a2 c0 c1 c2 z) (H4 : CmpIs b0 b1 b2 a0 a1 a2 (-x)) (H5 : CmpIs a0 a1 a2 a0 a1 a2 0)
    (ga : Good a0 a1 a2) (gb : Good b0 b1 b2) (gc : Good c0 c1 c2) (H6 : a0 = 0 → b0 ≠ 4 → b0 ≠ 0 → CmpIs b0 0 no b0 b1 b2 x) (h : a0 = 0 ∨ b0 = 0 ∨ c0 = 0) : CallT 6 #[vV a0 a1 a2, vV b0 b1 b2, vV c0 c1 c2] (.bool true) := by
  have Ma := vmay_yes ga
  have Mb := vmay_yes gb
  have Mc := vmay_yes gc
  by_cases ha : a0 = 0
  · subst ha
    obtain ⟨rfl, rfl⟩ := ga.blank
    by_cases h4 : b0 = 4
    · subst h4
      rcases hx with rfl | rfl | rfl
      · exact ord_m_b4 _ _ _ _ _ _ _ begun_is H1 H2 H3 H4 H5 Ma Mb Mc
      · exact ord_z_b4 _ _ _ _ _ _ _ begun_is H1 H2 H3 H4 H5 Ma Mb Mc
      · exact ord_p_b4 _ _ _ _ _ _ _ begun_is H1 H2 H3 H4 H5 Ma Mb Mc
    by_cases h0 : b0 = 0
    · subst h0
      rcases hx with rfl | rfl | rfl
      · exact ord_m_b0 _ _ _ _ _ _ _ begun_is H1 H2 H3 H4 H5 Ma Mb Mc
      · exact ord_z_b0 _ _ _ _ _ _ _ begun_is H1 H2 H3 H4 H5 Ma Mb Mc
      · exact ord_p_b0 _ _ _ _ _ _ _ begun_is H1 H2 H3 H4 H5 Ma Mb Mc
    have K := H6 rfl h4 h0
    have q4 : (b0 != 4) = true := by rw [bne, beq_eq_false_iff_ne.2 h4]; rfl
    have q0 : (b0 != 0) = true := ne0 h0
    rcases hx with rfl | rfl | rfl
    · exact ord_m_blank _ _ _ _ _ _ _ _ q4 q0 begun_is H1 H2 H3 H4 H5 Ma Mb Mc K
    · exact ord_z_blank _ _ _ _ _ _ _ _ q4 q0 begun_is H1 H2 H3 H4 H5 Ma Mb Mc K
    · exact ord_p_blank _ _ _ _ _ _ _ _ q4 q0 begun_is H1 H2 H3 H4 H5 Ma Mb Mc K
  have qa := beq_eq_false_iff_ne.2 ha
  by_cases hb : b0 = 0
  · subst hb
    rcases hx with rfl | rfl | rfl
    · exact ord_m_ab _ _ _ _ _ _ _ _ _ _ qa begun_is H1 H2 H3 H4 H5 Ma Mb Mc
    · exact ord_z_ab _ _ _ _ _ _ _ _ _ _ qa begun_is H1 H2 H3 H4 H5 Ma Mb Mc
    · exact ord_p_ab _ _ _ _ _ _ _ _ _ _ qa begun_is H1 H2 H3 H4 H5 Ma Mb Mc
  have qb := beq_eq_false_iff_ne.2 hb
  obtain rfl : c0 = 0 := by omega
  rcases hx with rfl | rfl | rfl
  · exact ord_m_abc _ _ _ _ _ _ _ _ _ _ qa qb begun_is H1 H2 H3 H4 H5 Ma Mb Mc
  · exact ord_z_abc _ _ _ _ _ _ _ _ _ _ qa qb begun_is H1 H2 H3 H4 H5 Ma Mb Mc
  · exact ord_p_abc _ _ _ _ _ _ _ _ _ _ qa qb begun_is H1 H2 H3 H4 H5 Ma Mb Mc
/-- Without a blank: two values that are the same. -/
theorem ord_same (a0 a1 : Int) (a2 : ByteArray) (c0 c1 : Int) (c2 : ByteArray) (y : Int) (hy : y = -1 ∨ y = 0 ∨ y = 1) (H1 : CmpIs a0 a1 a2 a0 a1 a2 0) (H2 : CmpIs a0 a1 a2 c0 c1 c2 y)
    (ga : Good a0 a1 a2) (gc : Good c0 c1 c2) (ha : a0 ≠ 0) (hc : c0 ≠ 0) : CallT 6 #[vV a0 a1 a2, vV a0 a1 a2, vV c0 c1 c2] (.bool true) := by
  have Ma := vmay_yes ga
  have Mc := vmay_yes gc
  have qa := beq_eq_false_iff_ne.2 ha
  have qc := beq_eq_false_iff_ne.2 hc
  have HS := vsame_yes a0 a1 a2
  rcases hy with rfl | rfl | rfl
  · exact ord_z_m _ _ _ _ _ _ qa qc begun_is H1 H2 H2 H1 H1 Ma Ma Mc HS
  · exact ord_z_z _ _ _ _ _ _ qa qc begun_is H1 H2 H2 H1 H1 Ma Ma Mc HS
  · exact ord_z_p _ _ _ _ _ _ _ qa qc begun_is H1 H2 H2 H1 H1 Ma Ma Mc HS
/-- Without a blank: two values that are not the same. -/
theorem ord_other (a0 a1 : Int) (a2 : ByteArray) (b0 b1 : Int) (b2 : ByteArray) (c0 c1 : Int) (c2 : ByteArray) (x y z : Int) (hx : x = -1 ∨ x = 1) (hy : y = -1 ∨ y = 0 ∨ y = 1) (hz : x = -1 → y ≤ 0 → z = -1) (H1 : CmpIs a0 a1 a2 b0 b1 b2 x) (H2 : CmpIs b0 b1 b2 c0 c1 c2 y) (H3 : CmpIs a0 a1 a2 c0 c1 c2 z) (H4 : CmpIs b0 b1 b2 a0 a1 a2 (-x)) (H5 : CmpIs a0 a1 a2 a0 a1 a2 0)
    (ga : Good a0 a1 a2) (gb : Good b0 b1 b2) (gc : Good c0 c1 c2) (ha : a0 ≠ 0) (hb : b0 ≠ 0) (hc : c0 ≠ 0) (hd : ¬ (a0 = b0 ∧ a1 = b1 ∧ a2 = b2)) : CallT 6 #[vV a0 a1 a2, vV b0 b1 b2, vV c0 c1 c2] (.bool true) := by
  have Ma := vmay_yes ga
  have Mb := vmay_yes gb
  have Mc := vmay_yes gc
  have qa := beq_eq_false_iff_ne.2 ha
  have qb := beq_eq_false_iff_ne.2 hb
  have qc := beq_eq_false_iff_ne.2 hc
  by_cases d0 : a0 = b0
  · subst d0
    by_cases d1 : a1 = b1
    · subst d1
      have d2 : ¬ a2 = b2 := fun e => hd ⟨rfl, rfl, e⟩
      have d := tl_ne d2
      have HS : CallIs 16 #[vV a0 a1 a2, vV a0 a1 b2] (.bool false) := vsame_t d
      rcases hx with rfl | rfl
      · rcases hy with rfl | rfl | rfl
        · obtain rfl := hz rfl (by decide)
          exact ord_m_tm _ _ _ _ d _ _ _ qa qc begun_is H1 H2 H3 H4 H5 Ma Mb Mc HS
        · obtain rfl := hz rfl (by decide)
          exact ord_m_tz _ _ _ _ d _ _ _ qa qc begun_is H1 H2 H3 H4 H5 Ma Mb Mc HS
        · exact ord_m_tp _ _ _ _ d _ _ _ _ qa qc begun_is H1 H2 H3 H4 H5 Ma Mb Mc HS
      · exact ord_p_t _ _ _ _ d _ _ _ _ _ qa qc begun_is H1 H2 H3 H4 H5 Ma Mb Mc HS
    · have d := beq_eq_false_iff_ne.2 d1
      have HS : CallIs 16 #[vV a0 a1 a2, vV a0 b1 b2] (.bool false) := vsame_i d
      rcases hx with rfl | rfl
      · rcases hy with rfl | rfl | rfl
        · obtain rfl := hz rfl (by decide)
          exact ord_m_im _ _ _ _ _ d _ _ _ qa qc begun_is H1 H2 H3 H4 H5 Ma Mb Mc HS
        · obtain rfl := hz rfl (by decide)
          exact ord_m_iz _ _ _ _ _ d _ _ _ qa qc begun_is H1 H2 H3 H4 H5 Ma Mb Mc HS
        · exact ord_m_ip _ _ _ _ _ d _ _ _ _ qa qc begun_is H1 H2 H3 H4 H5 Ma Mb Mc HS
      · exact ord_p_i _ _ _ _ _ d _ _ _ _ _ qa qc begun_is H1 H2 H3 H4 H5 Ma Mb Mc HS
  · have d := beq_eq_false_iff_ne.2 d0
    have HS : CallIs 16 #[vV a0 a1 a2, vV b0 b1 b2] (.bool false) := vsame_k d
    rcases hx with rfl | rfl
    · rcases hy with rfl | rfl | rfl
      · obtain rfl := hz rfl (by decide)
        exact ord_m_km _ _ _ _ _ _ d qb _ _ _ qa qc begun_is H1 H2 H3 H4 H5 Ma Mb Mc HS
      · obtain rfl := hz rfl (by decide)
        exact ord_m_kz _ _ _ _ _ _ d qb _ _ _ qa qc begun_is H1 H2 H3 H4 H5 Ma Mb Mc HS
      · exact ord_m_kp _ _ _ _ _ _ d qb _ _ _ _ qa qc begun_is H1 H2 H3 H4 H5 Ma Mb Mc HS
    · exact ord_p_k _ _ _ _ _ _ d qb _ _ _ _ _ qa qc begun_is H1 H2 H3 H4 H5 Ma Mb Mc HS
theorem valueOrder_walk (a0 a1 : Int) (a2 : ByteArray) (b0 b1 : Int) (b2 : ByteArray) (c0 c1 : Int) (c2 : ByteArray) (_ : lo ≤ a1) (_ : a1 ≤ hi) (_ : lo ≤ b1) (_ : b1 ≤ hi) (_ : lo ≤ c1) (_ : c1 ≤ hi) : CallT 6 #[vV a0 a1 a2, vV b0 b1 b2, vV c0 c1 c2] (.bool true) := by
  obtain ⟨A0, A1, A2, gA, SA, _, eA⟩ := taken a0 a1 a2
  obtain ⟨B0, B1, B2, gB, SB, _, eB⟩ := taken b0 b1 b2
  obtain ⟨C0, C1, C2, gC, SC, _, eC⟩ := taken c0 c1 c2
  have H1 := vcmp_good gA gB SA SB
  have H2 := vcmp_good gB gC SB SC
  have H3 := vcmp_good gA gC SA SC
  have H4 := vcmp_good gB gA SB SA
  have H5 := vcmp_good gA gA SA SA
  rw [cmpV_self] at H5
  rw [cmpV_anti] at H4
  have hx := cmpV_range A0 A1 A2 B0 B1 B2
  have hy := cmpV_range B0 B1 B2 C0 C1 C2
  have hz := cmpV_range A0 A1 A2 C0 C1 C2
  by_cases hg : ¬ Good a0 a1 a2 ∨ ¬ Good b0 b1 b2 ∨ ¬ Good c0 c1 c2
  · exact ord_may _ _ _ _ _ _ _ _ _ _ _ _ hx H1 H2 H3 H4 H5 hg
  have ga : Good a0 a1 a2 := Classical.byContradiction fun e => hg (.inl e)
  have gb : Good b0 b1 b2 := Classical.byContradiction fun e => hg (.inr (.inl e))
  have gc : Good c0 c1 c2 := Classical.byContradiction fun e => hg (.inr (.inr e))
  obtain ⟨rfl, rfl, rfl⟩ := eA ga
  obtain ⟨rfl, rfl, rfl⟩ := eB gb
  obtain ⟨rfl, rfl, rfl⟩ := eC gc
  by_cases h0 : A0 = 0 ∨ B0 = 0 ∨ C0 = 0
  · refine ord_blank _ _ _ _ _ _ _ _ _ _ _ _ hx H1 H2 H3 H4 H5 ga gb gc (fun ha h4 hb => ?_) h0
    subst ha
    obtain ⟨rfl, rfl⟩ := ga.blank
    have gk : Good B0 0 no := by
      have := gb.range
      obtain rfl | rfl | rfl : B0 = 1 ∨ B0 = 2 ∨ B0 = 3 := by omega
      · exact .inr (.inl ⟨rfl, rfl⟩)
      · exact .inr (.inr (.inl ⟨rfl, .inl rfl, rfl⟩))
      · exact good_text (by decide +kernel)
    have K := vcmp_good gk gb (sound_good gk) SB
    have e : cmpV B0 0 no B0 B1 B2 = cmpV 0 0 no B0 B1 B2 := by
      unfold cmpV
      rw [bes_not hb, show besK 0 B0 = B0 from if_pos ⟨rfl, h4⟩, bes_not hb]
    rw [e] at K
    exact K
  have ha : A0 ≠ 0 := fun e => h0 (.inl e)
  have hb : B0 ≠ 0 := fun e => h0 (.inr (.inl e))
  have hc : C0 ≠ 0 := fun e => h0 (.inr (.inr e))
  by_cases hd : A0 = B0 ∧ A1 = B1 ∧ A2 = B2
  · obtain ⟨rfl, rfl, rfl⟩ := hd
    exact ord_same _ _ _ _ _ _ _ hy H5 H2 ga gc ha hc
  · have hx' : cmpV A0 A1 A2 B0 B1 B2 = -1 ∨ cmpV A0 A1 A2 B0 B1 B2 = 1 := by
      rcases hx with e | e | e
      · exact .inl e
      · exact absurd (cmpV_zero ga gb ha hb e) hd
      · exact .inr e
    refine ord_other _ _ _ _ _ _ _ _ _ _ _ _ hx' hy (fun e1 e2 => ?_) H1 H2 H3 H4 H5 ga gb gc ha hb hc hd
    have t := cmpV_trans ha hb hc (by rw [e1]; decide) e2
    rcases hz with e | e | e
    · exact e
    · obtain ⟨rfl, rfl, rfl⟩ := cmpV_zero ga gc ha hc e
      rw [cmpV_anti, e1] at e2
      exact absurd e2 (by decide)
    · rw [e] at t; exact absurd t (by decide)
end Go.Proofs.YtlgmcabnbmbocaaDoor
