/-
  The slots' words among a world's cells, and what a claim's step makes of them.
-/
import Derived.Test.YtmmpafhfanldbaaDoorKLaw
namespace Go.Proofs.YtmmpafhfanldbaaDoor
open Go.RowKit (Grown Hid Below)
open Go.Deep
namespace K
def mp (c : Cfg) (i : Int) : Nat := (clV' c i 0).toNat
theorem mp_eq {c : Cfg} (h : riB c = true) {i : Int} (h0 : 0 ≤ i) (h1 : i ≤ c.c) : clV' c i 0 = (mp c i : Int) ∧ (mp c i : Int) = 1 + c.t * c.s + i * (6 + c.h) ∧ (mp c i : Int) < lnV c := by
  have R := riB_true.1 h
  have hF : inF c i 0 := ⟨h, h0, h1, Int.le_refl _, by have := R.h0; omega⟩
  have e : clV' c i 0 = 1 + c.t * c.s + i * (6 + c.h) + 0 := if_pos hF
  obtain ⟨_, k1, k2⟩ := fld_wh hF
  have hts := ts_bd R
  have e3 : (mp c i : Int) = clV' c i 0 := by unfold mp; omega
  refine ⟨e3.symm, ?_, ?_⟩
  · rw [e3, e]; omega
  · rw [e3, e]; exact k2
theorem mp_inj {c : Cfg} (h : riB c = true) {i j : Int} (h0 : 0 ≤ i) (h1 : i ≤ c.c) (h2 : 0 ≤ j) (h3 : j ≤ c.c) (e : mp c i = mp c j) : i = j := by
  have R := riB_true.1 h
  have a := (mp_eq h h0 h1).2.1
  have b := (mp_eq h h2 h3).2.1
  rw [e, b] at a
  have : j * (6 + c.h) = i * (6 + c.h) := by omega
  exact (Int.eq_of_mul_eq_mul_right (by have := R.h0; omega) this).symm
theorem mp_has {c : Cfg} {cs : List Int} (h : riB c = true) (hl : (cs.length : Int) = lnV c) {i : Int} (h0 : 0 ≤ i) (h1 : i ≤ c.c) : hasC cs (clV' c i 0) ∧ mp c i < cs.length := by
  obtain ⟨a, b, d⟩ := mp_eq h h0 h1
  unfold hasC
  rw [a]; omega
theorem wd_mp {c : Cfg} {cs : List Int} (h : riB c = true) (hl : (cs.length : Int) = lnV c) {i : Int} (h0 : 0 ≤ i) (h1 : i ≤ c.c) : wdK c cs i = cs.getD (mp c i) 0 := by
  unfold wdK acV
  rw [if_pos (mp_has h hl h0 h1).1]; rfl
theorem getD_set (cs : List Int) (n m : Nat) (v : Int) (hm : m < cs.length) : (cs.set n v).getD m 0 = if n = m then v else cs.getD m 0 := by
  rw [List.getD_eq_getElem?_getD, List.getElem?_set, List.getD_eq_getElem?_getD]
  split
  · rename_i e; subst e; simp [hm]
  · rfl
/-- A swap of a slot's word. -/
theorem wd_swap {c : Cfg} {cs : List Int} (h : riB c = true) (hl : (cs.length : Int) = lnV c) {i j : Int} (h0 : 0 ≤ i) (h1 : i ≤ c.c) (h2 : 0 ≤ j) (h3 : j ≤ c.c) (old v : Int) :
    wdK c (clV cs 3 (clV' c j 0) old v) i = if i = j ∧ wdK c cs i = old then v else wdK c cs i := by
  obtain ⟨a1, a2⟩ := mp_has h hl h2 h3
  obtain ⟨b1, b2⟩ := mp_has h hl h0 h1
  have e : clV cs 3 (clV' c j 0) old v = cs.set (mp c j) (if cs.getD (mp c j) 0 = old then v else cs.getD (mp c j) 0) := by
    unfold clV; rw [if_pos a1]; rfl
  rw [e, wd_mp h (by rw [List.length_set]; exact hl) h0 h1, wd_mp h hl h0 h1, getD_set _ _ _ _ b2]
  by_cases q : i = j
  · subst q
    rw [if_pos rfl]
    by_cases q2 : cs.getD (mp c i) 0 = old
    · rw [if_pos q2, if_pos ⟨rfl, q2⟩]
    · rw [if_neg q2, if_neg (fun x => q2 x.2)]
  · rw [if_neg (fun e => q (mp_inj h h2 h3 h0 h1 e).symm), if_neg (fun x => q x.1)]
theorem wd_store {c : Cfg} {cs : List Int} (h : riB c = true) (hl : (cs.length : Int) = lnV c) {i j : Int} (h0 : 0 ≤ i) (h1 : i ≤ c.c) (h2 : 0 ≤ j) (h3 : j ≤ c.c) (old v : Int) :
    wdK c (clV cs 2 (clV' c j 0) old v) i = if i = j then v else wdK c cs i := by
  obtain ⟨a1, a2⟩ := mp_has h hl h2 h3
  obtain ⟨b1, b2⟩ := mp_has h hl h0 h1
  have e : clV cs 2 (clV' c j 0) old v = cs.set (mp c j) v := by unfold clV; rw [if_pos a1]; rfl
  rw [e, wd_mp h (by rw [List.length_set]; exact hl) h0 h1, wd_mp h hl h0 h1, getD_set _ _ _ _ b2]
  by_cases q : i = j
  · subst q; rw [if_pos rfl, if_pos rfl]
  · rw [if_neg (fun e => q (mp_inj h h2 h3 h0 h1 e).symm), if_neg q]
theorem tk_d {c : Cfg} {cs : List Int} {s : Ks} (h : riB c = true) (hl : (cs.length : Int) = lnV c) (h0 : 0 ≤ s.ix) (h1 : s.ix ≤ c.c) : (tkA c cs s).d = true ↔ wdK c cs s.ix = s.lk := by
  obtain ⟨a1, a2⟩ := mp_has h hl h0 h1
  rw [wd_mp h hl h0 h1]
  unfold tkA acV
  rw [if_pos a1]
  show bhB 3 (cs.getD (mp c s.ix) 0) s.lk = true ↔ _
  simp [bhB]
theorem wd_step {c : Cfg} {cs : List Int} {s : Ks} (h : riB c = true) (hl : (cs.length : Int) = lnV c) (hI : KI c s) {i : Int} (h0 : 0 ≤ i) (h1 : i ≤ c.c) :
    wdK c (stC c cs s) i = if s.ph = 2 ∧ i = s.ix ∧ wdK c cs i = s.lk then S.meV 1 (S.gnV s.lk) else wdK c cs i := by
  unfold stC
  by_cases q : s.ph = 2
  · obtain ⟨a, b, d, e⟩ := hI.pos (by omega) (by omega)
    rw [if_pos q]
    unfold tkC
    rw [wd_swap h hl h0 h1 (by omega) b]
    by_cases q2 : i = s.ix ∧ wdK c cs i = s.lk
    · rw [if_pos q2, if_pos ⟨q, q2.1, q2.2⟩]
    · rw [if_neg q2, if_neg (fun x => q2 ⟨x.2.1, x.2.2⟩)]
  · rw [if_neg q, if_neg (fun x => q x.1)]
/-- How many steps a claim has left at most. -/
def mu (c : Cfg) (s : Ks) : Int := if s.ph = 0 then 2 * c.c else if s.ph = 1 then 2 * s.lf else if s.ph = 2 then 2 * s.lf - 1 else 0
theorem mu_pass {c : Cfg} {s : Ks} : mu c (passK c s) ≤ 2 * s.lf - 2 := by
  unfold passK; split
  · rename_i e; unfold mu; simp; omega
  · unfold mu; simp; omega
theorem mu_look {c : Cfg} {cs : List Int} {s : Ks} : mu c (lookK c cs s) ≤ 2 * s.lf - 1 := by
  unfold lookK; split
  · unfold mu; simp
  · have := mu_pass (c := c) (s := ⟨1, s.fr, s.ix, s.lf, wdK c cs s.ix, s.gt, s.nx⟩)
    exact Int.le_trans this (by show 2 * s.lf - 2 ≤ 2 * s.lf - 1; omega)
theorem mu_step {c : Cfg} {cs : List Int} {s : Ks} (hI : KI c s) : mu c (stK c cs s) ≤ mu c s - 1 ∨ (3 ≤ s.ph ∧ stK c cs s = s) := by
  by_cases q0 : s.ph = 0
  · left
    have : mu c s = 2 * c.c := if_pos q0
    rw [this]
    unfold stK; rw [if_pos q0]
    exact mu_look (s := ⟨0, s.fr, bgI c s.fr, c.c, s.lk, s.gt, s.nx⟩)
  · by_cases q1 : s.ph = 1
    · left
      obtain ⟨a, b, d, e⟩ := hI.pos (by omega) (by omega)
      have : mu c s = 2 * s.lf := by unfold mu; rw [if_neg q0, if_pos q1]
      rw [this]
      unfold stK; rw [if_neg q0, if_pos q1]
      exact mu_look
    · by_cases q2 : s.ph = 2
      · left
        obtain ⟨a, b, d, e⟩ := hI.pos (by omega) (by omega)
        have : mu c s = 2 * s.lf - 1 := by unfold mu; rw [if_neg q0, if_neg q1, if_pos q2]
        rw [this]
        unfold stK; rw [if_neg q0, if_neg q1, if_pos q2]
        unfold takeK; split
        · unfold mu; simp; omega
        · have := mu_pass (c := c) (s := s); omega
      · right
        refine ⟨by omega, ?_⟩
        unfold stK; rw [if_neg q0, if_neg q1, if_neg q2]
theorem mu_pos {c : Cfg} {s : Ks} (h0 : 1 ≤ c.c) (hI : KI c s) (h : mu c s ≤ 0) : 3 ≤ s.ph := by
  by_cases q : 3 ≤ s.ph
  · exact q
  · exfalso
    by_cases q0 : s.ph = 0
    · have : mu c s = 2 * c.c := if_pos q0
      omega
    · obtain ⟨a, b, d, e⟩ := hI.pos (by omega) (by omega)
      unfold mu at h
      rw [if_neg q0] at h
      split at h
      · omega
      · rw [if_pos (by omega)] at h; omega
theorem mu_nonneg {c : Cfg} {s : Ks} (h0 : 1 ≤ c.c) (hI : KI c s) : 0 ≤ mu c s := by
  by_cases q : 3 ≤ s.ph
  · unfold mu; rw [if_neg (by omega), if_neg (by omega), if_neg (by omega)]; exact Int.le_refl _
  · by_cases q0 : s.ph = 0
    · have : mu c s = 2 * c.c := if_pos q0
      omega
    · obtain ⟨a, b, d, e⟩ := hI.pos (by omega) (by omega)
      unfold mu; rw [if_neg q0]; split
      · omega
      · rw [if_pos (by omega)]; omega
theorem mu_le {c : Cfg} {s : Ks} (h0 : 1 ≤ c.c) (hI : KI c s) : mu c s ≤ 2 * c.c := by
  by_cases q : 3 ≤ s.ph
  · unfold mu; rw [if_neg (by omega), if_neg (by omega), if_neg (by omega)]; omega
  · by_cases q0 : s.ph = 0
    · have : mu c s = 2 * c.c := if_pos q0
      omega
    · obtain ⟨a, b, d, e⟩ := hI.pos (by omega) (by omega)
      unfold mu; rw [if_neg q0]; split
      · omega
      · rw [if_pos (by omega)]; omega
/-- What a claim has, of the words as they are: it looked at a free slot; what it got is taken. -/
structure Own1 (c : Cfg) (cs : List Int) (s : Ks) : Prop where
  lk : s.ph = 2 → S.stV s.lk = 0
  gt : s.gt = 0 ∨ (3 ≤ s.ph ∧ 1 ≤ ixV s.gt ∧ ixV s.gt ≤ c.c ∧ S.stV (wdK c cs (ixV s.gt)) = 1)
  gb : 0 ≤ s.gt ∧ s.gt < 18446744073709551616
theorem st_me (x : Int) (h : 0 ≤ x) : S.stV (S.meV 1 (S.gnV x)) = 1 := by
  have := S.gn_bd x h; unfold S.stV S.meV; omega
theorem own_other {c : Cfg} {cs : List Int} {s t : Ks} (h : riB c = true) (hl : (cs.length : Int) = lnV c) (hI : KI c s) (ho : Own1 c cs t) : Own1 c (stC c cs s) t := by
  refine ⟨ho.lk, ?_, ho.gb⟩
  rcases ho.gt with g | ⟨g0, g1, g2, g3⟩
  · exact Or.inl g
  · refine Or.inr ⟨g0, g1, g2, ?_⟩
    rw [wd_step h hl hI (by omega) g2]
    split
    · exact st_me _ hI.lk.1
    · exact g3
theorem pass_gt (c : Cfg) (s : Ks) : (passK c s).gt = s.gt ∧ ¬ (passK c s).ph = 2 := by unfold passK; split <;> exact ⟨rfl, by simp⟩
theorem look_gt (c : Cfg) (cs : List Int) (s : Ks) : (lookK c cs s).gt = s.gt ∧ ((lookK c cs s).ph = 2 → S.stV (lookK c cs s).lk = 0) := by
  unfold lookK; split
  · rename_i e; exact ⟨rfl, fun _ => e⟩
  · have := pass_gt c ⟨1, s.fr, s.ix, s.lf, wdK c cs s.ix, s.gt, s.nx⟩
    exact ⟨this.1, fun e => absurd e this.2⟩
theorem own_self {c : Cfg} {cs : List Int} {s : Ks} (h : riB c = true) (hl : (cs.length : Int) = lnV c) (h64 : c.c ≤ 64) (hI : KI c s) (ho : Own1 c cs s) : Own1 c (stC c cs s) (stK c cs s) := by
  by_cases q3 : 3 ≤ s.ph
  · have e : stK c cs s = s := by unfold stK; rw [if_neg (by omega), if_neg (by omega), if_neg (by omega)]
    rw [e]; exact own_other h hl hI ho
  · have g0 : s.gt = 0 := ho.gt.resolve_right (fun x => q3 x.1)
    by_cases q0 : s.ph = 0
    · have e : stK c cs s = beginK c cs s := if_pos q0
      have := look_gt c cs ⟨0, s.fr, bgI c s.fr, c.c, s.lk, s.gt, s.nx⟩
      rw [e]
      refine ⟨this.2, Or.inl (this.1.trans g0), ?_⟩
      rw [show (beginK c cs s).gt = s.gt from this.1, g0]; decide
    · by_cases q1 : s.ph = 1
      · have e : stK c cs s = lookK c cs s := by unfold stK; rw [if_neg q0, if_pos q1]
        have := look_gt c cs s
        rw [e]
        refine ⟨this.2, Or.inl (this.1.trans g0), ?_⟩
        rw [this.1, g0]; decide
      · have q2 : s.ph = 2 := by omega
        obtain ⟨a, b, d, e⟩ := hI.pos (by omega) (by omega)
        have e2 : stK c cs s = takeK c cs s := by unfold stK; rw [if_neg q0, if_neg q1, if_pos q2]
        rw [e2]
        unfold takeK
        split
        · rename_i hd
          have hd' := (tk_d h hl (by omega) b).1 hd
          have gn := S.gn_bd s.lk hI.lk.1
          have ix := ix_pack s.ix (S.gnV s.lk) (by omega) (by omega)
          have pb := pack_bd s.ix (S.gnV s.lk) (by omega) (by omega) gn.1 gn.2
          refine ⟨fun x => by simp at x, Or.inr ⟨by simp, ?_⟩, ⟨by show 0 ≤ packV s.ix (S.gnV s.lk) false; omega, pb.2⟩⟩
          show 1 ≤ ixV (packV s.ix (S.gnV s.lk) false) ∧ ixV (packV s.ix (S.gnV s.lk) false) ≤ c.c ∧ S.stV (wdK c (stC c cs s) (ixV (packV s.ix (S.gnV s.lk) false))) = 1
          rw [ix]
          refine ⟨a, b, ?_⟩
          rw [wd_step h hl hI (by omega) b, if_pos ⟨q2, rfl, hd'⟩]
          exact st_me _ hI.lk.1
        · have := pass_gt c s
          refine ⟨fun x => absurd x this.2, Or.inl (this.1.trans g0), ?_⟩
          rw [this.1, g0]; decide
/-- Of two claims no slot is had by both. -/
def Apart2 (s t : Ks) : Prop := s.gt = 0 ∨ ¬ ixV s.gt = ixV t.gt ∨ t.gt = 0
theorem got_new {c : Cfg} {cs : List Int} {s : Ks} (h : riB c = true) (hl : (cs.length : Int) = lnV c) (h64 : c.c ≤ 64) (hI : KI c s) (ho : Own1 c cs s) : (stK c cs s).gt = s.gt ∨ (S.stV (wdK c cs (ixV (stK c cs s).gt)) = 0) := by
  by_cases q2 : s.ph = 2
  · obtain ⟨a, b, d, e⟩ := hI.pos (by omega) (by omega)
    have e2 : stK c cs s = takeK c cs s := by unfold stK; rw [if_neg (by omega), if_neg (by omega), if_pos q2]
    rw [e2]
    unfold takeK
    split
    · rename_i hd
      have hd' := (tk_d h hl (by omega) b).1 hd
      right
      show S.stV (wdK c cs (ixV (packV s.ix (S.gnV s.lk) false))) = 0
      rw [ix_pack s.ix (S.gnV s.lk) (by omega) (by omega), hd']
      exact ho.lk q2
    · left; exact (pass_gt c s).1
  · left
    unfold stK
    split
    · exact (look_gt c cs _).1
    · split
      · exact (look_gt c cs s).1
      · first | rfl | (rw [if_neg q2])
theorem apart_step {c : Cfg} {cs : List Int} {s t : Ks} (h : riB c = true) (hl : (cs.length : Int) = lnV c) (h64 : c.c ≤ 64) (hI : KI c s) (ho : Own1 c cs s) (hp : Own1 c cs t) (ha : Apart2 s t) : Apart2 (stK c cs s) t := by
  rcases got_new h hl h64 hI ho with e | e
  · unfold Apart2; rw [e]; exact ha
  · rcases hp.gt with g | ⟨g0, g1, g2, g3⟩
    · exact Or.inr (Or.inr g)
    · refine Or.inr (Or.inl (fun x => ?_))
      rw [x, g3] at e; exact absurd e (by decide)
theorem Apart2.symm {s t : Ks} (h : Apart2 s t) : Apart2 t s := by
  rcases h with h | h | h
  · exact Or.inr (Or.inr h)
  · exact Or.inr (Or.inl (fun e => h e.symm))
  · exact Or.inl h
theorem KI.start (c : Cfg) (fr : Int) : KI c ⟨0, fr, 0, 0, 0, 0, fr⟩ := ⟨fun h => by simp at h, by show (0 : Int) ≤ 0 ∧ (0 : Int) < 18446744073709551616; decide⟩
theorem Own1.start (c : Cfg) (cs : List Int) (fr : Int) : Own1 c cs ⟨0, fr, 0, 0, 0, 0, fr⟩ := ⟨fun h => by simp at h, Or.inl rfl, by show (0 : Int) ≤ 0 ∧ (0 : Int) < 18446744073709551616; decide⟩
theorem stN_bd (cnt : Int) (s : Ks) : cnt ≤ stN cnt s ∧ stN cnt s ≤ cnt + 1 := by unfold stN; split <;> omega
end K
end Go.Proofs.YtmmpafhfanldbaaDoor
