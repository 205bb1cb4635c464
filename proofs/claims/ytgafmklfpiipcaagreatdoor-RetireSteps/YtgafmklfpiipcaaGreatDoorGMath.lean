/-
  The plain mathematics of reservations: what a cell tells behind a store, and behind the clock has gone on; a guard's reservations.
-/
import Derived.Test.YtgafmklfpiipcaaGreatDoorGSt
namespace Go.Proofs.YtgafmklfpiipcaaGreatDoor
open Go.RowKit (Grown Hid Below)
open Go.Deep
namespace K
set_option maxRecDepth 100000
/-- What a load of that cell tells. -/
def rdG (cs : List Int) (x : Int) : Int := (acV cs 1 x 0 0 0).o
theorem rdG_eq (cs : List Int) (x : Int) : rdG cs x = if hasC cs x then cs.getD x.toNat 0 else 0 := by unfold rdG acV; split <;> rfl
theorem hasC_len {cs ds : List Int} (h : cs.length = ds.length) (x : Int) : hasC cs x ↔ hasC ds x := by unfold hasC; rw [h]
theorem clV_len (cs : List Int) (k x old v : Int) : (clV cs k x old v).length = cs.length := by unfold clV; split <;> simp
theorem getD_set (cs : List Int) (n m : Nat) (v : Int) (hm : m < cs.length) : (cs.set n v).getD m 0 = if n = m then v else cs.getD m 0 := by
  rw [List.getD_eq_getElem?_getD, List.getD_eq_getElem?_getD, List.getElem?_set]
  split
  · rename_i h; subst h; simp [hm]
  · rfl
theorem rd_set (cs : List Int) (k x y v : Int) (hx : hasC cs x) (w : Int) (hw : bhV k (cs.getD x.toNat 0) 0 v = w) : rdG (clV cs k x 0 v) y = if y = x then w else rdG cs y := by
  have ec : clV cs k x 0 v = cs.set x.toNat w := by unfold clV; rw [if_pos hx, hw]
  have e : hasC (cs.set x.toNat w) y ↔ hasC cs y := hasC_len (by simp) y
  rw [ec, rdG_eq, rdG_eq]
  by_cases hy : y = x
  · subst hy
    rw [if_pos (e.2 hx), if_pos rfl, getD_set _ _ _ _ (by unfold hasC at hx; omega), if_pos rfl]
  · rw [if_neg hy]
    by_cases hc : hasC cs y
    · rw [if_pos (e.2 hc), if_pos hc, getD_set _ _ _ _ (by unfold hasC at hc; omega), if_neg (by unfold hasC at hc hx; omega)]
    · rw [if_neg (fun h => hc (e.1 h)), if_neg hc]
theorem rd_store (cs : List Int) (x y v : Int) : rdG (clV cs 2 x 0 v) y = if hasC cs x ∧ y = x then v else rdG cs y := by
  by_cases hx : hasC cs x
  · rw [rd_set cs 2 x y v hx v (by simp [bhV])]
    by_cases hy : y = x
    · rw [if_pos hy, if_pos ⟨hx, hy⟩]
    · rw [if_neg hy, if_neg (fun h => hy h.2)]
  · rw [show clV cs 2 x 0 v = cs from if_neg hx, if_neg (fun h => hx h.1)]
theorem rd_tick (cs : List Int) (h : hasC cs 0) : rdG (clV cs 4 0 0 1) 0 = add64 (rdG cs 0) 1 := by
  rw [rd_set cs 4 0 0 1 h (add64 (cs.getD (0 : Int).toNat 0) 1) (by simp [bhV]), if_pos rfl, rdG_eq, if_pos h]
theorem rs_has {c : Cfg} {cs : List Int} (hl : (cs.length : Int) = lnV c) (a b : Int) : hasC cs (rsV c a b) ↔ inR c a b := by
  constructor
  · intro h
    by_cases hi : inR c a b
    · exact hi
    · have e : rsV c a b = -1 := if_neg hi
      unfold hasC at h; omega
  · intro hi
    have e : rsV c a b = 1 + a * c.s + b := if_pos hi
    obtain ⟨_, h1, h2⟩ := res_wh hi
    have R := riB_true.1 hi.1
    have := cf_bd R
    have := ln_yes hi.1
    unfold hasC; omega
theorem rs_in {c : Cfg} {a b : Int} (h : 0 ≤ rsV c a b) : inR c a b := by
  by_cases hi : inR c a b
  · exact hi
  · have e : rsV c a b = -1 := if_neg hi
    omega
theorem rs_pos {c : Cfg} {a b : Int} (hi : inR c a b) : 1 ≤ rsV c a b := by
  have e : rsV c a b = 1 + a * c.s + b := if_pos hi
  have := (res_wh hi).2.1; omega
theorem rs_ne0 (c : Cfg) (a b : Int) : ¬ (0 : Int) = rsV c a b := by
  intro h
  have := rs_pos (rs_in (c := c) (a := a) (b := b) (by omega)); omega
theorem rs_inj {c : Cfg} {a b a' b' : Int} (h : inR c a b) (h' : inR c a' b') (e : rsV c a b = rsV c a' b') : a = a' ∧ b = b' := by
  have e1 : rsV c a b = 1 + a * c.s + b := if_pos h
  have e2 : rsV c a' b' = 1 + a' * c.s + b' := if_pos h'
  have z1 := (res_wh h).1
  have z2 := (res_wh h').1
  rw [← e1, e, e2, z2] at z1
  injection z1 with _ z3 z4
  exact ⟨z3.symm, z4.symm⟩
theorem rs_store {c : Cfg} {cs : List Int} (hl : (cs.length : Int) = lnV c) (a b a' b' v : Int) : rdG (clV cs 2 (rsV c a b) 0 v) (rsV c a' b') = if inR c a b ∧ a' = a ∧ b' = b then v else rdG cs (rsV c a' b') := by
  rw [rd_store]
  by_cases hi : inR c a b
  · by_cases he : a' = a ∧ b' = b
    · obtain ⟨rfl, rfl⟩ := he
      rw [if_pos ⟨(rs_has hl _ _).2 hi, rfl⟩, if_pos ⟨hi, rfl, rfl⟩]
    · rw [if_neg, if_neg (fun h => he h.2)]
      rintro ⟨h1, h2⟩
      have hi' : inR c a' b' := rs_in (by rw [h2]; have := rs_pos hi; omega)
      exact he (rs_inj hi' hi h2)
  · rw [if_neg (fun h => hi ((rs_has hl _ _).1 h.1)), if_neg (fun h => hi h.1)]
theorem rs_clock (c : Cfg) (cs : List Int) (a b v : Int) : rdG (clV cs 2 (rsV c a b) 0 v) 0 = rdG cs 0 := by
  rw [rd_store, if_neg (fun h => rs_ne0 c a b h.2)]
theorem fc_clock {c : Cfg} (h : riB c = true) : rdG (fcV c) 0 = 1 ∧ hasC (fcV c) 0 := by
  obtain ⟨x0, e0, l0, p0⟩ := head_cell h 0 (by omega) (by omega)
  obtain ⟨x4, e4, l4, p4⟩ := head_cell h 4 (by omega) (by omega)
  have hh : hasC (fcV c) 0 := by unfold hasC; rw [fcV_len]; omega
  refine ⟨?_, hh⟩
  rw [rdG_eq, if_pos hh]
  unfold fcV
  rw [e0, e4, getD_set _ _ _ _ (by simp; omega), if_neg (by simp; omega), getD_set _ _ _ _ (by simp; omega), if_neg (by simp; omega), getD_set _ _ _ _ (by simp; omega), if_pos (by rfl)]
theorem fc_ln (c : Cfg) : ((fcV c).length : Int) = lnV c := by rw [fcV_len, lnN_eq]
theorem pubN_bd {c : Cfg} {g : Gs} (h : 1 ≤ c.s) (u0 : 0 ≤ g.u) : 0 ≤ pubN c g ∧ pubN c g < c.s := by unfold pubN; split <;> omega
theorem pubG_u {c : Cfg} {g : Gs} (h : 1 ≤ c.s) (u0 : 0 ≤ g.u) (e : Int) : 1 ≤ (pubG c g e).u ∧ (pubG c g e).u ≤ c.s := by
  have := pubN_bd h u0
  show 1 ≤ pubN c g + 1 ∧ pubN c g + 1 ≤ c.s; omega
theorem clrG_u {c : Cfg} {g : Gs} (x : Int) : (clrG c g x).u = g.u ∨ (clrG c g x).u = 0 := by unfold clrG; split; exact Or.inr rfl; exact Or.inl rfl
theorem clrG_t {c : Cfg} {g : Gs} (x : Int) : (clrG c g x).t = g.t := by unfold clrG; split <;> rfl
/-- What was published since stands. -/
structure Stn (c : Cfg) (cs : List Int) (g : Gs) (l : List Int) : Prop where
  u : g.u = l.length
  le : g.u ≤ c.s
  st : ∀ i, i < l.length → rdG cs (rsV c g.t i) = l.getD i 0
theorem Stn.pub {c : Cfg} {cs : List Int} {g : Gs} {l : List Int} (h : Stn c cs g l) (hr : riB c = true) (hl : (cs.length : Int) = lnV c) (t0 : 0 ≤ g.t) (t1 : g.t < c.t) (e : Int) :
    Stn c (clV cs 2 (rsV c g.t (pubN c g)) 0 e) (pubG c g e) ((if g.u < c.s then l else []) ++ [e]) := by
  have R := riB_true.1 hr
  have u0 := h.u
  have nb := pubN_bd (c := c) (g := g) R.s0 (by omega)
  have hi : inR c g.t (pubN c g) := ⟨hr, t0, t1, nb.1, nb.2⟩
  by_cases hu : g.u < c.s
  · have en : pubN c g = g.u := if_pos hu
    rw [if_pos hu]
    refine ⟨?_, (pubG_u R.s0 (by omega) e).2, fun i hlt => ?_⟩
    · show pubN c g + 1 = _; rw [en, List.length_append, List.length_singleton]; omega
    · show rdG _ (rsV c g.t i) = _
      rw [rs_store hl]
      rw [List.length_append, List.length_singleton] at hlt
      by_cases hil : i < l.length
      · rw [if_neg (by rintro ⟨_, _, h3⟩; omega), h.st i hil, List.getD_eq_getElem?_getD, List.getD_eq_getElem?_getD, List.getElem?_append_left hil]
      · have hie : i = l.length := by omega
        rw [if_pos ⟨hi, rfl, by rw [en, u0, hie]⟩, hie]; simp
  · have en : pubN c g = 0 := if_neg hu
    rw [if_neg hu]
    refine ⟨?_, (pubG_u R.s0 (by omega) e).2, fun i hlt => ?_⟩
    · show pubN c g + 1 = _; rw [en]; rfl
    · have hi0 : i = 0 := by simpa using hlt
      subst hi0
      show rdG _ (rsV c g.t ((0 : Nat) : Int)) = _
      rw [rs_store hl, if_pos ⟨hi, rfl, by rw [en]; rfl⟩]; rfl
end K
end Go.Proofs.YtgafmklfpiipcaaGreatDoor
