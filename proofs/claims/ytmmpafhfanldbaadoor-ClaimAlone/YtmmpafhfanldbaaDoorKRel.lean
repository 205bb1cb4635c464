/-
  The program's claim and the document's go on alike.
-/
import Derived.Test.YtmmpafhfanldbaaDoorKRAll
namespace Go.Proofs.YtmmpafhfanldbaaDoor
open Go.RowKit (Grown Hid Below)
open Go.Deep
namespace K
theorem mod_next (x m : Int) (h : 1 ≤ m) : (x + 1) % m = if x % m + 1 = m then 0 else x % m + 1 := by
  have h0 := Int.emod_nonneg x (by omega : m ≠ 0)
  have h1 := Int.emod_lt_of_pos x (by omega : 0 < m)
  rw [show (x + 1) % m = (x % m + 1) % m by rw [Int.emod_add_emod]]
  split
  · rename_i e; rw [e, Int.emod_self]
  · exact Int.emod_eq_of_lt (by omega) (by omega)
theorem at_next (t : RC) (c : Cfg) (h : 1 ≤ c.c) : atV (rgo t c.c) c.c = bhI c (atV t c.c) := by
  unfold atV rgo bhI
  generalize (if t.f < 1 ∨ c.c < t.f then 1 else t.f) = f0
  show (f0 - 1 + (t.l + 1)) % c.c + 1 = _
  rw [show f0 - 1 + (t.l + 1) = (f0 - 1 + t.l) + 1 by omega, mod_next _ _ h]
  have h0 := Int.emod_nonneg (f0 - 1 + t.l) (by omega : c.c ≠ 0)
  have h1 := Int.emod_lt_of_pos (f0 - 1 + t.l) (by omega : 0 < c.c)
  split <;> split <;> omega
theorem at_first (t : RC) (c : Cfg) (hl : t.l = 0) : atV t c.c = bgI c t.f := by
  unfold atV bgI
  rw [hl]
  split
  · rw [show (1 : Int) - 1 + 0 = 0 by omega, Int.zero_emod]; omega
  · rw [Int.emod_eq_of_lt (by omega) (by omega)]; omega
theorem ix_pack (i g : Int) (i0 : 0 ≤ i) (i1 : i < 4294967296) : ixV (packV i g false) = i := by
  unfold ixV packV; simp; omega
theorem pack_bd (i g : Int) (i0 : 0 ≤ i) (i1 : i < 4294967296) (g0 : 0 ≤ g) (g1 : g ≤ 1073741823) : 0 < packV i g false ∧ packV i g false < 18446744073709551616 := by
  unfold packV; simp; omega
structure Rel (c : Cfg) (s : Ks) (t : RC) : Prop where
  f : t.f = s.fr
  g : t.g = s.gt
  d : t.d = decide (3 ≤ s.ph)
  p0 : s.ph = 0 → t.l = 0 ∧ t.t = false ∧ s.gt = 0 ∧ s.nx = s.fr
  p12 : 1 ≤ s.ph → s.ph ≤ 2 → s.ix = atV t c.c ∧ s.lf = c.c - t.l ∧ s.gt = 0 ∧ s.nx = s.fr ∧ t.t = decide (s.ph = 2) ∧ (s.ph = 2 → t.w = s.lk)
  p3 : 3 ≤ s.ph → s.nx = nxV t c.c
  l : 0 ≤ t.l ∧ t.l ≤ c.c
  w : 0 ≤ t.w ∧ t.w < 18446744073709551616
  gb : 0 ≤ t.g ∧ t.g < 18446744073709551616
theorem Rel.start (c : Cfg) (fr : Int) (h : 1 ≤ c.c) : Rel c ⟨0, fr, 0, 0, 0, 0, fr⟩ ⟨fr, 0, false, 0, 0, false⟩ :=
  ⟨rfl, rfl, rfl, fun _ => ⟨rfl, rfl, rfl, rfl⟩, fun h => by simp at h, fun h => by simp at h, ⟨by show (0 : Int) ≤ 0; decide, by show (0 : Int) ≤ c.c; omega⟩, by show (0 : Int) ≤ 0 ∧ (0 : Int) < 18446744073709551616; decide, by show (0 : Int) ≤ 0 ∧ (0 : Int) < 18446744073709551616; decide⟩
theorem Rel.pass {c : Cfg} {s : Ks} {t : RC} (h : 1 ≤ c.c) (e1 : s.ix = atV t c.c) (e2 : s.lf = c.c - t.l) (e3 : s.gt = 0) (e4 : s.nx = s.fr) (e5 : t.f = s.fr) (e6 : t.g = s.gt) (l0 : 0 ≤ t.l) (l1 : t.l < c.c) (hw : 0 ≤ t.w ∧ t.w < 18446744073709551616) : Rel c (passK c s) (rgo t c.c) := by
  unfold passK
  split
  · rename_i q
    refine ⟨e5, e6, ?_, fun h => by simp at h, fun _ h => by simp at h, fun _ => ?_, ⟨by show 0 ≤ t.l + 1; omega, by show t.l + 1 ≤ c.c; omega⟩, hw, by show 0 ≤ t.g ∧ t.g < 18446744073709551616; rw [e6, e3]; decide⟩
    · show decide (c.c ≤ t.l + 1) = true; rw [decide_eq_true_eq]; omega
    · show s.nx = nxV (rgo t c.c) c.c
      unfold nxV
      rw [if_pos (by show t.g = 0; rw [e6, e3])]
      show s.nx = t.f
      rw [e4, e5]
  · rename_i q
    refine ⟨e5, e6, ?_, fun h => by simp at h, fun _ _ => ⟨?_, ?_, e3, e4, rfl, fun h => by simp at h⟩, fun h => by simp at h, ⟨by show 0 ≤ t.l + 1; omega, by show t.l + 1 ≤ c.c; omega⟩, hw, by show 0 ≤ t.g ∧ t.g < 18446744073709551616; rw [e6, e3]; decide⟩
    · show decide (c.c ≤ t.l + 1) = decide (3 ≤ 1); rw [decide_eq_false (by omega)]; rfl
    · show bhI c s.ix = _; rw [at_next t c h, e1]
    · show s.lf - 1 = c.c - (t.l + 1); omega
theorem Rel.look {c : Cfg} {cs : List Int} {s : Ks} {t : RC} (hw : Wds cs) (h : 1 ≤ c.c) (e1 : s.ix = atV t c.c) (e2 : s.lf = c.c - t.l) (e3 : s.gt = 0) (e4 : s.nx = s.fr) (e5 : t.f = s.fr) (e6 : t.g = s.gt) (l0 : 0 ≤ t.l) (l1 : t.l < c.c) (hw2 : 0 ≤ t.w ∧ t.w < 18446744073709551616) (ed : t.d = false) :
    Rel c (lookK c cs s) (if S.stV (wdK c cs (atV t c.c)) = 0 then ⟨t.f, t.l, true, wdK c cs (atV t c.c), t.g, t.d⟩ else rgo t c.c) := by
  unfold lookK
  rw [e1]
  split
  · refine ⟨e5, e6, by rw [ed]; rfl, fun h => by simp at h, fun _ _ => ⟨rfl, e2, e3, e4, rfl, fun _ => rfl⟩, fun h => by simp at h, ⟨l0, Int.le_of_lt l1⟩, wdK_bd hw c _, by show 0 ≤ t.g ∧ t.g < 18446744073709551616; rw [e6, e3]; decide⟩
  · exact Rel.pass (s := ⟨1, s.fr, atV t c.c, s.lf, wdK c cs (atV t c.c), s.gt, s.nx⟩) h rfl e2 e3 e4 e5 e6 l0 l1 hw2
theorem Rel.step {c : Cfg} {cs : List Int} {s : Ks} {t : RC} (hw : Wds cs) (h : 1 ≤ c.c) (h64 : c.c ≤ 64) (hI : KI c s) (R : Rel c s t) : Rel c (stK c cs s) (rsK c cs t) := by
  unfold stK rsK
  by_cases q0 : s.ph = 0
  · obtain ⟨a1, a2, a3, a4⟩ := R.p0 q0
    have ed : t.d = false := by rw [R.d, q0]; rfl
    rw [if_pos q0, if_neg (by rw [ed]; decide), if_neg (by rw [a2]; decide)]
    exact Rel.look (s := ⟨0, s.fr, bgI c s.fr, c.c, s.lk, s.gt, s.nx⟩) hw h (by show bgI c s.fr = _; rw [at_first t c a1, R.f]) (by show c.c = c.c - t.l; omega) a3 a4 R.f R.g R.l.1 (by omega) R.w ed
  · rw [if_neg q0]
    by_cases q1 : s.ph = 1
    · obtain ⟨a1, a2, a3, a4, a5, a6⟩ := R.p12 (by omega) (by omega)
      obtain ⟨b1, b2, b3, b4⟩ := hI.pos (by omega) (by omega)
      have ed : t.d = false := by rw [R.d, q1]; rfl
      have et : t.t = false := by rw [a5, q1]; rfl
      rw [if_pos q1, if_neg (by rw [ed]; decide), if_neg (by rw [et]; decide)]
      exact Rel.look hw h a1 a2 a3 a4 R.f R.g R.l.1 (by omega) R.w ed
    · rw [if_neg q1]
      by_cases q2 : s.ph = 2
      · obtain ⟨a1, a2, a3, a4, a5, a6⟩ := R.p12 (by omega) (by omega)
        obtain ⟨b1, b2, b3, b4⟩ := hI.pos (by omega) (by omega)
        have ed : t.d = false := by rw [R.d, q2]; rfl
        have et : t.t = true := by rw [a5, q2]; rfl
        have ew := a6 q2
        have gn := S.gn_bd s.lk hI.lk.1
        rw [if_pos q2, if_neg (by rw [ed]; decide), if_pos et]
        have eT : rsT c cs t = tkA c cs s := by unfold rsT tkA; rw [a1, ew]
        rw [eT]
        unfold takeK
        split
        · have pb := pack_bd (atV t c.c) (S.gnV s.lk) (by omega) (by omega) gn.1 gn.2
          refine ⟨R.f, by show packV (atV t c.c) (S.gnV t.w) false = packV s.ix (S.gnV s.lk) false; rw [a1, ew], rfl, fun h => by simp at h, fun _ h => by simp at h, fun _ => ?_, R.l, R.w, by show 0 ≤ packV (atV t c.c) (S.gnV t.w) false ∧ packV (atV t c.c) (S.gnV t.w) false < 18446744073709551616; rw [ew]; omega⟩
          show bhI c s.ix = nxV _ c.c
          unfold nxV
          rw [if_neg (by show ¬ packV (atV t c.c) (S.gnV t.w) false = 0; rw [ew]; omega)]
          show bhI c s.ix = ixV (packV (atV t c.c) (S.gnV t.w) false) % c.c + 1
          rw [ew, ix_pack _ _ (by omega) (by omega), ← a1]
          unfold bhI
          split
          · rw [show s.ix = c.c by omega, Int.emod_self]; omega
          · rw [Int.emod_eq_of_lt (by omega) (by omega)]
        · exact Rel.pass h a1 a2 a3 a4 R.f R.g R.l.1 (by omega) R.w
      · have ed : t.d = true := by rw [R.d, decide_eq_true_eq]; omega
        rw [if_neg q2, if_pos ed]
        exact R
theorem Rel.same {c : Cfg} {cs : List Int} {s : Ks} {t : RC} (R : Rel c s t) (cnt : Int) (a : Acc) : stC c cs s = rsC c cs t ∧ stN cnt s = rsN cnt t ∧ stA c cs a s = rsA c cs a t := by
  by_cases q0 : s.ph = 0
  · obtain ⟨a1, a2, a3, a4⟩ := R.p0 q0
    have ed : ¬ t.d = true := by rw [R.d, q0]; decide
    have et : ¬ t.t = true := by rw [a2]; decide
    refine ⟨?_, ?_, ?_⟩
    · unfold stC rsC; rw [if_neg (by omega), if_neg ed, if_neg et]
    · unfold stN rsN; rw [if_pos (by omega), if_neg ed]
    · unfold stA rsA; rw [if_pos q0, if_neg ed, if_neg et, at_first t c a1, R.f]
  · by_cases q3 : 3 ≤ s.ph
    · have ed : t.d = true := by rw [R.d, decide_eq_true_eq]; exact q3
      refine ⟨?_, ?_, ?_⟩
      · unfold stC rsC; rw [if_neg (by omega), if_pos ed]
      · unfold stN rsN; rw [if_neg (by omega), if_pos ed]
      · unfold stA rsA; rw [if_neg (by omega), if_neg (by omega), if_neg (by omega), if_pos ed]
    · obtain ⟨a1, a2, a3, a4, a5, a6⟩ := R.p12 (by omega) (by omega)
      have ed : ¬ t.d = true := by rw [R.d, decide_eq_true_eq]; exact q3
      by_cases q2 : s.ph = 2
      · have et : t.t = true := by rw [a5, q2]; rfl
        have ew := a6 q2
        refine ⟨?_, ?_, ?_⟩
        · unfold stC rsC tkC; rw [if_pos q2, if_neg ed, if_pos et, a1, ew]
        · unfold stN rsN; rw [if_pos (by omega), if_neg ed]
        · unfold stA rsA rsT tkA; rw [if_neg q0, if_neg (by omega), if_pos q2, if_neg ed, if_pos et, a1, ew]
      · have et : ¬ t.t = true := by rw [a5, decide_eq_true_eq]; exact q2
        refine ⟨?_, ?_, ?_⟩
        · unfold stC rsC; rw [if_neg q2, if_neg ed, if_neg et]
        · unfold stN rsN; rw [if_pos (by omega), if_neg ed]
        · unfold stA rsA; rw [if_neg q0, if_pos (by omega), if_neg ed, if_neg et, a1]
theorem Rel.next {c : Cfg} {s : Ks} {t : RC} (R : Rel c s t) : nxV t c.c = s.nx := by
  by_cases q0 : s.ph = 0
  · obtain ⟨a1, a2, a3, a4⟩ := R.p0 q0
    unfold nxV; rw [if_pos (by rw [R.g, a3]), R.f, a4]
  · by_cases q3 : 3 ≤ s.ph
    · exact (R.p3 q3).symm
    · obtain ⟨a1, a2, a3, a4, a5, a6⟩ := R.p12 (by omega) (by omega)
      unfold nxV; rw [if_pos (by rw [R.g, a3]), R.f, a4]
end K
end Go.Proofs.YtmmpafhfanldbaaDoor
