/-
  The mathematics of a help: what a step makes of it and of the cells, what stays, how many steps are left.
-/
import Derived.Test.YtjbdaejkofkcpaaDoorFLay
namespace Go.Proofs.YtjbdaejkofkcpaaDoor
open Go.RowKit (Grown Hid)
open Go.Deep
namespace K
/-- A help: its node, what comes next (0 tall, 1 next, 2 mark, 3 done), the level, what was seen. -/
structure Hm where
  h : Int
  ph : Nat
  lv : Int
  sn : Int
def tlV (c : Cfg) (t : Int) : Int := (if t < 1 then 1 else if c.h < t then c.h else t) - 1
def Hm.down (s : Hm) : Hm := if s.lv = 0 then ⟨s.h, 3, s.lv, s.sn⟩ else ⟨s.h, 1, s.lv - 1, s.sn⟩
def hX (c : Cfg) (s : Hm) : Int := clV' c (ixV s.h) (6 + s.lv)
def hA (c : Cfg) (cs : List Int) (a : Acc) (s : Hm) : Acc := if s.ph = 0 then acV cs 1 (clV' c (ixV s.h) 4) (plainV s.h) 0 0 else if s.ph = 1 then acV cs 1 (hX c s) (plainV s.h) 0 0 else if s.ph = 2 then acV cs 3 (hX c s) (plainV s.h) s.sn (markV s.sn) else a
def hC (c : Cfg) (cs : List Int) (s : Hm) : List Int := if s.ph = 2 then clV cs 3 (hX c s) s.sn (markV s.sn) else cs
def hN (cnt : Int) (s : Hm) : Int := if s.ph ≤ 2 then cnt + 1 else cnt
def hSw (c : Cfg) (cs : List Int) (s : Hm) : Bool := (acV cs 3 (hX c s) (plainV s.h) s.sn (markV s.sn)).d
def hF (c : Cfg) (cs : List Int) (s : Hm) : Hm :=
  if s.ph = 0 then ⟨s.h, 1, tlV c (fd c cs (ixV s.h) 4), s.sn⟩
  else if s.ph = 1 then (if mkB (rdG cs (hX c s)) = true then (Hm.mk s.h 1 s.lv (rdG cs (hX c s))).down else ⟨s.h, 2, s.lv, rdG cs (hX c s)⟩)
  else if s.ph = 2 then (if hSw c cs s = true then s.down else ⟨s.h, 1, s.lv, s.sn⟩)
  else s
/-- What holds of any help, over any words. -/
structure HI (c : Cfg) (s : Hm) : Prop where
  ph : s.ph ≤ 3
  lv : s.ph = 1 ∨ s.ph = 2 → 0 ≤ s.lv ∧ s.lv < c.h
  sn : isW s.sn
  h : isW s.h
theorem mark_w {x : Int} (h : isW x) : isW (markV x) := by unfold isW at *; unfold markV; omega
theorem mark_mk (x : Int) : mkB (markV x) = true := by unfold mkB markV; simp only [beq_iff_eq]; omega
theorem mark_id {x : Int} (h : mkB x = true) : markV x = x := (markV_of x).1 h
theorem tlV_bd {c : Cfg} (R : Rt c) (t : Int) : 0 ≤ tlV c t ∧ tlV c t < c.h := by
  have := R.h0
  unfold tlV; split
  · omega
  · split <;> omega
theorem down_hi {c : Cfg} {s : Hm} (h : HI c s) (hl : 0 ≤ s.lv ∧ s.lv < c.h) : HI c s.down := by
  unfold Hm.down; split
  · exact ⟨Nat.le_refl _, fun h => by rcases h with h | h <;> (have h' : (3 : Nat) = _ := h; omega), h.sn, h.h⟩
  · exact ⟨by show 1 ≤ 3; omega, fun _ => ⟨by show 0 ≤ s.lv - 1; omega, by show s.lv - 1 < c.h; omega⟩, h.sn, h.h⟩
theorem HI.step {c : Cfg} {cs : List Int} {s : Hm} (R : Rt c) (hw : Wds cs) (h : HI c s) : HI c (hF c cs s) := by
  unfold hF; split
  · exact ⟨by show 1 ≤ 3; omega, fun _ => tlV_bd R _, h.sn, h.h⟩
  · split
    · rename_i h1
      have l := h.lv (Or.inl h1)
      split
      · exact down_hi (s := ⟨s.h, 1, s.lv, rdG cs (hX c s)⟩) ⟨by show 1 ≤ 3; omega, fun _ => l, rd_word hw _, h.h⟩ l
      · exact ⟨by show 2 ≤ 3; omega, fun _ => l, rd_word hw _, h.h⟩
    · split
      · rename_i h2
        have l := h.lv (Or.inr h2)
        split
        · exact down_hi h l
        · exact ⟨by show 1 ≤ 3; omega, fun _ => l, h.sn, h.h⟩
      · exact h
theorem hC_wd {c : Cfg} {cs : List Int} {s : Hm} (hw : Wds cs) (h : HI c s) : Wds (hC c cs s) := by
  unfold hC; split
  · exact wds_clV hw 3 _ _ (by decide) (mark_w h.sn)
  · exact hw
theorem hC_len (c : Cfg) (cs : List Int) (s : Hm) : (hC c cs s).length = cs.length := by
  unfold hC; split
  · exact clV_len _ _ _ _ _
  · rfl
theorem hF_h (c : Cfg) (cs : List Int) (s : Hm) : (hF c cs s).h = s.h := by
  unfold hF Hm.down
  split
  · rfl
  · split
    · split
      · split <;> rfl
      · rfl
    · split
      · split
        · split <;> rfl
        · rfl
      · rfl
theorem hF_done {c : Cfg} {cs : List Int} {s : Hm} (h : s.ph = 3) : hF c cs s = s ∧ hC c cs s = cs := by
  refine ⟨?_, ?_⟩
  · unfold hF; rw [if_neg (by omega), if_neg (by omega), if_neg (by omega)]
  · unfold hC; rw [if_neg (by omega)]
theorem hN_no {cnt : Int} {s : Hm} (h : s.ph ≤ 3) (h3 : ¬ s.ph = 3) : hN cnt s = cnt + 1 := if_pos (by omega)
/-- The words, and the node in them: so many levels. -/
structure En (c : Cfg) (T i : Int) (cs : List Int) : Prop where
  hr : riB c = true
  ln : (cs.length : Int) = lnV c
  i0 : 0 ≤ i
  i1 : i ≤ c.c
  t0 : 1 ≤ T
  t1 : T ≤ c.h
  tl : tlV c (fd c cs i 4) = T - 1
theorem En.has {c : Cfg} {T i : Int} {cs : List Int} (E : En c T i cs) {L : Int} (h0 : 0 ≤ L) (h1 : L < T) : inF c i (6 + L) := ⟨E.hr, E.i0, E.i1, by omega, by have := E.t1; omega⟩
theorem En.in4 {c : Cfg} {T i : Int} {cs : List Int} (E : En c T i cs) : inF c i 4 := ⟨E.hr, E.i0, E.i1, by omega, by have := E.t1; have := E.t0; omega⟩
theorem En.of {c : Cfg} {i : Int} {cs : List Int} (hr : riB c = true) (ln : (cs.length : Int) = lnV c) (i0 : 0 ≤ i) (i1 : i ≤ c.c) : En c (tlV c (fd c cs i 4) + 1) i cs := by
  have := tlV_bd (riB_true.1 hr) (fd c cs i 4)
  exact ⟨hr, ln, i0, i1, by omega, by omega, by omega⟩
/-- All that was done above the level. -/
structure HU (c : Cfg) (T i : Int) (cs : List Int) (s : Hm) : Prop where
  ix : ixV s.h = i
  ph : s.ph ≤ 3
  lv : s.ph = 1 ∨ s.ph = 2 → 0 ≤ s.lv ∧ s.lv < T
  up : s.ph = 1 ∨ s.ph = 2 → ∀ L, s.lv < L → L < T → mkB (fd c cs i (6 + L)) = true
  dn : s.ph = 3 → ∀ L, 0 ≤ L → L < T → mkB (fd c cs i (6 + L)) = true
theorem swap_d {cs : List Int} {x : Int} (hx : hasC cs x) (via old v : Int) : (acV cs 3 x via old v).d = decide (rdG cs x = old) := by
  rw [rdG_eq, if_pos hx]
  unfold acV; rw [if_pos hx]
  show (!((3 : Int) == 3) || cs.getD x.toNat 0 == old) = _
  by_cases h : cs.getD x.toNat 0 = old
  · rw [h]; simp
  · rw [decide_eq_false h]; simpa using h
theorem swap_rd {cs : List Int} {x : Int} (hx : hasC cs x) (old v y : Int) : rdG (clV cs 3 x old v) y = if y = x ∧ rdG cs x = old then v else rdG cs y := by
  by_cases ho : rdG cs x = old
  · rw [(rd_swap cs x y old v hx ho).1]
    by_cases hy : y = x
    · rw [if_pos hy, if_pos ⟨hy, ho⟩]
    · rw [if_neg hy, if_neg (fun h => hy h.1)]
  · have hb : ¬ cs.getD x.toNat 0 = old := by rwa [rdG_eq, if_pos hx] at ho
    have e : clV cs 3 x old v = cs := by
      unfold clV; rw [if_pos hx]
      have : bhV 3 (cs.getD x.toNat 0) old v = cs.getD x.toNat 0 := by
        unfold bhV; rw [if_neg (by omega), if_pos rfl, if_neg hb]
      rw [this]
      have hl : x.toNat < cs.length := by unfold hasC at hx; omega
      rw [List.getD_eq_getElem?_getD, List.getElem?_eq_getElem hl]; simp
    rw [e, if_neg (fun h => ho h.2)]
theorem En.len {c : Cfg} {T i : Int} {cs ds : List Int} (E : En c T i cs) (hl : ds.length = cs.length) (h4 : fd c ds i 4 = fd c cs i 4) : En c T i ds :=
  ⟨E.hr, by rw [hl]; exact E.ln, E.i0, E.i1, E.t0, E.t1, by rw [h4]; exact E.tl⟩
/-- Marks stay. -/
def Mo (c : Cfg) (T i : Int) (cs ds : List Int) : Prop := ∀ L, 0 ≤ L → L < T → mkB (fd c cs i (6 + L)) = true → mkB (fd c ds i (6 + L)) = true
theorem HU.mo {c : Cfg} {T i : Int} {cs ds : List Int} {s : Hm} (h : HU c T i cs s) (m : Mo c T i cs ds) : HU c T i ds s :=
  ⟨h.ix, h.ph, h.lv, fun a L l0 l1 => m L (by have := (h.lv a).1; omega) l1 (h.up a L l0 l1), fun a L l0 l1 => m L l0 l1 (h.dn a L l0 l1)⟩
theorem hX_eq {c : Cfg} {T i : Int} {cs : List Int} {s : Hm} (h : HU c T i cs s) : hX c s = clV' c i (6 + s.lv) := by unfold hX; rw [h.ix]
theorem hC_rd {c : Cfg} {T i : Int} {cs : List Int} {s : Hm} (E : En c T i cs) (h : HU c T i cs s) (y : Int) : rdG (hC c cs s) y = if s.ph = 2 ∧ y = clV' c i (6 + s.lv) ∧ rdG cs (clV' c i (6 + s.lv)) = s.sn then markV s.sn else rdG cs y := by
  unfold hC
  by_cases h2 : s.ph = 2
  · rw [if_pos h2, hX_eq h, swap_rd (cl_has E.ln (E.has (h.lv (Or.inr h2)).1 (h.lv (Or.inr h2)).2))]
    by_cases hy : y = clV' c i (6 + s.lv) ∧ rdG cs (clV' c i (6 + s.lv)) = s.sn
    · rw [if_pos hy, if_pos ⟨h2, hy⟩]
    · rw [if_neg hy, if_neg (fun z => hy z.2)]
  · rw [if_neg h2, if_neg (fun z => h2 z.1)]
theorem hC_mo {c : Cfg} {T i : Int} {cs : List Int} {s : Hm} (E : En c T i cs) (h : HU c T i cs s) : Mo c T i cs (hC c cs s) := by
  intro L l0 l1 hm
  unfold fd at hm ⊢
  rw [hC_rd E h]
  split
  · exact mark_mk _
  · exact hm
theorem hC_en {c : Cfg} {T i : Int} {cs : List Int} {s : Hm} (E : En c T i cs) (h : HU c T i cs s) : En c T i (hC c cs s) := by
  refine E.len (hC_len _ _ _) ?_
  unfold fd
  rw [hC_rd E h, if_neg]
  rintro ⟨h2, h3, _⟩
  have l := h.lv (Or.inr h2)
  have := (cl_inj E.in4 (E.has l.1 l.2) h3).2
  omega
theorem HU.down {c : Cfg} {T i : Int} {cs : List Int} {s : Hm} (ix : ixV s.h = i) (l : 0 ≤ s.lv ∧ s.lv < T) (up : ∀ L, s.lv < L → L < T → mkB (fd c cs i (6 + L)) = true) (at_ : mkB (fd c cs i (6 + s.lv)) = true) : HU c T i cs s.down := by
  have all : ∀ L, s.lv ≤ L → L < T → mkB (fd c cs i (6 + L)) = true := fun L a b => by
    by_cases e : L = s.lv
    · rw [e]; exact at_
    · exact up L (by omega) b
  unfold Hm.down; split
  · rename_i h0
    exact ⟨ix, Nat.le_refl _, fun h => by rcases h with h | h <;> (have h' : (3 : Nat) = _ := h; omega), fun h => by rcases h with h | h <;> (have h' : (3 : Nat) = _ := h; omega), fun _ L a b => all L (by omega) b⟩
  · exact ⟨ix, by show 1 ≤ 3; omega, fun _ => ⟨by show 0 ≤ s.lv - 1; omega, by show s.lv - 1 < T; omega⟩, fun _ L a b => all L (by have a' : s.lv - 1 < L := a; omega) b, fun h => by have h' : (1 : Nat) = 3 := h; omega⟩
/-- How many steps are left, alone. -/
def hmu (c : Cfg) (T i : Int) (cs : List Int) (s : Hm) : Int := if s.ph = 0 then 2 * T + 1 else if s.ph = 1 then 2 * s.lv + 2 else if s.ph = 2 then (if fd c cs i (6 + s.lv) = s.sn then 2 * s.lv + 1 else 2 * s.lv + 3) else 0
theorem hmu_down {c : Cfg} {T i : Int} {cs : List Int} {s : Hm} (_h : 0 ≤ s.lv) : hmu c T i cs s.down ≤ 2 * s.lv := by
  unfold Hm.down; split
  · rename_i h0
    show (if (3 : Nat) = 0 then _ else if (3 : Nat) = 1 then _ else if (3 : Nat) = 2 then _ else (0 : Int)) ≤ _
    simp; omega
  · show (if (1 : Nat) = 0 then _ else if (1 : Nat) = 1 then 2 * (s.lv - 1) + 2 else _) ≤ _
    simp; omega
theorem hmu_bd {c : Cfg} {T i : Int} {cs : List Int} {s : Hm} (h : HU c T i cs s) (t0 : 1 ≤ T) : 0 ≤ hmu c T i cs s ∧ hmu c T i cs s ≤ 2 * T + 1 := by
  unfold hmu
  split
  · omega
  · split
    · rename_i h1; have := h.lv (Or.inl h1); omega
    · split
      · rename_i h2; have := h.lv (Or.inr h2); split <;> omega
      · omega
theorem hmu_pos {c : Cfg} {T i : Int} {cs : List Int} {s : Hm} (h : HU c T i cs s) (t0 : 1 ≤ T) (h3 : ¬ s.ph = 3) : 1 ≤ hmu c T i cs s := by
  unfold hmu
  have := h.ph
  split
  · omega
  · split
    · rename_i h1; have := h.lv (Or.inl h1); omega
    · split
      · rename_i h2; have := h.lv (Or.inr h2); split <;> omega
      · omega
theorem HU.step {c : Cfg} {T i : Int} {cs : List Int} {s : Hm} (E : En c T i cs) (h : HU c T i cs s) : HU c T i (hC c cs s) (hF c cs s) ∧ (¬ s.ph = 3 → hmu c T i (hC c cs s) (hF c cs s) + 1 ≤ hmu c T i cs s) := by
  have m := hC_mo E h
  rcases (by have := h.ph; omega : s.ph = 0 ∨ s.ph = 1 ∨ s.ph = 2 ∨ s.ph = 3) with e | e | e | e
  · have eF : hF c cs s = ⟨s.h, 1, T - 1, s.sn⟩ := by unfold hF; rw [if_pos e, h.ix, E.tl]
    have eC : hC c cs s = cs := if_neg (by omega)
    rw [eF, eC]
    refine ⟨⟨h.ix, by show 1 ≤ 3; omega, fun _ => ⟨by show 0 ≤ T - 1; have := E.t0; omega, by show T - 1 < T; omega⟩, fun _ L a b => by have a' : T - 1 < L := a; omega, fun z => by have z' : (1 : Nat) = 3 := z; omega⟩, fun _ => ?_⟩
    have e0 : hmu c T i cs s = 2 * T + 1 := if_pos e
    rw [e0]
    show (if (1 : Nat) = 0 then _ else if (1 : Nat) = 1 then 2 * (T - 1) + 2 else _) + 1 ≤ _
    simp; omega
  · have l := h.lv (Or.inl e)
    have eC : hC c cs s = cs := if_neg (by omega)
    have eX : rdG cs (hX c s) = fd c cs i (6 + s.lv) := by rw [hX_eq h]; rfl
    have e0 : hmu c T i cs s = 2 * s.lv + 2 := by unfold hmu; rw [if_neg (by omega), if_pos e]
    rw [eC, e0]
    by_cases hm : mkB (fd c cs i (6 + s.lv)) = true
    · have eF : hF c cs s = (Hm.mk s.h 1 s.lv (fd c cs i (6 + s.lv))).down := by unfold hF; rw [if_neg (by omega), if_pos e, eX, if_pos hm]
      rw [eF]
      refine ⟨HU.down (s := ⟨s.h, 1, s.lv, fd c cs i (6 + s.lv)⟩) h.ix l (fun L a b => h.up (Or.inl e) L a b) hm, fun _ => ?_⟩
      have := hmu_down (c := c) (T := T) (i := i) (cs := cs) (s := ⟨s.h, 1, s.lv, fd c cs i (6 + s.lv)⟩) l.1
      have this' : hmu c T i cs (Hm.mk s.h 1 s.lv (fd c cs i (6 + s.lv))).down ≤ 2 * s.lv := this
      omega
    · have eF : hF c cs s = ⟨s.h, 2, s.lv, fd c cs i (6 + s.lv)⟩ := by unfold hF; rw [if_neg (by omega), if_pos e, eX, if_neg hm]
      rw [eF]
      refine ⟨⟨h.ix, by show 2 ≤ 3; omega, fun _ => l, fun _ L a b => h.up (Or.inl e) L a b, fun z => by have z' : (2 : Nat) = 3 := z; omega⟩, fun _ => ?_⟩
      have : hmu c T i cs ⟨s.h, 2, s.lv, fd c cs i (6 + s.lv)⟩ = 2 * s.lv + 1 := by
        unfold hmu; rw [if_neg (by show ¬ (2 : Nat) = 0; omega), if_neg (by show ¬ (2 : Nat) = 1; omega), if_pos rfl, if_pos rfl]
      omega
  · have l := h.lv (Or.inr e)
    have hh := cl_has E.ln (E.has l.1 l.2)
    have eS : hSw c cs s = decide (fd c cs i (6 + s.lv) = s.sn) := by unfold hSw; rw [hX_eq h, swap_d hh]; rfl
    by_cases hs : fd c cs i (6 + s.lv) = s.sn
    · have eF : hF c cs s = s.down := by unfold hF; rw [if_neg (by omega), if_neg (by omega), if_pos e, eS, if_pos (decide_eq_true hs)]
      have e0 : hmu c T i cs s = 2 * s.lv + 1 := by unfold hmu; rw [if_neg (by omega), if_neg (by omega), if_pos e, if_pos hs]
      have at_ : mkB (fd c (hC c cs s) i (6 + s.lv)) = true := by
        unfold fd; rw [hC_rd E h, if_pos ⟨e, rfl, hs⟩]; exact mark_mk _
      rw [eF, e0]
      refine ⟨HU.down h.ix l (fun L a b => m L (by omega) b (h.up (Or.inr e) L a b)) at_, fun _ => ?_⟩
      have := hmu_down (c := c) (T := T) (i := i) (cs := hC c cs s) (s := s) l.1
      omega
    · have eF : hF c cs s = ⟨s.h, 1, s.lv, s.sn⟩ := by unfold hF; rw [if_neg (by omega), if_neg (by omega), if_pos e, eS, if_neg (by rw [decide_eq_true_eq]; exact hs)]
      have e0 : hmu c T i cs s = 2 * s.lv + 3 := by unfold hmu; rw [if_neg (by omega), if_neg (by omega), if_pos e, if_neg hs]
      rw [eF, e0]
      refine ⟨⟨h.ix, by show 1 ≤ 3; omega, fun _ => l, fun _ L a b => m L (by have a' : s.lv < L := a; omega) b (h.up (Or.inr e) L a b), fun z => by have z' : (1 : Nat) = 3 := z; omega⟩, fun _ => ?_⟩
      have : hmu c T i (hC c cs s) ⟨s.h, 1, s.lv, s.sn⟩ = 2 * s.lv + 2 := by
        unfold hmu; rw [if_neg (by show ¬ (1 : Nat) = 0; omega), if_pos rfl]
      omega
  · rw [(hF_done e).1, (hF_done e).2]
    exact ⟨h, fun z => absurd e z⟩
theorem HU.start (c : Cfg) (T : Int) (cs : List Int) (h : Int) : HU c T (ixV h) cs ⟨h, 0, 0, 0⟩ :=
  ⟨rfl, Nat.zero_le _, fun z => by rcases z with z | z <;> (have z' : (0 : Nat) = _ := z; omega), fun z => by rcases z with z | z <;> (have z' : (0 : Nat) = _ := z; omega), fun z => by have z' : (0 : Nat) = 3 := z; omega⟩
theorem HI.start {c : Cfg} {h : Int} (hh : isW h) : HI c ⟨h, 0, 0, 0⟩ :=
  ⟨Nat.zero_le _, fun z => by rcases z with z | z <;> (have z' : (0 : Nat) = _ := z; omega), by unfold isW; show (0 : Int) ≤ 0 ∧ (0 : Int) < 18446744073709551616; decide, hh⟩
/-- The cells, against what they were: the node's levels as they were, or with the mark; all else as it was. -/
structure CI (c : Cfg) (T i : Int) (os cs : List Int) : Prop where
  ln : cs.length = os.length
  rd : ∀ X, rdG cs X = rdG os X ∨ ∃ L, 0 ≤ L ∧ L < T ∧ X = clV' c i (6 + L) ∧ rdG cs X = markV (rdG os X)
def HS (c : Cfg) (i : Int) (os : List Int) (s : Hm) : Prop := s.ph = 2 → s.sn = fd c os i (6 + s.lv) ∧ mkB s.sn = false
theorem HS.start (c : Cfg) (i : Int) (os : List Int) (h : Int) : HS c i os ⟨h, 0, 0, 0⟩ := fun z => by have z' : (0 : Nat) = 2 := z; omega
theorem CI.refl (c : Cfg) (T i : Int) (os : List Int) : CI c T i os os := ⟨rfl, fun _ => Or.inl rfl⟩
theorem HS.down {c : Cfg} {i : Int} {os : List Int} {s : Hm} : HS c i os s.down := by
  unfold Hm.down; split
  · intro z; have z' : (3 : Nat) = 2 := z; omega
  · intro z; have z' : (1 : Nat) = 2 := z; omega
theorem CI.step {c : Cfg} {T i : Int} {os cs : List Int} {s : Hm} (E : En c T i cs) (h : HU c T i cs s) (I : CI c T i os cs) (S : HS c i os s) : CI c T i os (hC c cs s) ∧ HS c i os (hF c cs s) := by
  refine ⟨⟨(hC_len _ _ _).trans I.ln, fun X => ?_⟩, ?_⟩
  · rw [hC_rd E h]
    split
    · rename_i z
      obtain ⟨z2, z3, z4⟩ := z
      have l := h.lv (Or.inr z2)
      obtain ⟨s1, s2⟩ := S z2
      refine Or.inr ⟨s.lv, l.1, l.2, z3, ?_⟩
      rw [z3, s1]; rfl
    · exact I.rd X
  · rcases (by have := h.ph; omega : s.ph = 0 ∨ s.ph = 1 ∨ s.ph = 2 ∨ s.ph = 3) with e | e | e | e
    · have eF : hF c cs s = ⟨s.h, 1, T - 1, s.sn⟩ := by unfold hF; rw [if_pos e, h.ix, E.tl]
      rw [eF]; intro z; have z' : (1 : Nat) = 2 := z; omega
    · have eX : rdG cs (hX c s) = fd c cs i (6 + s.lv) := by rw [hX_eq h]; rfl
      by_cases hm : mkB (fd c cs i (6 + s.lv)) = true
      · have eF : hF c cs s = (Hm.mk s.h 1 s.lv (fd c cs i (6 + s.lv))).down := by unfold hF; rw [if_neg (by omega), if_pos e, eX, if_pos hm]
        rw [eF]; exact HS.down
      · have eF : hF c cs s = ⟨s.h, 2, s.lv, fd c cs i (6 + s.lv)⟩ := by unfold hF; rw [if_neg (by omega), if_pos e, eX, if_neg hm]
        rw [eF]
        intro _
        refine ⟨?_, by simpa using hm⟩
        show fd c cs i (6 + s.lv) = fd c os i (6 + s.lv)
        rcases I.rd (clV' c i (6 + s.lv)) with q | ⟨L, _, _, _, q⟩
        · exact q
        · exact absurd (by unfold fd; rw [q]; exact mark_mk _) hm
    · by_cases hs : hSw c cs s = true
      · have eF : hF c cs s = s.down := by unfold hF; rw [if_neg (by omega), if_neg (by omega), if_pos e, if_pos hs]
        rw [eF]; exact HS.down
      · have eF : hF c cs s = ⟨s.h, 1, s.lv, s.sn⟩ := by unfold hF; rw [if_neg (by omega), if_neg (by omega), if_pos e, if_neg hs]
        rw [eF]; intro z; have z' : (1 : Nat) = 2 := z; omega
    · rw [(hF_done e).1]; exact S
theorem rd_mark_id {x y : Int} (h : x = y ∨ x = markV y) (hm : mkB x = true) : x = markV y := by
  rcases h with h | h
  · rw [h] at hm ⊢; exact (mark_id hm).symm
  · exact h
/-- The end: the levels have the mark, all else is as it was. -/
theorem CI.fin {c : Cfg} {T i : Int} {os cs : List Int} {s : Hm} (h : HU c T i cs s) (h3 : s.ph = 3) (I : CI c T i os cs) (X : Int) :
    ((∃ L, 0 ≤ L ∧ L < T ∧ X = clV' c i (6 + L)) ∧ rdG cs X = markV (rdG os X)) ∨ ((¬ ∃ L, 0 ≤ L ∧ L < T ∧ X = clV' c i (6 + L)) ∧ rdG cs X = rdG os X) := by
  by_cases e : ∃ L, 0 ≤ L ∧ L < T ∧ X = clV' c i (6 + L)
  · refine Or.inl ⟨e, ?_⟩
    obtain ⟨L, l0, l1, rfl⟩ := e
    refine rd_mark_id ?_ (h.dn h3 L l0 l1)
    rcases I.rd (clV' c i (6 + L)) with q | ⟨_, _, _, _, q⟩
    · exact Or.inl q
    · exact Or.inr q
  · refine Or.inr ⟨e, ?_⟩
    rcases I.rd X with q | ⟨L, l0, l1, l2, _⟩
    · exact q
    · exact absurd ⟨L, l0, l1, l2⟩ e
/-- Two ends are the same. -/
theorem CI.same {c : Cfg} {T i : Int} {os cs ds : List Int} {s t : Hm} (h : HU c T i cs s) (h3 : s.ph = 3) (I : CI c T i os cs) (g : HU c T i ds t) (g3 : t.ph = 3) (J : CI c T i os ds) : cs = ds := by
  have e : ∀ X, rdG cs X = rdG ds X := fun X => by
    rcases CI.fin h h3 I X with ⟨a, b⟩ | ⟨a, b⟩ <;> rcases CI.fin g g3 J X with ⟨a', b'⟩ | ⟨a', b'⟩
    · rw [b, b']
    · exact absurd a a'
    · exact absurd a' a
    · rw [b, b']
  refine List.ext_getElem (I.ln.trans J.ln.symm) fun n h1 h2 => ?_
  have := e n
  rw [rdG_eq, rdG_eq, if_pos (by unfold hasC; omega), if_pos (by unfold hasC; omega)] at this
  simpa [List.getD_eq_getElem?_getD, h1, h2] using this
/-- A run, alone. -/
def hx (c : Cfg) : Nat → Hm × List Int → Hm × List Int
  | 0, x => x
  | n + 1, x => (hF c (hx c n x).2 (hx c n x).1, hC c (hx c n x).2 (hx c n x).1)
theorem hx_hu {c : Cfg} {T i : Int} {cs : List Int} {s : Hm} (E : En c T i cs) (h : HU c T i cs s) : ∀ n, En c T i (hx c n (s, cs)).2 ∧ HU c T i (hx c n (s, cs)).2 (hx c n (s, cs)).1 ∧ ∀ t, HU c T i cs t → HU c T i (hx c n (s, cs)).2 t
  | 0 => ⟨E, h, fun _ h => h⟩
  | n + 1 => by
    obtain ⟨e, k, f⟩ := hx_hu E h n
    exact ⟨hC_en e k, (k.step e).1, fun t ht => (f t ht).mo (hC_mo e k)⟩
theorem hx_hmu {c : Cfg} {T i : Int} {cs : List Int} {s : Hm} (E : En c T i cs) (h : HU c T i cs s) : ∀ n, (∀ j, j < n → ¬ (hx c j (s, cs)).1.ph = 3) → hmu c T i (hx c n (s, cs)).2 (hx c n (s, cs)).1 + n ≤ hmu c T i cs s
  | 0, _ => by show hmu c T i cs s + ((0 : Nat) : Int) ≤ _; omega
  | n + 1, hn => by
    obtain ⟨e, k, _⟩ := hx_hu E h n
    have ih := hx_hmu E h n (fun j hj => hn j (by omega))
    have st := (k.step e).2 (hn n (by omega))
    show hmu c T i (hC c _ _) (hF c _ _) + ((n + 1 : Nat) : Int) ≤ _
    omega
theorem hx_ci {c : Cfg} {T i : Int} {os cs : List Int} {s : Hm} (E : En c T i cs) (h : HU c T i cs s) (I : CI c T i os cs) (S : HS c i os s) : ∀ n, CI c T i os (hx c n (s, cs)).2 ∧ HS c i os (hx c n (s, cs)).1
  | 0 => ⟨I, S⟩
  | n + 1 => by
    obtain ⟨e, k, _⟩ := hx_hu E h n
    obtain ⟨a, b⟩ := hx_ci E h I S n
    exact CI.step e k a b
/-- Alone it ends, within so many steps. -/
theorem hx_end {c : Cfg} {T i : Int} {cs : List Int} {s : Hm} (E : En c T i cs) (h : HU c T i cs s) {n : Nat} (hn : ∀ j, j < n → ¬ (hx c j (s, cs)).1.ph = 3) (he : (hx c n (s, cs)).1.ph = 3 ∨ n = 100) : (hx c n (s, cs)).1.ph = 3 ∧ (n : Int) ≤ hmu c T i cs s ∧ (n : Int) ≤ 13 := by
  have b := hmu_bd h E.t0
  have R := riB_true.1 E.hr
  have t6 : T ≤ 6 := by have := E.t1; have := R.h1; omega
  have m := hx_hmu E h n hn
  obtain ⟨e, k, _⟩ := hx_hu E h n
  have b2 := hmu_bd k e.t0
  refine ⟨?_, by omega, by omega⟩
  rcases he with he | he
  · exact he
  · omega
/-- Of a node that has all marks: a step a level, and one; nothing is changed. -/
def nu (T : Int) (s : Hm) : Int := if s.ph = 0 then T + 1 else if s.ph = 1 then s.lv + 1 else 0
theorem all_step {c : Cfg} {T i : Int} {cs : List Int} {s : Hm} (E : En c T i cs) (h : HU c T i cs s) (all : ∀ L, 0 ≤ L → L < T → mkB (fd c cs i (6 + L)) = true) (h2 : ¬ s.ph = 2) (h3 : ¬ s.ph = 3) : hC c cs s = cs ∧ ¬ (hF c cs s).ph = 2 ∧ nu T (hF c cs s) + 1 = nu T s := by
  rcases (by have := h.ph; omega : s.ph = 0 ∨ s.ph = 1) with e | e
  · have eF : hF c cs s = ⟨s.h, 1, T - 1, s.sn⟩ := by unfold hF; rw [if_pos e, h.ix, E.tl]
    rw [eF]
    refine ⟨if_neg (by omega), fun z => by have z' : (1 : Nat) = 2 := z; omega, ?_⟩
    unfold nu
    rw [if_neg (by show ¬ (1 : Nat) = 0; omega), if_pos rfl, if_pos e]
    show T - 1 + 1 + 1 = _; omega
  · have l := h.lv (Or.inl e)
    have eX : rdG cs (hX c s) = fd c cs i (6 + s.lv) := by rw [hX_eq h]; rfl
    have eF : hF c cs s = (Hm.mk s.h 1 s.lv (fd c cs i (6 + s.lv))).down := by unfold hF; rw [if_neg (by omega), if_pos e, eX, if_pos (all _ l.1 l.2)]
    rw [eF]
    have e0 : nu T s = s.lv + 1 := by unfold nu; rw [if_neg (by omega), if_pos e]
    refine ⟨if_neg (by omega), ?_, ?_⟩
    · unfold Hm.down; split
      · intro z; have z' : (3 : Nat) = 2 := z; omega
      · intro z; have z' : (1 : Nat) = 2 := z; omega
    · rw [e0]
      unfold Hm.down; split
      · rename_i q
        have q' : s.lv = 0 := q
        unfold nu
        rw [if_neg (by show ¬ (3 : Nat) = 0; omega), if_neg (by show ¬ (3 : Nat) = 1; omega)]; omega
      · unfold nu
        rw [if_neg (by show ¬ (1 : Nat) = 0; omega), if_pos rfl]
        show s.lv - 1 + 1 + 1 = _; omega
theorem hx_all {c : Cfg} {T i : Int} {cs : List Int} {s : Hm} (E : En c T i cs) (h : HU c T i cs s) (all : ∀ L, 0 ≤ L → L < T → mkB (fd c cs i (6 + L)) = true) (h2 : ¬ s.ph = 2) : ∀ n, (∀ j, j < n → ¬ (hx c j (s, cs)).1.ph = 3) → (hx c n (s, cs)).2 = cs ∧ ¬ (hx c n (s, cs)).1.ph = 2 ∧ nu T (hx c n (s, cs)).1 + n = nu T s
  | 0, _ => ⟨rfl, h2, by show nu T s + ((0 : Nat) : Int) = _; omega⟩
  | n + 1, hn => by
    obtain ⟨e, k, _⟩ := hx_hu E h n
    obtain ⟨a, b, d⟩ := hx_all E h all h2 n (fun j hj => hn j (by omega))
    have st := all_step (by rw [a] at e ⊢; exact e) k (by rw [a]; exact all) b (hn n (by omega))
    refine ⟨st.1.trans a, st.2.1, ?_⟩
    have := st.2.2
    show nu T (hF c _ _) + ((n + 1 : Nat) : Int) = _
    omega
end K
end Go.Proofs.YtjbdaejkofkcpaaDoor
