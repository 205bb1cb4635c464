/-
  The mathematics of a help: what a step makes of it and of the cells, what stays, how many steps are left.
  The contracts of package help: a help's block, and what its calls make of it.
  The words, made behind w0, and a help's steps over them; a help that goes on to its end.
-/
import Derived.Test.YtjbdaejkofkcpaaDoorFLay
import Derived.Test.YtjbdaejkofkcpaaDoorMMem
import Derived.Test.YtjbdaejkofkcpaaDoorRw
import Derived.Deep.RegionHeld3
import Derived.Laws.EntriesVeiled
namespace Go.Proofs.YtjbdaejkofkcpaaDoor
open Go.RowKit (Grown Hid)
open Go.Deep
namespace K
/-- A help: its node, what comes next (0 tall, 1 next, 2 mark, 3 done), the level, what was seen. -/
structure Hm where
  h : Int
  ph : Nat
  lv : Int
  sn : Int
def tlV (c : Cfg) (t : Int) : Int := (if t < 1 then 1 else if c.h < t then c.h else t) - 1
def Hm.down (s : Hm) : Hm := if s.lv = 0 then ⟨s.h, 3, s.lv, s.sn⟩ else ⟨s.h, 1, s.lv - 1, s.sn⟩
def hX (c : Cfg) (s : Hm) : Int := clV' c (ixV s.h) (6 + s.lv)
def hA (c : Cfg) (cs : List Int) (a : Acc) (s : Hm) : Acc := if s.ph = 0 then acV cs 1 (clV' c (ixV s.h) 4) (plainV s.h) 0 0 else if s.ph = 1 then acV cs 1 (hX c s) (plainV s.h) 0 0 else if s.ph = 2 then acV cs 3 (hX c s) (plainV s.h) s.sn (markV s.sn) else a
def hC (c : Cfg) (cs : List Int) (s : Hm) : List Int := if s.ph = 2 then clV cs 3 (hX c s) s.sn (markV s.sn) else cs
def hN (cnt : Int) (s : Hm) : Int := if s.ph ≤ 2 then cnt + 1 else cnt
def hSw (c : Cfg) (cs : List Int) (s : Hm) : Bool := (acV cs 3 (hX c s) (plainV s.h) s.sn (markV s.sn)).d
def hF (c : Cfg) (cs : List Int) (s : Hm) : Hm :=
  if s.ph = 0 then ⟨s.h, 1, tlV c (fd c cs (ixV s.h) 4), s.sn⟩
  else if s.ph = 1 then (if mkB (rdG cs (hX c s)) = true then (Hm.mk s.h 1 s.lv (rdG cs (hX c s))).down else ⟨s.h, 2, s.lv, rdG cs (hX c s)⟩)
  else if s.ph = 2 then (if hSw c cs s = true then s.down else ⟨s.h, 1, s.lv, s.sn⟩)
  else s
/-- What holds of any help, over any words. -/
structure HI (c : Cfg) (s : Hm) : Prop where
  ph : s.ph ≤ 3
  lv : s.ph = 1 ∨ s.ph = 2 → 0 ≤ s.lv ∧ s.lv < c.h
  sn : isW s.sn
  h : isW s.h
theorem mark_w {x : Int} (h : isW x) : isW (markV x) := by unfold isW at *; unfold markV; omega
theorem mark_mk (x : Int) : mkB (markV x) = true := by unfold mkB markV; simp only [beq_iff_eq]; omega
theorem mark_id {x : Int} (h : mkB x = true) : markV x = x := (markV_of x).1 h
theorem tlV_bd {c : Cfg} (R : Rt c) (t : Int) : 0 ≤ tlV c t ∧ tlV c t < c.h := by
  have := R.h0
  unfold tlV; split
  · omega
  · split <;> omega
theorem down_hi {c : Cfg} {s : Hm} (h : HI c s) (hl : 0 ≤ s.lv ∧ s.lv < c.h) : HI c s.down := by
  unfold Hm.down; split
  · exact ⟨Nat.le_refl _, fun h => by rcases h with h | h <;> (have h' : (3 : Nat) = _ := h; omega), h.sn, h.h⟩
  · exact ⟨by show 1 ≤ 3; omega, fun _ => ⟨by show 0 ≤ s.lv - 1; omega, by show s.lv - 1 < c.h; omega⟩, h.sn, h.h⟩
theorem HI.step {c : Cfg} {cs : List Int} {s : Hm} (R : Rt c) (hw : Wds cs) (h : HI c s) : HI c (hF c cs s) := by
  unfold hF; split
  · exact ⟨by show 1 ≤ 3; omega, fun _ => tlV_bd R _, h.sn, h.h⟩
  · split
    · rename_i h1
      have l := h.lv (Or.inl h1)
      split
      · exact down_hi (s := ⟨s.h, 1, s.lv, rdG cs (hX c s)⟩) ⟨by show 1 ≤ 3; omega, fun _ => l, rd_word hw _, h.h⟩ l
      · exact ⟨by show 2 ≤ 3; omega, fun _ => l, rd_word hw _, h.h⟩
    · split
      · rename_i h2
        have l := h.lv (Or.inr h2)
        split
        · exact down_hi h l
        · exact ⟨by show 1 ≤ 3; omega, fun _ => l, h.sn, h.h⟩
      · exact h
theorem hC_wd {c : Cfg} {cs : List Int} {s : Hm} (hw : Wds cs) (h : HI c s) : Wds (hC c cs s) := by
  unfold hC; split
  · exact wds_clV hw 3 _ _ (by decide) (mark_w h.sn)
  · exact hw
theorem hC_len (c : Cfg) (cs : List Int) (s : Hm) : (hC c cs s).length = cs.length := by
  unfold hC; split
  · exact clV_len _ _ _ _ _
  · rfl
theorem hF_h (c : Cfg) (cs : List Int) (s : Hm) : (hF c cs s).h = s.h := by
  unfold hF Hm.down
  split
  · rfl
  · split
    · split
      · split <;> rfl
      · rfl
    · split
      · split
        · split <;> rfl
        · rfl
      · rfl
theorem hF_done {c : Cfg} {cs : List Int} {s : Hm} (h : s.ph = 3) : hF c cs s = s ∧ hC c cs s = cs := by
  refine ⟨?_, ?_⟩
  · unfold hF; rw [if_neg (by omega), if_neg (by omega), if_neg (by omega)]
  · unfold hC; rw [if_neg (by omega)]
theorem hN_no {cnt : Int} {s : Hm} (h : s.ph ≤ 3) (h3 : ¬ s.ph = 3) : hN cnt s = cnt + 1 := if_pos (by omega)
/-- The words, and the node in them: so many levels. -/
structure En (c : Cfg) (T i : Int) (cs : List Int) : Prop where
  hr : riB c = true
  ln : (cs.length : Int) = lnV c
  i0 : 0 ≤ i
  i1 : i ≤ c.c
  t0 : 1 ≤ T
  t1 : T ≤ c.h
  tl : tlV c (fd c cs i 4) = T - 1
theorem En.has {c : Cfg} {T i : Int} {cs : List Int} (E : En c T i cs) {L : Int} (h0 : 0 ≤ L) (h1 : L < T) : inF c i (6 + L) := ⟨E.hr, E.i0, E.i1, by omega, by have := E.t1; omega⟩
theorem En.in4 {c : Cfg} {T i : Int} {cs : List Int} (E : En c T i cs) : inF c i 4 := ⟨E.hr, E.i0, E.i1, by omega, by have := E.t1; have := E.t0; omega⟩
theorem En.of {c : Cfg} {i : Int} {cs : List Int} (hr : riB c = true) (ln : (cs.length : Int) = lnV c) (i0 : 0 ≤ i) (i1 : i ≤ c.c) : En c (tlV c (fd c cs i 4) + 1) i cs := by
  have := tlV_bd (riB_true.1 hr) (fd c cs i 4)
  exact ⟨hr, ln, i0, i1, by omega, by omega, by omega⟩
/-- All that was done above the level. -/
structure HU (c : Cfg) (T i : Int) (cs : List Int) (s : Hm) : Prop where
  ix : ixV s.h = i
  ph : s.ph ≤ 3
  lv : s.ph = 1 ∨ s.ph = 2 → 0 ≤ s.lv ∧ s.lv < T
  up : s.ph = 1 ∨ s.ph = 2 → ∀ L, s.lv < L → L < T → mkB (fd c cs i (6 + L)) = true
  dn : s.ph = 3 → ∀ L, 0 ≤ L → L < T → mkB (fd c cs i (6 + L)) = true
theorem swap_d {cs : List Int} {x : Int} (hx : hasC cs x) (via old v : Int) : (acV cs 3 x via old v).d = decide (rdG cs x = old) := by
  rw [rdG_eq, if_pos hx]
  unfold acV; rw [if_pos hx]
  show (!((3 : Int) == 3) || cs.getD x.toNat 0 == old) = _
  by_cases h : cs.getD x.toNat 0 = old
  · rw [h]; simp
  · rw [decide_eq_false h]; simpa using h
theorem swap_rd {cs : List Int} {x : Int} (hx : hasC cs x) (old v y : Int) : rdG (clV cs 3 x old v) y = if y = x ∧ rdG cs x = old then v else rdG cs y := by
  by_cases ho : rdG cs x = old
  · rw [(rd_swap cs x y old v hx ho).1]
    by_cases hy : y = x
    · rw [if_pos hy, if_pos ⟨hy, ho⟩]
    · rw [if_neg hy, if_neg (fun h => hy h.1)]
  · have hb : ¬ cs.getD x.toNat 0 = old := by rwa [rdG_eq, if_pos hx] at ho
    have e : clV cs 3 x old v = cs := by
      unfold clV; rw [if_pos hx]
      have : bhV 3 (cs.getD x.toNat 0) old v = cs.getD x.toNat 0 := by
        unfold bhV; rw [if_neg (by omega), if_pos rfl, if_neg hb]
      rw [this]
      have hl : x.toNat < cs.length := by unfold hasC at hx; omega
      rw [List.getD_eq_getElem?_getD, List.getElem?_eq_getElem hl]; simp
    rw [e, if_neg (fun h => ho h.2)]
theorem En.len {c : Cfg} {T i : Int} {cs ds : List Int} (E : En c T i cs) (hl : ds.length = cs.length) (h4 : fd c ds i 4 = fd c cs i 4) : En c T i ds :=
  ⟨E.hr, by rw [hl]; exact E.ln, E.i0, E.i1, E.t0, E.t1, by rw [h4]; exact E.tl⟩
/-- Marks stay. -/
def Mo (c : Cfg) (T i : Int) (cs ds : List Int) : Prop := ∀ L, 0 ≤ L → L < T → mkB (fd c cs i (6 + L)) = true → mkB (fd c ds i (6 + L)) = true
theorem HU.mo {c : Cfg} {T i : Int} {cs ds : List Int} {s : Hm} (h : HU c T i cs s) (m : Mo c T i cs ds) : HU c T i ds s :=
  ⟨h.ix, h.ph, h.lv, fun a L l0 l1 => m L (by have := (h.lv a).1; omega) l1 (h.up a L l0 l1), fun a L l0 l1 => m L l0 l1 (h.dn a L l0 l1)⟩
theorem hX_eq {c : Cfg} {T i : Int} {cs : List Int} {s : Hm} (h : HU c T i cs s) : hX c s = clV' c i (6 + s.lv) := by unfold hX; rw [h.ix]
theorem hC_rd {c : Cfg} {T i : Int} {cs : List Int} {s : Hm} (E : En c T i cs) (h : HU c T i cs s) (y : Int) : rdG (hC c cs s) y = if s.ph = 2 ∧ y = clV' c i (6 + s.lv) ∧ rdG cs (clV' c i (6 + s.lv)) = s.sn then markV s.sn else rdG cs y := by
  unfold hC
  by_cases h2 : s.ph = 2
  · rw [if_pos h2, hX_eq h, swap_rd (cl_has E.ln (E.has (h.lv (Or.inr h2)).1 (h.lv (Or.inr h2)).2))]
    by_cases hy : y = clV' c i (6 + s.lv) ∧ rdG cs (clV' c i (6 + s.lv)) = s.sn
    · rw [if_pos hy, if_pos ⟨h2, hy⟩]
    · rw [if_neg hy, if_neg (fun z => hy z.2)]
  · rw [if_neg h2, if_neg (fun z => h2 z.1)]
theorem hC_mo {c : Cfg} {T i : Int} {cs : List Int} {s : Hm} (E : En c T i cs) (h : HU c T i cs s) : Mo c T i cs (hC c cs s) := by
  intro L l0 l1 hm
  unfold fd at hm ⊢
  rw [hC_rd E h]
  split
  · exact mark_mk _
  · exact hm
theorem hC_en {c : Cfg} {T i : Int} {cs : List Int} {s : Hm} (E : En c T i cs) (h : HU c T i cs s) : En c T i (hC c cs s) := by
  refine E.len (hC_len _ _ _) ?_
  unfold fd
  rw [hC_rd E h, if_neg]
  rintro ⟨h2, h3, _⟩
  have l := h.lv (Or.inr h2)
  have := (cl_inj E.in4 (E.has l.1 l.2) h3).2
  omega
theorem HU.down {c : Cfg} {T i : Int} {cs : List Int} {s : Hm} (ix : ixV s.h = i) (l : 0 ≤ s.lv ∧ s.lv < T) (up : ∀ L, s.lv < L → L < T → mkB (fd c cs i (6 + L)) = true) (at_ : mkB (fd c cs i (6 + s.lv)) = true) : HU c T i cs s.down := by
  have all : ∀ L, s.lv ≤ L → L < T → mkB (fd c cs i (6 + L)) = true := fun L a b => by
    by_cases e : L = s.lv
    · rw [e]; exact at_
    · exact up L (by omega) b
  unfold Hm.down; split
  · rename_i h0
    exact ⟨ix, Nat.le_refl _, fun h => by rcases h with h | h <;> (have h' : (3 : Nat) = _ := h; omega), fun h => by rcases h with h | h <;> (have h' : (3 : Nat) = _ := h; omega), fun _ L a b => all L (by omega) b⟩
  · exact ⟨ix, by show 1 ≤ 3; omega, fun _ => ⟨by show 0 ≤ s.lv - 1; omega, by show s.lv - 1 < T; omega⟩, fun _ L a b => all L (by have a' : s.lv - 1 < L := a; omega) b, fun h => by have h' : (1 : Nat) = 3 := h; omega⟩
/-- How many steps are left, alone. -/
def hmu (c : Cfg) (T i : Int) (cs : List Int) (s : Hm) : Int := if s.ph = 0 then 2 * T + 1 else if s.ph = 1 then 2 * s.lv + 2 else if s.ph = 2 then (if fd c cs i (6 + s.lv) = s.sn then 2 * s.lv + 1 else 2 * s.lv + 3) else 0
theorem hmu_down {c : Cfg} {T i : Int} {cs : List Int} {s : Hm} (_h : 0 ≤ s.lv) : hmu c T i cs s.down ≤ 2 * s.lv := by
  unfold Hm.down; split
  · rename_i h0
    show (if (3 : Nat) = 0 then _ else if (3 : Nat) = 1 then _ else if (3 : Nat) = 2 then _ else (0 : Int)) ≤ _
    simp; omega
  · show (if (1 : Nat) = 0 then _ else if (1 : Nat) = 1 then 2 * (s.lv - 1) + 2 else _) ≤ _
    simp; omega
theorem hmu_bd {c : Cfg} {T i : Int} {cs : List Int} {s : Hm} (h : HU c T i cs s) (t0 : 1 ≤ T) : 0 ≤ hmu c T i cs s ∧ hmu c T i cs s ≤ 2 * T + 1 := by
  unfold hmu
  split
  · omega
  · split
    · rename_i h1; have := h.lv (Or.inl h1); omega
    · split
      · rename_i h2; have := h.lv (Or.inr h2); split <;> omega
      · omega
theorem hmu_pos {c : Cfg} {T i : Int} {cs : List Int} {s : Hm} (h : HU c T i cs s) (t0 : 1 ≤ T) (h3 : ¬ s.ph = 3) : 1 ≤ hmu c T i cs s := by
  unfold hmu
  have := h.ph
  split
  · omega
  · split
    · rename_i h1; have := h.lv (Or.inl h1); omega
    · split
      · rename_i h2; have := h.lv (Or.inr h2); split <;> omega
      · omega
theorem HU.step {c : Cfg} {T i : Int} {cs : List Int} {s : Hm} (E : En c T i cs) (h : HU c T i cs s) : HU c T i (hC c cs s) (hF c cs s) ∧ (¬ s.ph = 3 → hmu c T i (hC c cs s) (hF c cs s) + 1 ≤ hmu c T i cs s) := by
  have m := hC_mo E h
  rcases (by have := h.ph; omega : s.ph = 0 ∨ s.ph = 1 ∨ s.ph = 2 ∨ s.ph = 3) with e | e | e | e
  · have eF : hF c cs s = ⟨s.h, 1, T - 1, s.sn⟩ := by unfold hF; rw [if_pos e, h.ix, E.tl]
    have eC : hC c cs s = cs := if_neg (by omega)
    rw [eF, eC]
    refine ⟨⟨h.ix, by show 1 ≤ 3; omega, fun _ => ⟨by show 0 ≤ T - 1; have := E.t0; omega, by show T - 1 < T; omega⟩, fun _ L a b => by have a' : T - 1 < L := a; omega, fun z => by have z' : (1 : Nat) = 3 := z; omega⟩, fun _ => ?_⟩
    have e0 : hmu c T i cs s = 2 * T + 1 := if_pos e
    rw [e0]
    show (if (1 : Nat) = 0 then _ else if (1 : Nat) = 1 then 2 * (T - 1) + 2 else _) + 1 ≤ _
    simp; omega
  · have l := h.lv (Or.inl e)
    have eC : hC c cs s = cs := if_neg (by omega)
    have eX : rdG cs (hX c s) = fd c cs i (6 + s.lv) := by rw [hX_eq h]; rfl
    have e0 : hmu c T i cs s = 2 * s.lv + 2 := by unfold hmu; rw [if_neg (by omega), if_pos e]
    rw [eC, e0]
    by_cases hm : mkB (fd c cs i (6 + s.lv)) = true
    · have eF : hF c cs s = (Hm.mk s.h 1 s.lv (fd c cs i (6 + s.lv))).down := by unfold hF; rw [if_neg (by omega), if_pos e, eX, if_pos hm]
      rw [eF]
      refine ⟨HU.down (s := ⟨s.h, 1, s.lv, fd c cs i (6 + s.lv)⟩) h.ix l (fun L a b => h.up (Or.inl e) L a b) hm, fun _ => ?_⟩
      have := hmu_down (c := c) (T := T) (i := i) (cs := cs) (s := ⟨s.h, 1, s.lv, fd c cs i (6 + s.lv)⟩) l.1
      have this' : hmu c T i cs (Hm.mk s.h 1 s.lv (fd c cs i (6 + s.lv))).down ≤ 2 * s.lv := this
      omega
    · have eF : hF c cs s = ⟨s.h, 2, s.lv, fd c cs i (6 + s.lv)⟩ := by unfold hF; rw [if_neg (by omega), if_pos e, eX, if_neg hm]
      rw [eF]
      refine ⟨⟨h.ix, by show 2 ≤ 3; omega, fun _ => l, fun _ L a b => h.up (Or.inl e) L a b, fun z => by have z' : (2 : Nat) = 3 := z; omega⟩, fun _ => ?_⟩
      have : hmu c T i cs ⟨s.h, 2, s.lv, fd c cs i (6 + s.lv)⟩ = 2 * s.lv + 1 := by
        unfold hmu; rw [if_neg (by show ¬ (2 : Nat) = 0; omega), if_neg (by show ¬ (2 : Nat) = 1; omega), if_pos rfl, if_pos rfl]
      omega
  · have l := h.lv (Or.inr e)
    have hh := cl_has E.ln (E.has l.1 l.2)
    have eS : hSw c cs s = decide (fd c cs i (6 + s.lv) = s.sn) := by unfold hSw; rw [hX_eq h, swap_d hh]; rfl
    by_cases hs : fd c cs i (6 + s.lv) = s.sn
    · have eF : hF c cs s = s.down := by unfold hF; rw [if_neg (by omega), if_neg (by omega), if_pos e, eS, if_pos (decide_eq_true hs)]
      have e0 : hmu c T i cs s = 2 * s.lv + 1 := by unfold hmu; rw [if_neg (by omega), if_neg (by omega), if_pos e, if_pos hs]
      have at_ : mkB (fd c (hC c cs s) i (6 + s.lv)) = true := by
        unfold fd; rw [hC_rd E h, if_pos ⟨e, rfl, hs⟩]; exact mark_mk _
      rw [eF, e0]
      refine ⟨HU.down h.ix l (fun L a b => m L (by omega) b (h.up (Or.inr e) L a b)) at_, fun _ => ?_⟩
      have := hmu_down (c := c) (T := T) (i := i) (cs := hC c cs s) (s := s) l.1
      omega
    · have eF : hF c cs s = ⟨s.h, 1, s.lv, s.sn⟩ := by unfold hF; rw [if_neg (by omega), if_neg (by omega), if_pos e, eS, if_neg (by rw [decide_eq_true_eq]; exact hs)]
      have e0 : hmu c T i cs s = 2 * s.lv + 3 := by unfold hmu; rw [if_neg (by omega), if_neg (by omega), if_pos e, if_neg hs]
      rw [eF, e0]
      refine ⟨⟨h.ix, by show 1 ≤ 3; omega, fun _ => l, fun _ L a b => m L (by have a' : s.lv < L := a; omega) b (h.up (Or.inr e) L a b), fun z => by have z' : (1 : Nat) = 3 := z; omega⟩, fun _ => ?_⟩
      have : hmu c T i (hC c cs s) ⟨s.h, 1, s.lv, s.sn⟩ = 2 * s.lv + 2 := by
        unfold hmu; rw [if_neg (by show ¬ (1 : Nat) = 0; omega), if_pos rfl]
      omega
  · rw [(hF_done e).1, (hF_done e).2]
    exact ⟨h, fun z => absurd e z⟩
theorem HU.start (c : Cfg) (T : Int) (cs : List Int) (h : Int) : HU c T (ixV h) cs ⟨h, 0, 0, 0⟩ :=
  ⟨rfl, Nat.zero_le _, fun z => by rcases z with z | z <;> (have z' : (0 : Nat) = _ := z; omega), fun z => by rcases z with z | z <;> (have z' : (0 : Nat) = _ := z; omega), fun z => by have z' : (0 : Nat) = 3 := z; omega⟩
theorem HI.start {c : Cfg} {h : Int} (hh : isW h) : HI c ⟨h, 0, 0, 0⟩ :=
  ⟨Nat.zero_le _, fun z => by rcases z with z | z <;> (have z' : (0 : Nat) = _ := z; omega), by unfold isW; show (0 : Int) ≤ 0 ∧ (0 : Int) < 18446744073709551616; decide, hh⟩
/-- The cells, against what they were: the node's levels as they were, or with the mark; all else as it was. -/
structure CI (c : Cfg) (T i : Int) (os cs : List Int) : Prop where
  ln : cs.length = os.length
  rd : ∀ X, rdG cs X = rdG os X ∨ ∃ L, 0 ≤ L ∧ L < T ∧ X = clV' c i (6 + L) ∧ rdG cs X = markV (rdG os X)
def HS (c : Cfg) (i : Int) (os : List Int) (s : Hm) : Prop := s.ph = 2 → s.sn = fd c os i (6 + s.lv) ∧ mkB s.sn = false
theorem HS.start (c : Cfg) (i : Int) (os : List Int) (h : Int) : HS c i os ⟨h, 0, 0, 0⟩ := fun z => by have z' : (0 : Nat) = 2 := z; omega
theorem CI.refl (c : Cfg) (T i : Int) (os : List Int) : CI c T i os os := ⟨rfl, fun _ => Or.inl rfl⟩
theorem HS.down {c : Cfg} {i : Int} {os : List Int} {s : Hm} : HS c i os s.down := by
  unfold Hm.down; split
  · intro z; have z' : (3 : Nat) = 2 := z; omega
  · intro z; have z' : (1 : Nat) = 2 := z; omega
theorem CI.step {c : Cfg} {T i : Int} {os cs : List Int} {s : Hm} (E : En c T i cs) (h : HU c T i cs s) (I : CI c T i os cs) (S : HS c i os s) : CI c T i os (hC c cs s) ∧ HS c i os (hF c cs s) := by
  refine ⟨⟨(hC_len _ _ _).trans I.ln, fun X => ?_⟩, ?_⟩
  · rw [hC_rd E h]
    split
    · rename_i z
      obtain ⟨z2, z3, z4⟩ := z
      have l := h.lv (Or.inr z2)
      obtain ⟨s1, s2⟩ := S z2
      refine Or.inr ⟨s.lv, l.1, l.2, z3, ?_⟩
      rw [z3, s1]; rfl
    · exact I.rd X
  · rcases (by have := h.ph; omega : s.ph = 0 ∨ s.ph = 1 ∨ s.ph = 2 ∨ s.ph = 3) with e | e | e | e
    · have eF : hF c cs s = ⟨s.h, 1, T - 1, s.sn⟩ := by unfold hF; rw [if_pos e, h.ix, E.tl]
      rw [eF]; intro z; have z' : (1 : Nat) = 2 := z; omega
    · have eX : rdG cs (hX c s) = fd c cs i (6 + s.lv) := by rw [hX_eq h]; rfl
      by_cases hm : mkB (fd c cs i (6 + s.lv)) = true
      · have eF : hF c cs s = (Hm.mk s.h 1 s.lv (fd c cs i (6 + s.lv))).down := by unfold hF; rw [if_neg (by omega), if_pos e, eX, if_pos hm]
        rw [eF]; exact HS.down
      · have eF : hF c cs s = ⟨s.h, 2, s.lv, fd c cs i (6 + s.lv)⟩ := by unfold hF; rw [if_neg (by omega), if_pos e, eX, if_neg hm]
        rw [eF]
        intro _
        refine ⟨?_, by simpa using hm⟩
        show fd c cs i (6 + s.lv) = fd c os i (6 + s.lv)
        rcases I.rd (clV' c i (6 + s.lv)) with q | ⟨L, _, _, _, q⟩
        · exact q
        · exact absurd (by unfold fd; rw [q]; exact mark_mk _) hm
    · by_cases hs : hSw c cs s = true
      · have eF : hF c cs s = s.down := by unfold hF; rw [if_neg (by omega), if_neg (by omega), if_pos e, if_pos hs]
        rw [eF]; exact HS.down
      · have eF : hF c cs s = ⟨s.h, 1, s.lv, s.sn⟩ := by unfold hF; rw [if_neg (by omega), if_neg (by omega), if_pos e, if_neg hs]
        rw [eF]; intro z; have z' : (1 : Nat) = 2 := z; omega
    · rw [(hF_done e).1]; exact S
theorem rd_mark_id {x y : Int} (h : x = y ∨ x = markV y) (hm : mkB x = true) : x = markV y := by
  rcases h with h | h
  · rw [h] at hm ⊢; exact (mark_id hm).symm
  · exact h
/-- The end: the levels have the mark, all else is as it was. -/
theorem CI.fin {c : Cfg} {T i : Int} {os cs : List Int} {s : Hm} (h : HU c T i cs s) (h3 : s.ph = 3) (I : CI c T i os cs) (X : Int) :
    ((∃ L, 0 ≤ L ∧ L < T ∧ X = clV' c i (6 + L)) ∧ rdG cs X = markV (rdG os X)) ∨ ((¬ ∃ L, 0 ≤ L ∧ L < T ∧ X = clV' c i (6 + L)) ∧ rdG cs X = rdG os X) := by
  by_cases e : ∃ L, 0 ≤ L ∧ L < T ∧ X = clV' c i (6 + L)
  · refine Or.inl ⟨e, ?_⟩
    obtain ⟨L, l0, l1, rfl⟩ := e
    refine rd_mark_id ?_ (h.dn h3 L l0 l1)
    rcases I.rd (clV' c i (6 + L)) with q | ⟨_, _, _, _, q⟩
    · exact Or.inl q
    · exact Or.inr q
  · refine Or.inr ⟨e, ?_⟩
    rcases I.rd X with q | ⟨L, l0, l1, l2, _⟩
    · exact q
    · exact absurd ⟨L, l0, l1, l2⟩ e
/-- Two ends are the same. -/
theorem CI.same {c : Cfg} {T i : Int} {os cs ds : List Int} {s t : Hm} (h : HU c T i cs s) (h3 : s.ph = 3) (I : CI c T i os cs) (g : HU c T i ds t) (g3 : t.ph = 3) (J : CI c T i os ds) : cs = ds := by
  have e : ∀ X, rdG cs X = rdG ds X := fun X => by
    rcases CI.fin h h3 I X with ⟨a, b⟩ | ⟨a, b⟩ <;> rcases CI.fin g g3 J X with ⟨a', b'⟩ | ⟨a', b'⟩
    · rw [b, b']
    · exact absurd a a'
    · exact absurd a' a
    · rw [b, b']
  refine List.ext_getElem (I.ln.trans J.ln.symm) fun n h1 h2 => ?_
  have := e n
  rw [rdG_eq, rdG_eq, if_pos (by unfold hasC; omega), if_pos (by unfold hasC; omega)] at this
  simpa [List.getD_eq_getElem?_getD, h1, h2] using this
/-- A run, alone. -/
def hx (c : Cfg) : Nat → Hm × List Int → Hm × List Int
  | 0, x => x
  | n + 1, x => (hF c (hx c n x).2 (hx c n x).1, hC c (hx c n x).2 (hx c n x).1)
theorem hx_hu {c : Cfg} {T i : Int} {cs : List Int} {s : Hm} (E : En c T i cs) (h : HU c T i cs s) : ∀ n, En c T i (hx c n (s, cs)).2 ∧ HU c T i (hx c n (s, cs)).2 (hx c n (s, cs)).1 ∧ ∀ t, HU c T i cs t → HU c T i (hx c n (s, cs)).2 t
  | 0 => ⟨E, h, fun _ h => h⟩
  | n + 1 => by
    obtain ⟨e, k, f⟩ := hx_hu E h n
    exact ⟨hC_en e k, (k.step e).1, fun t ht => (f t ht).mo (hC_mo e k)⟩
theorem hx_hmu {c : Cfg} {T i : Int} {cs : List Int} {s : Hm} (E : En c T i cs) (h : HU c T i cs s) : ∀ n, (∀ j, j < n → ¬ (hx c j (s, cs)).1.ph = 3) → hmu c T i (hx c n (s, cs)).2 (hx c n (s, cs)).1 + n ≤ hmu c T i cs s
  | 0, _ => by show hmu c T i cs s + ((0 : Nat) : Int) ≤ _; omega
  | n + 1, hn => by
    obtain ⟨e, k, _⟩ := hx_hu E h n
    have ih := hx_hmu E h n (fun j hj => hn j (by omega))
    have st := (k.step e).2 (hn n (by omega))
    show hmu c T i (hC c _ _) (hF c _ _) + ((n + 1 : Nat) : Int) ≤ _
    omega
theorem hx_ci {c : Cfg} {T i : Int} {os cs : List Int} {s : Hm} (E : En c T i cs) (h : HU c T i cs s) (I : CI c T i os cs) (S : HS c i os s) : ∀ n, CI c T i os (hx c n (s, cs)).2 ∧ HS c i os (hx c n (s, cs)).1
  | 0 => ⟨I, S⟩
  | n + 1 => by
    obtain ⟨e, k, _⟩ := hx_hu E h n
    obtain ⟨a, b⟩ := hx_ci E h I S n
    exact CI.step e k a b
/-- Alone it ends, within so many steps. -/
theorem hx_end {c : Cfg} {T i : Int} {cs : List Int} {s : Hm} (E : En c T i cs) (h : HU c T i cs s) {n : Nat} (hn : ∀ j, j < n → ¬ (hx c j (s, cs)).1.ph = 3) (he : (hx c n (s, cs)).1.ph = 3 ∨ n = 100) : (hx c n (s, cs)).1.ph = 3 ∧ (n : Int) ≤ hmu c T i cs s ∧ (n : Int) ≤ 13 := by
  have b := hmu_bd h E.t0
  have R := riB_true.1 E.hr
  have t6 : T ≤ 6 := by have := E.t1; have := R.h1; omega
  have m := hx_hmu E h n hn
  obtain ⟨e, k, _⟩ := hx_hu E h n
  have b2 := hmu_bd k e.t0
  refine ⟨?_, by omega, by omega⟩
  rcases he with he | he
  · exact he
  · omega
/-- Of a node that has all marks: a step a level, and one; nothing is changed. -/
def nu (T : Int) (s : Hm) : Int := if s.ph = 0 then T + 1 else if s.ph = 1 then s.lv + 1 else 0
theorem all_step {c : Cfg} {T i : Int} {cs : List Int} {s : Hm} (E : En c T i cs) (h : HU c T i cs s) (all : ∀ L, 0 ≤ L → L < T → mkB (fd c cs i (6 + L)) = true) (h2 : ¬ s.ph = 2) (h3 : ¬ s.ph = 3) : hC c cs s = cs ∧ ¬ (hF c cs s).ph = 2 ∧ nu T (hF c cs s) + 1 = nu T s := by
  rcases (by have := h.ph; omega : s.ph = 0 ∨ s.ph = 1) with e | e
  · have eF : hF c cs s = ⟨s.h, 1, T - 1, s.sn⟩ := by unfold hF; rw [if_pos e, h.ix, E.tl]
    rw [eF]
    refine ⟨if_neg (by omega), fun z => by have z' : (1 : Nat) = 2 := z; omega, ?_⟩
    unfold nu
    rw [if_neg (by show ¬ (1 : Nat) = 0; omega), if_pos rfl, if_pos e]
    show T - 1 + 1 + 1 = _; omega
  · have l := h.lv (Or.inl e)
    have eX : rdG cs (hX c s) = fd c cs i (6 + s.lv) := by rw [hX_eq h]; rfl
    have eF : hF c cs s = (Hm.mk s.h 1 s.lv (fd c cs i (6 + s.lv))).down := by unfold hF; rw [if_neg (by omega), if_pos e, eX, if_pos (all _ l.1 l.2)]
    rw [eF]
    have e0 : nu T s = s.lv + 1 := by unfold nu; rw [if_neg (by omega), if_pos e]
    refine ⟨if_neg (by omega), ?_, ?_⟩
    · unfold Hm.down; split
      · intro z; have z' : (3 : Nat) = 2 := z; omega
      · intro z; have z' : (1 : Nat) = 2 := z; omega
    · rw [e0]
      unfold Hm.down; split
      · rename_i q
        have q' : s.lv = 0 := q
        unfold nu
        rw [if_neg (by show ¬ (3 : Nat) = 0; omega), if_neg (by show ¬ (3 : Nat) = 1; omega)]; omega
      · unfold nu
        rw [if_neg (by show ¬ (1 : Nat) = 0; omega), if_pos rfl]
        show s.lv - 1 + 1 + 1 = _; omega
theorem hx_all {c : Cfg} {T i : Int} {cs : List Int} {s : Hm} (E : En c T i cs) (h : HU c T i cs s) (all : ∀ L, 0 ≤ L → L < T → mkB (fd c cs i (6 + L)) = true) (h2 : ¬ s.ph = 2) : ∀ n, (∀ j, j < n → ¬ (hx c j (s, cs)).1.ph = 3) → (hx c n (s, cs)).2 = cs ∧ ¬ (hx c n (s, cs)).1.ph = 2 ∧ nu T (hx c n (s, cs)).1 + n = nu T s
  | 0, _ => ⟨rfl, h2, by show nu T s + ((0 : Nat) : Int) = _; omega⟩
  | n + 1, hn => by
    obtain ⟨e, k, _⟩ := hx_hu E h n
    obtain ⟨a, b, d⟩ := hx_all E h all h2 n (fun j hj => hn j (by omega))
    have st := all_step (by rw [a] at e ⊢; exact e) k (by rw [a]; exact all) b (hn n (by omega))
    refine ⟨st.1.trans a, st.2.1, ?_⟩
    have := st.2.2
    show nu T (hF c _ _) + ((n + 1 : Nat) : Int) = _
    omega
end K
end Go.Proofs.YtjbdaejkofkcpaaDoor
namespace Go.Proofs.YtjbdaejkofkcpaaDoor
open Go.RowKit (Grown Hid Below)
open Go.Deep
namespace K
set_option maxRecDepth 100000
theorem h_eqnil (w : World) : (binOp .eql 84 .nilFunc .nilFunc).run Tryd.prog w = .ok (.bool true) w := by kernel_rfl
theorem h_eqfun (w : World) (f : Fn) (x y : Array Value) : (binOp .eql 84 (.func f x y) .nilFunc).run Tryd.prog w = .ok (.bool false) w := by kernel_rfl
/-- A help's block. -/
def HBk (w : World) (b : Nat) (v : Value) (h lv sn : Int) : Prop := w.heap[b]? = some (.cells #[.int .u64 h, v, .int .i64 lv, .int .u64 sn] 86 (0, 0))
def hfV (f : Nat) : Value := .func (.func f) #[] #[]
def phH (n : Nat) : Value := if n = 0 then hfV 36 else if n = 1 then hfV 66 else if n = 2 then hfV 80 else .nilFunc
def HB (w : World) (b : Nat) (s : Hm) : Prop := HBk w b (phH s.ph) s.h s.lv s.sn
theorem HBk.kept {l : List Nat} {w w' : World} {b : Nat} {v : Value} {h lv sn : Int} (hB : HBk w b v h lv sn) (k : Kept l w w') (hb : b ∉ l) : HBk w' b v h lv sn := k.blk hB hb
theorem HBk.set1 {w : World} {b : Nat} {v : Value} {h lv sn : Int} (hB : HBk w b v h lv sn) (y : Value) : HBk (w.setCell ⟨b, 1, none⟩ y) b y h lv sn := by
  have z := blk_set hB 1 y
  simpa [HBk] using z
theorem HBk.set2 {w : World} {b : Nat} {v : Value} {h lv sn : Int} (hB : HBk w b v h lv sn) (y : Int) : HBk (w.setCell ⟨b, 2, none⟩ (.int .i64 y)) b v h y sn := by
  have z := blk_set hB 2 (.int .i64 y)
  simpa [HBk] using z
theorem HBk.set3 {w : World} {b : Nat} {v : Value} {h lv sn : Int} (hB : HBk w b v h lv sn) (y : Int) : HBk (w.setCell ⟨b, 3, none⟩ (.int .u64 y)) b v h lv y := by
  have z := blk_set hB 3 (.int .u64 y)
  simpa [HBk] using z
theorem HB.kept {l : List Nat} {w w' : World} {b : Nat} {s : Hm} (hB : HB w b s) (k : Kept l w w') (hb : b ∉ l) : HB w' b s := HBk.kept hB k hb
theorem HB.lt {w : World} {b : Nat} {s : Hm} (h : HB w b s) : b < w.heap.size := lt_of_blk h
theorem HBk.nm {w : World} {b m p r : Nat} {v : Value} {h lv sn : Int} {c : Cfg} {cs : List Int} {cnt : Int} {a : Acc} (hB : HBk w b v h lv sn) (hM : Mm w m p r c cs cnt a) : ¬ b = m ∧ ¬ b = p ∧ ¬ b = r := by
  unfold HBk at hB
  refine ⟨fun e => ?_, fun e => ?_, fun e => ?_⟩
  · have z := hM.st; rw [← e, hB] at z; simp at z
  · have z := hM.bk.st; rw [← e, hB] at z; simp at z
  · have z := hM.bk.row; unfold Row at z; rw [← e, hB] at z; simp at z
set_option maxHeartbeats 2000000 in
theorem hnew_any (h : Int) (w : World) : Calls Tryd.prog 10 #[.int .u64 h] w fun e w' => ∃ b, e = .returned (.pointer (some ⟨b, 0, none⟩)) ∧ w.heap.size ≤ b ∧ HB w' b ⟨h, 0, 0, 0⟩ ∧ Kept [] w w' := by
  go_enter Tryd.func10, Tryd.ntmps10
  go_wp2
  go_ret
  exact ⟨_, rfl, Nat.le_refl _, blk_alloc_new w _, (Kept.refl [] w).alloc _⟩
set_option maxHeartbeats 2000000 in
theorem hdone_any (b : Nat) (s : Hm) (w : World) (hB : HB w b s) (h3 : s.ph ≤ 3) :
    Calls Tryd.prog 16 #[.pointer (some ⟨b, 0, none⟩)] w fun e w' => e = .returned (.bool (decide (s.ph = 3))) ∧ w' = w := by
  have q1 := cell_of_blk hB (i := 1) rfl
  have E1 := h_eqfun
  have E2 := h_eqnil
  rcases (by omega : s.ph = 0 ∨ s.ph = 1 ∨ s.ph = 2 ∨ s.ph = 3) with e | e | e | e
  all_goals
    rw [e] at q1 ⊢
    clear e h3 hB
    simp only [phH, hfV] at q1
  all_goals
    go_enter Tryd.func16, Tryd.ntmps16
    go_wp2
    go_ret
    exact ⟨rfl, rfl⟩
set_option maxHeartbeats 2000000 in
theorem hfield_any (b : Nat) (v : Value) (h lv sn : Int) (w : World) (hB : HBk w b v h lv sn) (l0 : 0 ≤ lv) (l1 : lv ≤ 100) :
    Calls Tryd.prog 78 #[.pointer (some ⟨b, 0, none⟩)] w fun e w' => e = .returned (.int .i64 (6 + lv)) ∧ w' = w := by
  have q1 := cell_of_blk hB (i := 2) rfl
  go_enter Tryd.func78, Tryd.ntmps78
  go_wp2
  go_ret
  exact ⟨ret_i64 (by go_num), rfl⟩
set_option maxHeartbeats 2000000 in
theorem hend_any (b : Nat) (v : Value) (h lv sn : Int) (ph : Nat) (w : World) (hB : HBk w b v h lv sn) (l0 : 0 ≤ lv) (l1 : lv ≤ 100) :
    Calls Tryd.prog 79 #[.pointer (some ⟨b, 0, none⟩)] w fun e w' => e = .returned (.tuple #[]) ∧ HB w' b (Hm.mk h ph lv sn).down ∧ Kept [b] w w' := by
  have q1 := cell_of_blk hB (i := 1) rfl
  have q2 := cell_of_blk hB (i := 2) rfl
  have hf := free_of_blk hB
  have HH := hidOf hB
  clear hB
  by_cases hl : lv = 0
  · subst hl
    go_enter Tryd.func79, Tryd.ntmps79
    go_wp2
    refine bodyPost_ret (v := .tuple #[]) (by simp [results, Tryd.results79, go_sem]) rfl ⟨rfl, ?_, (Kept.refl [b] w).setCell (Or.inl (by simp)) _⟩
    have z := blk_set HH.out 1 .nilFunc
    simpa [HB, HBk, phH, Hm.down] using z
  · have hl1 : (lv == 0) = false := by simp [hl]
    have e : (Hm.mk h ph lv sn).down = ⟨h, 1, lv - 1, sn⟩ := if_neg hl
    rw [e]; clear e
    have hz := hidOf hl
    clear hl
    go_enter Tryd.func79, Tryd.ntmps79
    go_wp2
    go_end0
    refine ⟨rfl, ?_, ((Kept.refl [b] w).setCell (Or.inl (by simp)) _).setCell (Or.inl (by simp)) _⟩
    have z := blk_set (blk_set HH.out 2 (.int .i64 (lv - 1))) 1 (hfV 66)
    simpa [HB, HBk, phH, hfV] using z
theorem h_fldheight (c : Cfg) (w : World) : (Instr.field 23 c.val 3).run Tryd.prog w = .ok (.int .i64 c.h) w := by kernel_rfl
set_option maxHeartbeats 4000000 in
theorem htall_any (b m p r : Nat) (v : Value) (c : Cfg) (cs : List Int) (cnt : Int) (a : Acc) (h lv sn : Int) (w : World) (hB : HBk w b v h lv sn) (hM : Mm w m p r c cs cnt a) (hT : Tab w) (R : Rt c) (hw : Wds cs) (hh : isW h) (c0 : 0 ≤ cnt) (c1 : cnt < 4611686018427387904) :
    Calls Tryd.prog 36 #[.pointer (some ⟨b, 0, none⟩), .pointer (some ⟨m, 0, none⟩)] w fun e w' => e = .returned (.tuple #[]) ∧ HB w' b ⟨h, 1, tlV c (fd c cs (ixV h) 4), sn⟩ ∧ Mm w' m p r c (clV cs 1 (clV' c (ixV h) 4) 0 0) (cnt + 1) (acV cs 1 (clV' c (ixV h) 4) (plainV h) 0 0) ∧ Kept [b, p, r] w w' := by
  obtain ⟨n1, n2, n3⟩ := hB.nm hM
  have LD := hidOf (fun (W : World) (k : Kept [] w W) => (mload_any m p r c cs cnt a h 4 W (hM.new k) (hT.kept k) hh.1 hh.2 c0 c1).mono fun _ _ z => (⟨z.1, z.2.1, (k.weaken (m := [p, r]) (by simp)).trans z.2.2⟩ : _ ∧ _ ∧ Kept [p, r] w _))
  have bd := fd_word (c := c) hw (ixV h) 4
  unfold isW at bd
  have e : (acV cs 1 (clV' c (ixV h) 4) (plainV h) 0 0).o = fd c cs (ixV h) 4 := ld_o cs _ _
  rw [e] at LD
  clear e
  have h0 := R.h0
  have h1 := R.h1
  obtain ⟨X, hX⟩ : ∃ X, X = fd c cs (ixV h) 4 := ⟨_, rfl⟩
  rw [← hX] at LD bd ⊢
  clear hX
  have HS : Hid (∀ W : World, Kept [p, r] w W → HBk W b v h lv sn ∧ (W.cell? ⟨m, 0, none⟩ = some (.int .i64 c.t) ∧ W.cell? ⟨m, 1, none⟩ = some (.int .i64 c.s) ∧ W.cell? ⟨m, 2, none⟩ = some (.int .i64 c.c) ∧ W.cell? ⟨m, 3, none⟩ = some (.int .i64 c.h) ∧ W.cell? ⟨m, 4, none⟩ = some (.int .i64 c.k) ∧ W.cell? ⟨m, 5, none⟩ = some (.int .i64 c.e) ∧ W.cell? ⟨m, 6, none⟩ = some (.int .i64 c.l)) ∧ W.cell? ⟨b, 0, none⟩ = some (.int .u64 h)) := hidOf (by
    intro W k
    have z := k.blk hM.st (by simp [hM.mp, hM.mr])
    have y := hB.kept k (by simp; omega)
    exact ⟨y, ⟨cell_of_blk z (i := 0) rfl, cell_of_blk z (i := 1) rfl, cell_of_blk z (i := 2) rfl, cell_of_blk z (i := 3) rfl, cell_of_blk z (i := 4) rfl, cell_of_blk z (i := 5) rfl, cell_of_blk z (i := 6) rfl⟩, cell_of_blk y (i := 0) rfl⟩)
  have F3 := h_fldheight c
  have CF := hidOf (fun (W : World) (k : Kept [p, r] w W) => (config_any c W).mono fun _ _ z => (⟨z.1, z.2, k.trans (z.2.weaken (m := [p, r]) (by simp))⟩ : _ ∧ Kept [] W _ ∧ Kept [p, r] w _))
  clear hB hM hT hw hh R
  generalize clV cs 1 (clV' c (ixV h) 4) 0 0 = C at *
  generalize acV cs 1 (clV' c (ixV h) 4) (plainV h) 0 0 = A at *
  have HS2 := hidOf (fun (W : World) (k : Kept [p, r] w W) => (⟨(HS.out W k).2.2, (HS.out W k).2.1⟩ : W.cell? ⟨b, 0, none⟩ = some (.int .u64 h) ∧ _))
  have wr : IntKind.u64.wrap c.h = c.h := by rw [IntKind.wrap_u64]; omega
  have h2 : ¬ c.h < 1 := by omega
  by_cases x0 : X < 1
  · have e : tlV c X = 0 := by unfold tlV; rw [if_pos x0]; rfl
    rw [e]; clear e
    go_enter Tryd.func36, Tryd.ntmps36
    go_wp2_with fail
    go_region_held3 (fun W' => W'.cell? ⟨b, 0, none⟩ = some (.int .u64 h) ∧ W'.cell? ⟨m, 0, none⟩ = some (.int .i64 c.t) ∧ W'.cell? ⟨m, 1, none⟩ = some (.int .i64 c.s) ∧ W'.cell? ⟨m, 2, none⟩ = some (.int .i64 c.c) ∧ W'.cell? ⟨m, 3, none⟩ = some (.int .i64 c.h) ∧ W'.cell? ⟨m, 4, none⟩ = some (.int .i64 c.k) ∧ W'.cell? ⟨m, 5, none⟩ = some (.int .i64 c.e) ∧ W'.cell? ⟨m, 6, none⟩ = some (.int .i64 c.l))
      (exact HS2.out _ (by first | assumption | exact (Kept.refl [p, r] w).drew | exact Kept.refl _ _))
      (first
        | (go_at_call 30; with_reducible refine (LD.out _ (by first | assumption | exact (Kept.refl [] w).drew | exact Kept.refl _ _)).mono ?_; rintro e w7 ⟨rfl, M7, K7⟩)
        | (go_at_call 65; with_reducible refine (CF.out _ (by assumption)).mono ?_; rintro e w5 ⟨rfl, J5, K5⟩))
    all_goals
      have B5 := (HS.out _ K5).1
      have q1 := cell_of_blk B5 (i := 1) rfl
      have q2 := cell_of_blk B5 (i := 2) rfl
      have hf := free_of_blk B5
      have HE := hidOf (And.intro B5 (And.intro (M7.new J5) K5))
      clear B5 M7 J5 K5 K7 LD CF HS HS2 F3 wr
      go_wp2
      go_end0
      obtain ⟨B5, M5, K5⟩ := HE.out
      refine ⟨rfl, ?_, M5.kept ((Kept.refl [b] _).setCell (Or.inl (by simp)) _ |>.setCell (Or.inl (by simp)) _) (by simp; omega) (by simp; omega) (by simp; omega), ((K5.weaken (m := [b, p, r]) (by simp)).setCell (Or.inl (by simp)) _).setCell (Or.inl (by simp)) _⟩
      have z := blk_set (blk_set B5 2 (.int .i64 (0))) 1 (hfV 66)
      simpa [HB, HBk, phH, hfV] using z
  · by_cases x1 : c.h < X
    · have e : tlV c X = c.h - 1 := by unfold tlV; rw [if_neg x0, if_pos x1]
      rw [e]; clear e
      go_enter Tryd.func36, Tryd.ntmps36
      go_wp2_with fail
      go_region_held3 (fun W' => W'.cell? ⟨b, 0, none⟩ = some (.int .u64 h) ∧ W'.cell? ⟨m, 0, none⟩ = some (.int .i64 c.t) ∧ W'.cell? ⟨m, 1, none⟩ = some (.int .i64 c.s) ∧ W'.cell? ⟨m, 2, none⟩ = some (.int .i64 c.c) ∧ W'.cell? ⟨m, 3, none⟩ = some (.int .i64 c.h) ∧ W'.cell? ⟨m, 4, none⟩ = some (.int .i64 c.k) ∧ W'.cell? ⟨m, 5, none⟩ = some (.int .i64 c.e) ∧ W'.cell? ⟨m, 6, none⟩ = some (.int .i64 c.l))
        (exact HS2.out _ (by first | assumption | exact (Kept.refl [p, r] w).drew | exact Kept.refl _ _))
        (first
          | (go_at_call 30; with_reducible refine (LD.out _ (by first | assumption | exact (Kept.refl [] w).drew | exact Kept.refl _ _)).mono ?_; rintro e w7 ⟨rfl, M7, K7⟩)
          | (go_at_call 65; with_reducible refine (CF.out _ (by assumption)).mono ?_; rintro e w5 ⟨rfl, J5, K5⟩))
      all_goals
        have B5 := (HS.out _ K5).1
        have q1 := cell_of_blk B5 (i := 1) rfl
        have q2 := cell_of_blk B5 (i := 2) rfl
        have hf := free_of_blk B5
        have HE := hidOf (And.intro B5 (And.intro (M7.new J5) K5))
        clear B5 M7 J5 K5 K7 LD CF HS HS2 F3 wr
        go_wp2
        go_end0
        obtain ⟨B5, M5, K5⟩ := HE.out
        refine ⟨rfl, ?_, M5.kept ((Kept.refl [b] _).setCell (Or.inl (by simp)) _ |>.setCell (Or.inl (by simp)) _) (by simp; omega) (by simp; omega) (by simp; omega), ((K5.weaken (m := [b, p, r]) (by simp)).setCell (Or.inl (by simp)) _).setCell (Or.inl (by simp)) _⟩
        have z := blk_set (blk_set B5 2 (.int .i64 (c.h - 1))) 1 (hfV 66)
        simpa [HB, HBk, phH, hfV] using z
    · have e : tlV c X = X - 1 := by unfold tlV; rw [if_neg x0, if_neg x1]
      rw [e]; clear e
      go_enter Tryd.func36, Tryd.ntmps36
      go_wp2_with fail
      go_region_held3 (fun W' => W'.cell? ⟨b, 0, none⟩ = some (.int .u64 h) ∧ W'.cell? ⟨m, 0, none⟩ = some (.int .i64 c.t) ∧ W'.cell? ⟨m, 1, none⟩ = some (.int .i64 c.s) ∧ W'.cell? ⟨m, 2, none⟩ = some (.int .i64 c.c) ∧ W'.cell? ⟨m, 3, none⟩ = some (.int .i64 c.h) ∧ W'.cell? ⟨m, 4, none⟩ = some (.int .i64 c.k) ∧ W'.cell? ⟨m, 5, none⟩ = some (.int .i64 c.e) ∧ W'.cell? ⟨m, 6, none⟩ = some (.int .i64 c.l))
        (exact HS2.out _ (by first | assumption | exact (Kept.refl [p, r] w).drew | exact Kept.refl _ _))
        (first
          | (go_at_call 30; with_reducible refine (LD.out _ (by first | assumption | exact (Kept.refl [] w).drew | exact Kept.refl _ _)).mono ?_; rintro e w7 ⟨rfl, M7, K7⟩)
          | (go_at_call 65; with_reducible refine (CF.out _ (by assumption)).mono ?_; rintro e w5 ⟨rfl, J5, K5⟩))
      all_goals
        have B5 := (HS.out _ K5).1
        have q1 := cell_of_blk B5 (i := 1) rfl
        have q2 := cell_of_blk B5 (i := 2) rfl
        have hf := free_of_blk B5
        have HE := hidOf (And.intro B5 (And.intro (M7.new J5) K5))
        clear B5 M7 J5 K5 K7 LD CF HS HS2 F3 wr
        go_wp2
        go_end0
        obtain ⟨B5, M5, K5⟩ := HE.out
        refine ⟨rfl, ?_, M5.kept ((Kept.refl [b] _).setCell (Or.inl (by simp)) _ |>.setCell (Or.inl (by simp)) _) (by simp; omega) (by simp; omega) (by simp; omega), ((K5.weaken (m := [b, p, r]) (by simp)).setCell (Or.inl (by simp)) _).setCell (Or.inl (by simp)) _⟩
        have z := blk_set (blk_set B5 2 (.int .i64 (X - 1))) 1 (hfV 66)
        simpa [HB, HBk, phH, hfV] using z
set_option maxHeartbeats 4000000 in
theorem hnext_any (b m p r : Nat) (v : Value) (c : Cfg) (cs : List Int) (cnt : Int) (a : Acc) (h lv sn : Int) (w : World) (b0 : 0 < b) (hB : HBk w b v h lv sn) (hM : Mm w m p r c cs cnt a) (hT : Tab w) (l0 : 0 ≤ lv) (l1 : lv ≤ 100) (hw : Wds cs) (hh : isW h) (c0 : 0 ≤ cnt) (c1 : cnt < 4611686018427387904) :
    Calls Tryd.prog 66 #[.pointer (some ⟨b, 0, none⟩), .pointer (some ⟨m, 0, none⟩)] w fun e w' => e = .returned (.tuple #[]) ∧ HB w' b (if mkB (rdG cs (clV' c (ixV h) (6 + lv))) = true then (Hm.mk h 1 lv (rdG cs (clV' c (ixV h) (6 + lv)))).down else ⟨h, 2, lv, rdG cs (clV' c (ixV h) (6 + lv))⟩) ∧ Mm w' m p r c (clV cs 1 (clV' c (ixV h) (6 + lv)) 0 0) (cnt + 1) (acV cs 1 (clV' c (ixV h) (6 + lv)) (plainV h) 0 0) ∧ Kept [b, p, r] w w' := by
  have nm := hB.nm hM
  have LD := hidOf (fun (W : World) (k : Kept [] w W) => (mload_any m p r c cs cnt a h (6 + lv) W (hM.new k) (hT.kept k) hh.1 hh.2 c0 c1).mono fun _ _ z => And.intro z.1 (And.intro z.2.1 ((k.weaken (m := [p, r]) (by simp)).trans z.2.2)))
  have FD := hidOf (fun (W : World) (k : Kept [] w W) => hfield_any b v h lv sn W (hB.kept k (by simp)) l0 l1)
  have bd := rd_word hw (clV' c (ixV h) (6 + lv))
  unfold isW at bd
  have e : (acV cs 1 (clV' c (ixV h) (6 + lv)) (plainV h) 0 0).o = rdG cs (clV' c (ixV h) (6 + lv)) := ld_o cs _ _
  rw [e] at LD
  clear e
  obtain ⟨X, hX⟩ : ∃ X, X = rdG cs (clV' c (ixV h) (6 + lv)) := ⟨_, rfl⟩
  rw [← hX] at LD bd ⊢
  clear hX
  obtain ⟨G, hG⟩ : ∃ G, G = if mkB X = true then (Hm.mk h 1 lv X).down else ⟨h, 2, lv, X⟩ := ⟨_, rfl⟩
  rw [← hG]
  have HG := hidOf hG
  clear hG
  have HNM := hidOf nm
  have HBB := hidOf hB
  have HT := hidOf hT
  have HM := hidOf hM
  have HB0 := hidOf b0
  have q0 := cell_of_blk hB (i := 0) rfl
  clear hM hT hw hh hB nm b0
  generalize clV cs 1 (clV' c (ixV h) (6 + lv)) 0 0 = C at LD ⊢
  generalize acV cs 1 (clV' c (ixV h) (6 + lv)) (plainV h) 0 0 = A at LD ⊢
  have HS0 : Hid (∀ W' : World, Kept [p, r] w W' → W'.cell? ⟨b, 0, none⟩ = some (.int .u64 h)) := by
    intro W' k
    have := HNM.out
    exact cell_of_blk (k.blk HBB.out (by simp; omega)) (i := 0) rfl
  have HS3 : Hid (∀ W' : World, HBk W' b v h lv sn → (W'.setCell ⟨b, 3, none⟩ (.int .u64 X)).cell? ⟨b, 0, none⟩ = some (.int .u64 h)) := fun W' z => cell_of_blk (z.set3 X) (i := 0) rfl
  go_enter Tryd.func66, Tryd.ntmps66
  go_wp2_with fail
  go_region_held3 (fun W' => W'.cell? ⟨b, 0, none⟩ = some (.int .u64 h))
      (first | exact HS0.out _ (by assumption) | exact HS3.out _ (by assumption) | exact HS0.out _ (Kept.weaken (m := [p, r]) (by assumption) (by simp)) | exact HS0.out _ (Kept.refl _ _).drew | exact HS0.out _ (Kept.refl _ _))
      (first
        | (go_at_call 78; refine (FD.out _ (by first | assumption | exact (Kept.refl _ _).drew)).mono ?_; rintro e w5 ⟨rfl, rfl⟩)
        | (go_at_call 30; refine (LD.out _ (by first | assumption | exact (Kept.refl _ _).drew)).mono ?_; rintro e w7 ⟨rfl, M7, K7⟩
           have Z7 := HBB.out.kept K7 (by have := HNM.out; simp; omega)
           have z3 := cell_of_blk Z7 (i := 3) rfl
           have zf7 := free_of_blk Z7
           have zl7 := lt_of_blk Z7))
  have HX7 := hidOf (And.intro Z7 (And.intro (HT.out.mm HM.out K7) (And.intro M7 K7)))
  clear M7 Z7 K7 z3 zf7 zl7 LD FD HS0 HS3 q0
  go_upto_region 1 with (fail)
  refine gen_world (fun W => HBk W b v h lv X ∧ Tab W ∧ Mm W m p r c C (cnt + 1) A ∧ Kept [b, p, r] w W) ?_ ?_
  · obtain ⟨Z, T, M, K7⟩ := HX7.out
    have ks := (Kept.refl [b] w7).setCell (p := ⟨b, 3, none⟩) (Or.inl (by simp)) (.int .u64 X)
    have := HNM.out
    have b0 := HB0.out
    exact ⟨Z.set3 X, T.keptL ks (by simp; omega), M.kept ks (by simp; omega) (by simp; omega) (by simp; omega), (K7.weaken (m := [b, p, r]) (by simp; try omega)).then ks (by simp)⟩
  clear HX7 HBB HM HT
  rintro W ⟨Z, T, M, KK⟩
  have z3 := cell_of_blk Z (i := 3) rfl
  have MK := hidOf (marked_any X W T bd.1 bd.2)
  have HZ := hidOf (And.intro Z (And.intro M KK))
  clear Z T M KK
  obtain ⟨B, hB⟩ : ∃ B, mkB X = B := ⟨_, rfl⟩
  rw [hB] at MK HG
  clear hB
  cases B with
  | true =>
    go_wp2_with fail
    refine MK.out.mono ?_
    rintro e w3 ⟨rfl, K3⟩
    have EN := hidOf (hend_any b v h lv X 1 w3 (HZ.out.1.kept K3 (by simp)) l0 l1)
    have HZ3 := hidOf (And.intro (HZ.out.2.1.new K3) (HZ.out.2.2.trans (K3.weaken (m := [b, p, r]) (by simp))))
    clear HZ MK K3 z3
    go_wp2_with fail
    refine EN.out.mono ?_
    rintro e w4 ⟨rfl, B4, K4⟩
    have := HNM.out
    have HZ4 := hidOf (And.intro B4 (And.intro (HZ3.out.1.kept K4 (by simp; omega) (by simp; omega) (by simp; omega)) (HZ3.out.2.trans (K4.weaken (m := [b, p, r]) (by simp)))))
    clear EN B4 K4 HZ3 this
    go_wp2
    exact bodyPost_ret (v := .tuple #[]) (by simp [results, Tryd.results66, go_sem]) rfl ⟨rfl, by have z := HG.out; simp only [if_true] at z; rw [z]; exact HZ4.out.1, HZ4.out.2⟩
  | false =>
    go_wp2_with fail
    refine MK.out.mono ?_
    rintro e w3 ⟨rfl, K3⟩
    have Z3 := HZ.out.1.kept K3 (by simp)
    have q1 := cell_of_blk Z3 (i := 1) rfl
    have hf := free_of_blk Z3
    have HZ3 := hidOf (And.intro Z3 (And.intro (HZ.out.2.1.new K3) (HZ.out.2.2.trans (K3.weaken (m := [b, p, r]) (by simp)))))
    clear HZ MK K3 z3 Z3
    go_wp2
    go_end0
    have := HNM.out
    have ks := (Kept.refl [b] w3).setCell (p := ⟨b, 1, none⟩) (Or.inl (by simp)) (hfV 80)
    exact ⟨rfl, by rw [HG.out, if_neg (by decide)]; exact HZ3.out.1.set1 _, HZ3.out.2.1.kept ks (by simp; omega) (by simp; omega) (by simp; omega), HZ3.out.2.2.trans (ks.weaken (m := [b, p, r]) (by simp))⟩
set_option maxHeartbeats 4000000 in
theorem hmark_any (b m p r : Nat) (v : Value) (c : Cfg) (cs : List Int) (cnt : Int) (a : Acc) (h lv sn : Int) (w : World) (hB : HBk w b v h lv sn) (hM : Mm w m p r c cs cnt a) (hT : Tab w) (l0 : 0 ≤ lv) (l1 : lv ≤ 100) (hh : isW h) (hs : isW sn) (c0 : 0 ≤ cnt) (c1 : cnt < 4611686018427387904) :
    Calls Tryd.prog 80 #[.pointer (some ⟨b, 0, none⟩), .pointer (some ⟨m, 0, none⟩)] w fun e w' => e = .returned (.tuple #[]) ∧ HB w' b (if (acV cs 3 (clV' c (ixV h) (6 + lv)) (plainV h) sn (markV sn)).d = true then (Hm.mk h 2 lv sn).down else ⟨h, 1, lv, sn⟩) ∧ Mm w' m p r c (clV cs 3 (clV' c (ixV h) (6 + lv)) sn (markV sn)) (cnt + 1) (acV cs 3 (clV' c (ixV h) (6 + lv)) (plainV h) sn (markV sn)) ∧ Kept [b, p, r] w w' := by
  have nm := hB.nm hM
  have SW := hidOf (fun (W : World) (k : Kept [] w W) => (mswap_any m p r c cs cnt a h (6 + lv) sn (markV sn) W (hM.new k) (hT.kept k) hh.1 hh.2 c0 c1).mono fun _ _ z => And.intro z.1 (And.intro z.2.1 ((k.weaken (m := [p, r]) (by simp)).trans z.2.2)))
  have FD := hidOf (fun (W : World) (k : Kept [] w W) => hfield_any b v h lv sn W (hB.kept k (by simp)) l0 l1)
  have MK := hidOf (fun (W : World) (k : Kept [] w W) => (mark_any sn W (hT.kept k) hs.1 hs.2).mono fun _ _ z => And.intro z.1 (k.trans z.2))
  obtain ⟨Y, hY⟩ : ∃ Y, Y = markV sn := ⟨_, rfl⟩
  rw [← hY] at SW MK ⊢
  clear hY
  have HNM := hidOf nm
  have HBB := hidOf hB
  have q0 := cell_of_blk hB (i := 0) rfl
  have q3 := cell_of_blk hB (i := 3) rfl
  clear hM hT hh hs hB nm
  generalize clV cs 3 (clV' c (ixV h) (6 + lv)) sn Y = C at SW ⊢
  generalize acV cs 3 (clV' c (ixV h) (6 + lv)) (plainV h) sn Y = A at SW ⊢
  have HS0 : Hid (∀ W' : World, Kept [p, r] w W' → W'.cell? ⟨b, 0, none⟩ = some (.int .u64 h) ∧ W'.cell? ⟨b, 3, none⟩ = some (.int .u64 sn)) := by
    intro W' k
    have := HNM.out
    exact ⟨cell_of_blk (k.blk HBB.out (by simp; omega)) (i := 0) rfl, cell_of_blk (k.blk HBB.out (by simp; omega)) (i := 3) rfl⟩
  obtain ⟨B, hB⟩ : ∃ B, A.d = B := ⟨_, rfl⟩
  rw [hB] at SW ⊢
  clear hB
  cases B with
  | true =>
    rw [if_pos rfl]
    go_enter Tryd.func80, Tryd.ntmps80
    go_wp2_with fail
    go_region_held3 (fun W' => W'.cell? ⟨b, 0, none⟩ = some (.int .u64 h) ∧ W'.cell? ⟨b, 3, none⟩ = some (.int .u64 sn))
      (first | exact HS0.out _ (by assumption) | exact HS0.out _ (Kept.weaken (m := [p, r]) (by assumption) (by simp)) | exact HS0.out _ (Kept.refl _ _).drew | exact HS0.out _ (Kept.refl _ _))
      (first
        | (go_at_call 78; refine (FD.out _ (by first | assumption | exact (Kept.refl _ _).drew)).mono ?_; rintro e w5 ⟨rfl, rfl⟩)
        | (go_at_call 23; refine (MK.out _ (by first | assumption | exact (Kept.refl _ _).drew)).mono ?_; rintro e w6 ⟨rfl, K6⟩)
        | (go_at_call 84; refine (SW.out _ (by first | assumption | exact (Kept.refl _ _).drew)).mono ?_; rintro e w7 ⟨rfl, M7, K7⟩))
    have EN := hidOf (hend_any b v h lv sn 2 w7 (HBB.out.kept K7 (by have := HNM.out; simp; omega)) l0 l1)
    have HX7 := hidOf (And.intro M7 K7)
    clear M7 K7 SW FD MK HS0 q0 q3
    go_wp2_with fail
    refine EN.out.mono ?_
    rintro e w8 ⟨rfl, B8, K8⟩
    have := HNM.out
    have HZ4 := hidOf (And.intro B8 (And.intro (HX7.out.1.kept K8 (by simp; omega) (by simp; omega) (by simp; omega)) ((HX7.out.2.weaken (m := [b, p, r]) (by simp)).trans (K8.weaken (m := [b, p, r]) (by simp)))))
    clear EN B8 K8 HX7 this
    go_wp2
    exact bodyPost_ret (v := .tuple #[]) (by simp [results, Tryd.results80, go_sem]) rfl ⟨rfl, HZ4.out⟩
  | false =>
    rw [if_neg (by decide)]
    go_enter Tryd.func80, Tryd.ntmps80
    go_wp2_with fail
    go_region_held3 (fun W' => W'.cell? ⟨b, 0, none⟩ = some (.int .u64 h) ∧ W'.cell? ⟨b, 3, none⟩ = some (.int .u64 sn))
      (first | exact HS0.out _ (by assumption) | exact HS0.out _ (Kept.weaken (m := [p, r]) (by assumption) (by simp)) | exact HS0.out _ (Kept.refl _ _).drew | exact HS0.out _ (Kept.refl _ _))
      (first
        | (go_at_call 78; refine (FD.out _ (by first | assumption | exact (Kept.refl _ _).drew)).mono ?_; rintro e w5 ⟨rfl, rfl⟩)
        | (go_at_call 23; refine (MK.out _ (by first | assumption | exact (Kept.refl _ _).drew)).mono ?_; rintro e w6 ⟨rfl, K6⟩)
        | (go_at_call 84; refine (SW.out _ (by first | assumption | exact (Kept.refl _ _).drew)).mono ?_; rintro e w7 ⟨rfl, M7, K7⟩))
    have Z7 := HBB.out.kept K7 (by have := HNM.out; simp; omega)
    have q1 := cell_of_blk Z7 (i := 1) rfl
    have hf := free_of_blk Z7
    have HX7 := hidOf (And.intro Z7 (And.intro M7 K7))
    clear M7 K7 SW FD MK HS0 q0 q3 Z7
    go_wp2
    go_end0
    have := HNM.out
    have ks := (Kept.refl [b] w7).setCell (p := ⟨b, 1, none⟩) (Or.inl (by simp)) (hfV 66)
    exact ⟨rfl, HX7.out.1.set1 _, HX7.out.2.1.kept ks (by simp; omega) (by simp; omega) (by simp; omega), (HX7.out.2.2.weaken (m := [b, p, r]) (by simp)).trans (ks.weaken (m := [b, p, r]) (by simp))⟩
set_option maxHeartbeats 4000000 in
/-- Any step. -/
theorem hstep_any (b m p r : Nat) (c : Cfg) (cs : List Int) (cnt : Int) (a : Acc) (s : Hm) (w : World) (b0 : 0 < b) (hB : HB w b s) (hM : Mm w m p r c cs cnt a) (hT : Tab w) (R : Rt c) (hI : HI c s) (hw : Wds cs) (c0 : 0 ≤ cnt) (c1 : cnt < 4611686018427387904) :
    Calls Tryd.prog 13 #[.pointer (some ⟨b, 0, none⟩), .pointer (some ⟨m, 0, none⟩)] w fun e w' => e = .returned (.tuple #[]) ∧ HB w' b (hF c cs s) ∧ Mm w' m p r c (hC c cs s) (hN cnt s) (hA c cs a s) ∧ Kept [b, p, r] w w' := by
  have DN := hidOf (hdone_any b s w hB hI.ph)
  have q1 := cell_of_blk hB (i := 1) rfl
  have lc : ∀ x, clV cs 1 x 0 0 = cs := fun x => clV_load cs x 0 0
  rcases (by have := hI.ph; omega : s.ph = 0 ∨ s.ph = 1 ∨ s.ph = 2 ∨ s.ph = 3) with e | e | e | e
  · have GO := hidOf (htall_any b m p r _ c cs cnt a s.h s.lv s.sn w hB hM hT R hw hI.h c0 c1)
    rw [lc] at GO
    rw [show hF c cs s = ⟨s.h, 1, tlV c (fd c cs (ixV s.h) 4), s.sn⟩ from if_pos e, show hC c cs s = cs from if_neg (by omega), show hN cnt s = cnt + 1 from if_pos (by omega), show hA c cs a s = acV cs 1 (clV' c (ixV s.h) 4) (plainV s.h) 0 0 from if_pos e]
    rw [show decide (s.ph = 3) = false from decide_eq_false (by omega)] at DN
    rw [e] at q1
    simp only [phH, hfV] at q1
    clear hB hM hT hI hw e lc
    go_enter Tryd.func13, Tryd.ntmps13
    go_wp2_with fail
    refine DN.out.mono ?_
    rintro e w1 ⟨rfl, rfl⟩
    go_wp2_with fail
    refine GO.out.mono ?_
    rintro e w2 ⟨rfl, hh⟩
    have HH := hidOf hh
    clear hh
    go_wp2
    go_end0
    exact ⟨rfl, HH.out⟩
  · have l := hI.lv (Or.inl e)
    have h6 := R.h1
    have GO := hidOf (hnext_any b m p r _ c cs cnt a s.h s.lv s.sn w b0 hB hM hT l.1 (by omega) hw hI.h c0 c1)
    rw [lc] at GO
    rw [show hF c cs s = (if mkB (rdG cs (clV' c (ixV s.h) (6 + s.lv))) = true then (Hm.mk s.h 1 s.lv (rdG cs (clV' c (ixV s.h) (6 + s.lv)))).down else ⟨s.h, 2, s.lv, rdG cs (clV' c (ixV s.h) (6 + s.lv))⟩) from (if_neg (by omega)).trans (if_pos e), show hC c cs s = cs from if_neg (by omega), show hN cnt s = cnt + 1 from if_pos (by omega), show hA c cs a s = acV cs 1 (clV' c (ixV s.h) (6 + s.lv)) (plainV s.h) 0 0 from (if_neg (by omega)).trans (if_pos e)]
    rw [show decide (s.ph = 3) = false from decide_eq_false (by omega)] at DN
    rw [e] at q1
    simp only [phH, hfV] at q1
    generalize (if mkB (rdG cs (clV' c (ixV s.h) (6 + s.lv))) = true then (Hm.mk s.h 1 s.lv (rdG cs (clV' c (ixV s.h) (6 + s.lv)))).down else (⟨s.h, 2, s.lv, rdG cs (clV' c (ixV s.h) (6 + s.lv))⟩ : Hm)) = G at GO ⊢
    clear hB hM hT hI hw e lc l h6
    go_enter Tryd.func13, Tryd.ntmps13
    go_wp2_with fail
    refine DN.out.mono ?_
    rintro e w1 ⟨rfl, rfl⟩
    go_wp2_with fail
    refine GO.out.mono ?_
    rintro e w2 ⟨rfl, hh⟩
    have HH := hidOf hh
    clear hh
    go_wp2
    go_end0
    exact ⟨rfl, HH.out⟩
  · have l := hI.lv (Or.inr e)
    have h6 := R.h1
    have GO := hidOf (hmark_any b m p r _ c cs cnt a s.h s.lv s.sn w hB hM hT l.1 (by omega) hI.h hI.sn c0 c1)
    have ed : (Hm.mk s.h 2 s.lv s.sn).down = s.down := rfl
    rw [ed] at GO
    rw [show hF c cs s = (if (acV cs 3 (clV' c (ixV s.h) (6 + s.lv)) (plainV s.h) s.sn (markV s.sn)).d = true then s.down else ⟨s.h, 1, s.lv, s.sn⟩) from ((if_neg (by omega)).trans (if_neg (by omega))).trans (if_pos e), show hC c cs s = clV cs 3 (clV' c (ixV s.h) (6 + s.lv)) s.sn (markV s.sn) from if_pos e, show hN cnt s = cnt + 1 from if_pos (by omega), show hA c cs a s = acV cs 3 (clV' c (ixV s.h) (6 + s.lv)) (plainV s.h) s.sn (markV s.sn) from ((if_neg (by omega)).trans (if_neg (by omega))).trans (if_pos e)]
    rw [show decide (s.ph = 3) = false from decide_eq_false (by omega)] at DN
    rw [e] at q1
    simp only [phH, hfV] at q1
    generalize (if (acV cs 3 (clV' c (ixV s.h) (6 + s.lv)) (plainV s.h) s.sn (markV s.sn)).d = true then s.down else (⟨s.h, 1, s.lv, s.sn⟩ : Hm)) = G at GO ⊢
    clear hB hM hT hI hw e lc l h6 ed
    go_enter Tryd.func13, Tryd.ntmps13
    go_wp2_with fail
    refine DN.out.mono ?_
    rintro e w1 ⟨rfl, rfl⟩
    go_wp2_with fail
    refine GO.out.mono ?_
    rintro e w2 ⟨rfl, hh⟩
    have HH := hidOf hh
    clear hh
    go_wp2
    go_end0
    exact ⟨rfl, HH.out⟩
  · obtain ⟨e1, e2⟩ := hF_done (c := c) (cs := cs) e
    rw [e1, e2, show hN cnt s = cnt from if_neg (by omega), show hA c cs a s = a from ((if_neg (by omega)).trans (if_neg (by omega))).trans (if_neg (by omega))]
    rw [show decide (s.ph = 3) = true from decide_eq_true e] at DN
    have HH := hidOf (And.intro hB (And.intro hM (Kept.refl [b, p, r] w)))
    clear hB hM hT hI hw e lc e1 e2 q1
    go_enter Tryd.func13, Tryd.ntmps13
    go_wp2_with fail
    refine DN.out.mono ?_
    rintro e w1 ⟨rfl, rfl⟩
    go_wp2
    go_end0
    exact ⟨rfl, HH.out⟩
end K
end Go.Proofs.YtjbdaejkofkcpaaDoor
namespace Go.Proofs.YtjbdaejkofkcpaaDoor
open Go.RowKit (Grown Hid Below intOf)
open Go.Deep
namespace K
set_option maxRecDepth 100000
structure Jm (w0 w : World) (m p r : Nat) (c : Cfg) (cs : List Int) (cnt : Int) (a : Acc) : Prop where
  mm : Mm w m p r c cs cnt a
  kp : Kept [] w0 w
  tb : Tab w0
  om : w0.heap.size ≤ m
  op : w0.heap.size ≤ p
  ow : w0.heap.size ≤ r
  R : Rt c
  wd : Wds cs
  n0 : 0 ≤ cnt
section
variable {w0 w w' : World} {b m p r : Nat} {c : Cfg} {cs : List Int} {cnt : Int} {a : Acc} {s : Hm}
theorem Jm.new (h : Jm w0 w m p r c cs cnt a) (k : Kept [] w w') : Jm w0 w' m p r c cs cnt a :=
  ⟨h.mm.new k, h.kp.trans k, h.tb, h.om, h.op, h.ow, h.R, h.wd, h.n0⟩
theorem Jm.tab (h : Jm w0 w m p r c cs cnt a) : Tab w := h.tb.kept h.kp
/-- What is done to blocks that are none of the words'. -/
theorem Jm.far {l : List Nat} (h : Jm w0 w m p r c cs cnt a) (k : Kept l w w') (hl : ∀ x ∈ l, w0.heap.size ≤ x) (hm : m ∉ l) (hp : p ∉ l) (hr : r ∉ l) : Jm w0 w' m p r c cs cnt a :=
  ⟨h.mm.kept k hm hp hr, h.kp.then k (fun x hx => by have := hl x hx; omega), h.tb, h.om, h.op, h.ow, h.R, h.wd, h.n0⟩
theorem Jm.step (h : Jm w0 w m p r c cs cnt a) (hB : HB w b s) (hb : w0.heap.size ≤ b) (hI : HI c s) (c1 : cnt < 4611686018427387904) :
    Calls Tryd.prog 13 #[.pointer (some ⟨b, 0, none⟩), .pointer (some ⟨m, 0, none⟩)] w fun e w' => e = .returned (.tuple #[]) ∧ Jm w0 w' m p r c (hC c cs s) (hN cnt s) (hA c cs a s) ∧ HB w' b (hF c cs s) ∧ Kept [b, p, r] w w' :=
  (hstep_any b m p r c cs cnt a s w (by have := h.tb.pos; omega) hB h.mm h.tab h.R hI h.wd h.n0 c1).mono fun _ w' hh => by
    obtain ⟨e, B, M, K⟩ := hh
    have KK : Kept [] w0 w' := h.kp.then K (by have := h.op; have := h.ow; intro x hx; simp at hx; omega)
    refine ⟨e, ⟨M, KK, h.tb, h.om, h.op, h.ow, h.R, hC_wd h.wd hI, ?_⟩, B, K⟩
    have := h.n0
    unfold hN; split <;> omega
theorem Jm.load (h : Jm w0 w m p r c cs cnt a) (x fl : Int) (hx : isW x) (c1 : cnt < 4611686018427387904) :
    Calls Tryd.prog 30 #[.pointer (some ⟨m, 0, none⟩), .int .u64 x, .int .i64 fl] w fun e w' => ∃ a', e = .returned (.int .u64 (fd c cs (ixV x) fl)) ∧ Jm w0 w' m p r c cs (cnt + 1) a' ∧ Kept [p, r] w w' :=
  (mload_any m p r c cs cnt a x fl w h.mm h.tab hx.1 hx.2 h.n0 c1).mono fun _ w' hh => by
    obtain ⟨e, M, K⟩ := hh
    rw [show clV cs 1 (clV' c (ixV x) fl) 0 0 = cs from clV_load _ _ _ _] at M
    rw [ld_o] at e
    exact ⟨_, e, ⟨M, h.kp.then K (by have := h.op; have := h.ow; intro x hx; simp at hx; omega), h.tb, h.om, h.op, h.ow, h.R, h.wd, by have := h.n0; omega⟩, K⟩
theorem Jm.store (h : Jm w0 w m p r c cs cnt a) (x fl v : Int) (hx : isW x) (hv : isW v) (c1 : cnt < 4611686018427387904) :
    Calls Tryd.prog 31 #[.pointer (some ⟨m, 0, none⟩), .int .u64 x, .int .i64 fl, .int .u64 v] w fun e w' => ∃ a', e = .returned (.tuple #[]) ∧ Jm w0 w' m p r c (clV cs 2 (clV' c (ixV x) fl) 0 v) (cnt + 1) a' ∧ Kept [p, r] w w' :=
  (mstore_any m p r c cs cnt a x fl v w h.mm h.tab hx.1 hx.2 h.n0 c1).mono fun _ w' hh => by
    obtain ⟨e, M, K⟩ := hh
    exact ⟨_, e, ⟨M, h.kp.then K (by have := h.op; have := h.ow; intro x hx; simp at hx; omega), h.tb, h.om, h.op, h.ow, h.R, wds_clV h.wd 2 _ _ (by decide) hv, by have := h.n0; omega⟩, K⟩
theorem Jm.bank (h : Jm w0 w m p r c cs cnt a) : Calls Tryd.prog 20 #[.pointer (some ⟨m, 0, none⟩)] w fun e w' => e = .returned (.pointer (some ⟨p, 0, none⟩)) ∧ w' = w := bank_any m p r c cs cnt a w h.mm
theorem Jm.count (h : Jm w0 w m p r c cs cnt a) : Calls Tryd.prog 24 #[.pointer (some ⟨p, 0, none⟩)] w fun e w' => e = .returned (.int .i64 cnt) ∧ w' = w := count_any p r cs cnt a w h.mm.bk
theorem Jm.cells (h : Jm w0 w m p r c cs cnt a) : Calls Tryd.prog 21 #[.pointer (some ⟨p, 0, none⟩)] w fun e w' => ∃ q, e = .returned (.slice (some ⟨q, 0, none⟩) cs.length cs.length) ∧ (¬ q = r ∧ w.heap.size ≤ q) ∧ Row w' q cs ∧ Kept [] w w' :=
  (cells_any p r cs cnt a w h.mm.bk).mono fun _ _ hh => ⟨_, hh.1, ⟨by have := lt_of_blk h.mm.bk.row; omega, Nat.le_refl _⟩, hh.2.1, hh.2.2⟩
end
theorem hx_hi {c : Cfg} {cs : List Int} {s : Hm} (R : Rt c) (hw : Wds cs) (h : HI c s) : ∀ n, HI c (hx c n (s, cs)).1 ∧ Wds (hx c n (s, cs)).2
  | 0 => ⟨h, hw⟩
  | n + 1 => by
    obtain ⟨a, b⟩ := hx_hi R hw h n
    exact ⟨a.step R b, hC_wd b a⟩
theorem hx_len (c : Cfg) (cs : List Int) (s : Hm) : ∀ n, (hx c n (s, cs)).2.length = cs.length
  | 0 => rfl
  | n + 1 => (hC_len _ _ _).trans (hx_len c cs s n)
/-- Blocks that a step leaves as they were: the configuration's, another help's. -/
theorem rw_ne12 {T1 T2 : TypeId} {w : World} {b c : Nat} {A B : Array Value} (h1 : RW T1 w b A) (h2 : RW T2 w c B) (hT : T1 ≠ T2) : ¬ b = c := fun e => by
  unfold RW at h1 h2
  rw [e, h2] at h1; simp at h1; exact hT h1.2.symm
theorem cf_far {w w' : World} {q b m p r : Nat} {A : Array Value} {s : Hm} {c : Cfg} {cs : List Int} {cnt : Int} {a : Acc} (h : RW 23 w q A) (B : HB w b s) (M : Mm w m p r c cs cnt a) (k : Kept [b, p, r] w w') : RW 23 w' q A := by
  have n1 := rw_ne12 h (show RW 86 w b _ from B) (by decide)
  have n2 := rw_ne12 h (show RW _ w p _ from M.bk.st) (by decide)
  have n3 := rw_ne12 h (show RW _ w r _ from M.bk.row) (by decide)
  exact h.kept k (by simp; omega)
theorem cf_load {w w' : World} {q m p r : Nat} {A : Array Value} {c : Cfg} {cs : List Int} {cnt : Int} {a : Acc} (h : RW 23 w q A) (M : Mm w m p r c cs cnt a) (k : Kept [p, r] w w') : RW 23 w' q A := by
  have n2 := rw_ne12 h (show RW _ w p _ from M.bk.st) (by decide)
  have n3 := rw_ne12 h (show RW _ w r _ from M.bk.row) (by decide)
  exact h.kept k (by simp; omega)
theorem hb_far {w w' : World} {d b m p r : Nat} {t : Hm} {c : Cfg} {cs : List Int} {cnt : Int} {a : Acc} (h : HB w d t) (hn : ¬ d = b) (M : Mm w m p r c cs cnt a) (k : Kept [b, p, r] w w') : HB w' d t := by
  obtain ⟨n1, n2, n3⟩ := HBk.nm h M
  exact h.kept k (by simp; omega)
theorem hb_load {w w' : World} {d m p r : Nat} {t : Hm} {c : Cfg} {cs : List Int} {cnt : Int} {a : Acc} (h : HB w d t) (M : Mm w m p r c cs cnt a) (k : Kept [p, r] w w') : HB w' d t := by
  obtain ⟨n1, n2, n3⟩ := HBk.nm h M
  exact h.kept k (by simp; omega)
/-- A row of one's own, behind the words' row. -/
theorem row_far {w w' : World} {g b m p r : Nat} {xs : List Int} {s : Hm} {c : Cfg} {cs : List Int} {cnt : Int} {a : Acc} (h : Row w g xs) (hn : ¬ g = r) (B : HB w b s) (M : Mm w m p r c cs cnt a) (k : Kept [b, p, r] w w') : Row w' g xs := by
  have n1 := rw_ne12 (show RW _ w g _ from h) (show RW _ w b _ from B) (by decide)
  have n2 := rw_ne12 (show RW _ w g _ from h) (show RW _ w p _ from M.bk.st) (by decide)
  exact h.kept k (by simp; omega)
/-- Two worlds' words: a step over the one leaves the other. -/
theorem Jm.other {w0 w w' : World} {b m p r m' p' r' : Nat} {c : Cfg} {cs ds : List Int} {cnt cnt' : Int} {a a' : Acc} {s : Hm} (h : Jm w0 w m p r c cs cnt a) (g : Jm w0 w m' p' r' c ds cnt' a') (B : HB w b s) (hb : w0.heap.size ≤ b) (n1 : ¬ p = p') (n2 : ¬ r = r') (k : Kept [b, p', r'] w w') : Jm w0 w' m p r c cs cnt a := by
  obtain ⟨b1, b2, b3⟩ := HBk.nm B h.mm
  have e1 := rw_ne12 (show RW _ w p _ from h.mm.bk.st) (show RW _ w r' _ from g.mm.bk.row) (by decide)
  have e2 := rw_ne12 (show RW _ w r _ from h.mm.bk.row) (show RW _ w p' _ from g.mm.bk.st) (by decide)
  have e3 := rw_ne12 (show RW _ w m _ from h.mm.st) (show RW _ w r' _ from g.mm.bk.row) (by decide)
  have e4 := rw_ne12 (show RW _ w m _ from h.mm.st) (show RW _ w p' _ from g.mm.bk.st) (by decide)
  exact h.far k (by have := g.op; have := g.ow; intro x hx; simp at hx; omega) (by simp; omega) (by simp; omega) (by simp; omega)
/-- A help that goes on, so many steps at most. -/
structure Jr (w0 w wr : World) (b m p r : Nat) (c : Cfg) (s : Hm) (cs : List Int) (cnt : Int) (n : Nat) : Prop where
  jm : ∃ a, Jm w0 wr m p r c (hx c n (s, cs)).2 (cnt + n) a
  hb : HB wr b (hx c n (s, cs)).1
  hi : HI c (hx c n (s, cs)).1
  no : ∀ j, j < n → ¬ (hx c j (s, cs)).1.ph = 3
  kp : Kept [b, p, r] w wr
set_option maxHeartbeats 4000000 in
theorem ends_any (w0 w : World) (b m p r : Nat) (c : Cfg) (s : Hm) (cs : List Int) (cnt : Int) (a : Acc) (k : Nat) (J : Jm w0 w m p r c cs cnt a) (B : HB w b s) (hb : w0.heap.size ≤ b) (hI : HI c s) (c1 : cnt < 1000000) (hk : k ≤ 100) :
    Calls Tryd.prog 19 #[.pointer (some ⟨b, 0, none⟩), .pointer (some ⟨m, 0, none⟩), .int .i64 k] w fun e w' => ∃ n : Nat, e = .returned (.int .i64 n) ∧ ((hx c n (s, cs)).1.ph = 3 ∨ n = k) ∧ n ≤ k ∧ Jr w0 w w' b m p r c s cs cnt n := by
  have HJ0 : Hid (Jr w0 w w b m p r c s cs cnt 0) := hidOf ⟨⟨a, by show Jm w0 w m p r c cs (cnt + ((0 : Nat) : Int)) a; simpa using J⟩, B, hI, fun j hj => absurd hj (Nat.not_lt_zero _), Kept.refl _ _⟩
  clear J B hI
  go_enter Tryd.func19, Tryd.ntmps19
  go_wp2
  go_loopw [9] (fun s9 wr => ∃ i : Nat, i ≤ k ∧ s9 = .int .i64 i ∧ Jr w0 w wr b m p r c s cs cnt i) (fun s9 _ => k - (intOf s9).toNat)
  case atStart => exact ⟨0, by omega, by first | rfl | go_num, HJ0.out⟩
  case round =>
    clear HJ0
    obtain ⟨i, hi, rfl, Z⟩ := hrel
    have HZ := hidOf Z
    clear Z
    by_cases hlt : i < k
    · have hltz : (i : Int) < (k : Int) := by omega
      have DN := hidOf (hdone_any b (hx c i (s, cs)).1 wr HZ.out.hb HZ.out.hi.ph)
      by_cases h3 : (hx c i (s, cs)).1.ph = 3
      · rw [show decide ((hx c i (s, cs)).1.ph = 3) = true from decide_eq_true h3] at DN
        have H3 := hidOf h3
        clear h3
        go_wp2_with fail
        refine DN.out.mono ?_
        rintro e w1 ⟨rfl, rfl⟩
        go_wp2
        go_ret
        exact ⟨i, rfl, Or.inl H3.out, by omega, HZ.out⟩
      · rw [show decide ((hx c i (s, cs)).1.ph = 3) = false from decide_eq_false h3] at DN
        have H3 := hidOf h3
        clear h3
        obtain ⟨a1, ja⟩ := HZ.out.jm
        have ST := hidOf (ja.step HZ.out.hb hb HZ.out.hi (by omega))
        have HR := hidOf ja.R
        have HW := hidOf ja.wd
        clear ja
        go_wp2_with fail
        refine DN.out.mono ?_
        rintro e w1 ⟨rfl, rfl⟩
        go_wp2_with fail
        refine ST.out.mono ?_
        rintro e w2 ⟨rfl, J2, B2, K2⟩
        have HN : Hid (Jr w0 w w2 b m p r c s cs cnt (i + 1)) := hidOf (by
          have e : hN (cnt + (i : Int)) (hx c i (s, cs)).1 = cnt + ((i + 1 : Nat) : Int) := by rw [hN_no HZ.out.hi.ph H3.out]; omega
          rw [e] at J2
          refine ⟨⟨_, J2⟩, B2, HZ.out.hi.step HR.out HW.out, fun j hj => ?_, HZ.out.kp.trans K2⟩
          by_cases e : j = i
          · rw [e]; exact H3.out
          · exact HZ.out.no j (by omega))
        clear ST J2 B2 K2 DN
        go_wp2
        go_roundw
        case rel => exact ⟨i + 1, by omega, by go_num, HN.out⟩
        case measure => simp [intOf]; omega
    · have hie : i = k := by omega
      have hltz : ¬ (i : Int) < (k : Int) := by omega
      go_wp2
      go_ret
      exact ⟨k, rfl, Or.inr rfl, Nat.le_refl _, hie ▸ HZ.out⟩
/-- A region that ends as it should: what is known behind it is enough. -/
theorem region_key12 {P : Program} {id : Nat} {ops : Array Oper} {d : Bool} {Q : Exit → Act → World → Prop} {a : Act} {w : World} (R : Act → Act → World → Prop) (h1 : (Code.region id ops d).wp P (fun e a' w' => e = .normal ∧ R a a' w') a w) (h2 : ∀ a' w', R a a' w' → Q .normal a' w') : (Code.region id ops d).wp P Q a w :=
  Code.wp_mono (fun e a' w' h => by obtain ⟨rfl, h⟩ := h; exact h2 a' w' h) h1
/-- How many levels: as the law works it out. -/
theorem tl_val {c : Cfg} (R : Rt c) {V T : Int} (h : tlV c V = T - 1) : IntKind.i64.wrap (if IntKind.u64.wrap c.h < if V < 1 then 1 else V then IntKind.u64.wrap c.h else if V < 1 then 1 else V) = T := by
  have h0 := R.h0
  have h1 := R.h1
  have wr : IntKind.u64.wrap c.h = c.h := by rw [IntKind.wrap_u64]; omega
  rw [wr]
  unfold tlV at h
  have e : (if c.h < if V < 1 then 1 else V then c.h else if V < 1 then 1 else V) = T := by
    by_cases a : V < 1
    · simp only [if_pos a] at h ⊢
      split <;> omega
    · simp only [if_neg a] at h ⊢
      split at h
      · rename_i b; rw [if_pos b]; omega
      · rename_i b; rw [if_neg b]; omega
  rw [e]
  have t0 : 1 ≤ T ∧ T ≤ 6 := by
    by_cases a : V < 1
    · rw [if_pos a] at h; omega
    · rw [if_neg a] at h; split at h <;> omega
  rw [IntKind.wrap_i64]; omega
/-- What a help that went on to its end leaves. -/
theorem Jr.fin {w0 w w' : World} {b m p r : Nat} {c : Cfg} {T i : Int} {s : Hm} {cs : List Int} {cnt : Int} {n : Nat} (Z : Jr w0 w w' b m p r c s cs cnt n) (E : En c T i cs) (h : HU c T i cs s) (he : (hx c n (s, cs)).1.ph = 3 ∨ n = 100) :
    ∃ t ds, hx c n (s, cs) = (t, ds) ∧ t.ph = 3 ∧ (n : Int) ≤ hmu c T i cs s ∧ (n : Int) ≤ 13 ∧ En c T i ds ∧ HU c T i ds t ∧ (∃ a, Jm w0 w' m p r c ds (cnt + n) a) ∧ HB w' b t ∧ ds.length = cs.length := by
  obtain ⟨e, k, _⟩ := hx_hu E h n
  obtain ⟨a1, a2, a3⟩ := hx_end E h Z.no he
  exact ⟨_, _, rfl, a1, a2, a3, e, k, Z.jm, Z.hb, hx_len _ _ _ _⟩
end K
end Go.Proofs.YtjbdaejkofkcpaaDoor
