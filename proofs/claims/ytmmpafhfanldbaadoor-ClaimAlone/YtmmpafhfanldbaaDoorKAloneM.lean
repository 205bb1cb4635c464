/-
  A claim that goes on alone: what it does to the slots' words.
-/
import Derived.Test.YtmmpafhfanldbaaDoorKMeta
namespace Go.Proofs.YtmmpafhfanldbaaDoor
open Go.RowKit (Grown Hid Below)
open Go.Deep
namespace K
/-- How far a slot lies behind the first one, going round. -/
def dsA (c : Cfg) (f i : Int) : Int := (i - f) % c.c
theorem dsA_next {c : Cfg} (h : 1 ≤ c.c) (f : Int) {i : Int} (h1 : i ≤ c.c) : dsA c f (bhI c i) = if dsA c f i + 1 = c.c then 0 else dsA c f i + 1 := by
  unfold dsA
  have e : (bhI c i - f) % c.c = (i - f + 1) % c.c := by
    unfold bhI; split
    · have : i = c.c := by omega
      subst this
      rw [show c.c - f + 1 = (1 - f) + c.c by omega, Int.add_emod_right]
    · congr 1; omega
  rw [e, mod_next _ _ h]
theorem dsA_bd {c : Cfg} (h : 1 ≤ c.c) (f i : Int) : 0 ≤ dsA c f i ∧ dsA c f i < c.c := ⟨Int.emod_nonneg _ (by omega), Int.emod_lt_of_pos _ (by omega)⟩
theorem dsA_inj {c : Cfg} {f i j : Int} (h0 : 1 ≤ i) (h1 : i ≤ c.c) (h2 : 1 ≤ j) (h3 : j ≤ c.c) (e : dsA c f i = dsA c f j) : i = j := by
  unfold dsA at e
  have a := Int.emod_add_mul_ediv (i - f) c.c
  have b := Int.emod_add_mul_ediv (j - f) c.c
  rw [e] at a
  have d : i - j = c.c * ((i - f) / c.c - (j - f) / c.c) := by rw [Int.mul_sub]; omega
  generalize (i - f) / c.c - (j - f) / c.c = u at d
  rcases (by omega : u = 0 ∨ 1 ≤ u ∨ u ≤ -1) with q | q | q
  · rw [q] at d; omega
  · have := Int.mul_le_mul_of_nonneg_left q (by omega : 0 ≤ c.c); omega
  · have := Int.mul_le_mul_of_nonneg_left q (by omega : 0 ≤ c.c); omega
/-- It got the slot: that one was free, and is taken, in its generation; the others are as they were. -/
structure GotIt (c : Cfg) (cs0 cs : List Int) (s : Ks) (I : Int) : Prop where
  ph : s.ph = 3
  i0 : 1 ≤ I
  i1 : I ≤ c.c
  st : S.stV (wdK c cs0 I) = 0
  gt : s.gt = packV I (S.gnV (wdK c cs0 I)) false
  at_ : ∀ i, 1 ≤ i → i ≤ c.c → wdK c cs i = if i = I then S.meV 1 (S.gnV (wdK c cs0 I)) else wdK c cs0 i
structure NoneFree (c : Cfg) (cs0 cs : List Int) (s : Ks) : Prop where
  ph : s.ph = 3
  gt : s.gt = 0
  cs : cs = cs0
  no : ∀ i, 1 ≤ i → i ≤ c.c → ¬ S.stV (wdK c cs0 i) = 0
/-- Where it is, so many steps on. -/
structure AlS (c : Cfg) (cs0 : List Int) (f : Int) (j : Int) (cs : List Int) (s : Ks) : Prop where
  ki : KI c s
  wd : Wds cs
  len : (cs.length : Int) = lnV c
  wd0 : Wds cs0
  len0 : (cs0.length : Int) = lnV c
  c0 : s.ph = 0 → j = 0 ∧ cs = cs0 ∧ s.gt = 0 ∧ bgI c s.fr = f
  c1 : s.ph = 1 → 1 ≤ j ∧ j < c.c ∧ cs = cs0 ∧ s.gt = 0 ∧ s.lf = c.c - j ∧ dsA c f s.ix = j ∧ ∀ i, 1 ≤ i → i ≤ c.c → dsA c f i < j → ¬ S.stV (wdK c cs0 i) = 0
  c2 : s.ph = 2 → 1 ≤ j ∧ j ≤ c.c ∧ cs = cs0 ∧ s.gt = 0 ∧ s.lk = wdK c cs0 s.ix ∧ S.stV s.lk = 0 ∧ s.lf = c.c - (j - 1) ∧ dsA c f s.ix = j - 1
  c3 : 3 ≤ s.ph → (∃ I, GotIt c cs0 cs s I) ∨ NoneFree c cs0 cs s
theorem AlS.start {c : Cfg} {cs : List Int} (hw : Wds cs) (hl : (cs.length : Int) = lnV c) (fr : Int) : AlS c cs (bgI c fr) 0 cs ⟨0, fr, 0, 0, 0, 0, fr⟩ :=
  ⟨KI.start c fr, hw, hl, hw, hl, fun _ => ⟨rfl, rfl, rfl, rfl⟩, fun h => by simp at h, fun h => by simp at h, fun h => by simp at h⟩
/-- It looks at a slot. -/
theorem al_look {c : Cfg} {cs0 : List Int} {f j : Int} {s : Ks} (hc : 1 ≤ c.c) (hw : Wds cs0) (hl : (cs0.length : Int) = lnV c) (j0 : 0 ≤ j) (i0 : 1 ≤ s.ix) (i1 : s.ix ≤ c.c) (g0 : s.gt = 0) (l0 : s.lf = c.c - j) (hj : j < c.c) (hd : dsA c f s.ix = j) (hv : ∀ i, 1 ≤ i → i ≤ c.c → dsA c f i < j → ¬ S.stV (wdK c cs0 i) = 0) :
    AlS c cs0 f (j + 1) cs0 (lookK c cs0 s) := by
  have hk : KI c (lookK c cs0 s) := lookK_ki hw hc i0 i1 (by omega) (by omega)
  refine ⟨hk, hw, hl, hw, hl, fun x => ?_, fun x => ?_, fun x => ?_, fun x => ?_⟩
  · unfold lookK at x; split at x
    · simp at x
    · unfold passK at x; split at x <;> simp at x
  · unfold lookK at x ⊢
    split at x
    · simp at x
    · rename_i hz
      rw [if_neg hz]
      unfold passK at x ⊢
      split at x
      · simp at x
      · rename_i h1
        have h1' : ¬ s.lf = 1 := h1
        rw [if_neg h1]
        refine ⟨by omega, by omega, rfl, g0, by show s.lf - 1 = c.c - (j + 1); omega, ?_, fun i a b d => ?_⟩
        · show dsA c f (bhI c s.ix) = j + 1
          rw [dsA_next hc f i1, hd, if_neg (by omega)]
        · by_cases q : dsA c f i < j
          · exact hv i a b q
          · have : i = s.ix := dsA_inj (f := f) a b i0 i1 (by omega)
            rw [this]; exact hz
  · unfold lookK at x ⊢
    split at x
    · rename_i hz
      rw [if_pos hz]
      exact ⟨by omega, by omega, rfl, g0, rfl, hz, by show s.lf = c.c - (j + 1 - 1); omega, by show dsA c f s.ix = j + 1 - 1; omega⟩
    · unfold passK at x; split at x <;> simp at x
  · right
    unfold lookK at x ⊢
    split at x
    · simp at x
    · rename_i hz
      rw [if_neg hz]
      unfold passK at x ⊢
      split at x
      · rename_i h1
        have h1' : s.lf = 1 := h1
        rw [if_pos h1]
        refine ⟨rfl, g0, rfl, fun i a b => ?_⟩
        by_cases q : dsA c f i < j
        · exact hv i a b q
        · have := (dsA_bd hc f i).2
          have : i = s.ix := dsA_inj (f := f) a b i0 i1 (by omega)
          rw [this]; exact hz
      · simp at x
theorem AlS.step {c : Cfg} {cs0 cs : List Int} {f j : Int} {s : Ks} (hr : riB c = true) (hc : 1 ≤ c.c) (j0 : 0 ≤ j) (h : AlS c cs0 f j cs s) : AlS c cs0 f (j + 1) (stC c cs s) (stK c cs s) := by
  by_cases q0 : s.ph = 0
  · obtain ⟨e1, e2, e3, e4⟩ := h.c0 q0
    have z : stC c cs s = cs := by unfold stC; rw [if_neg (by omega)]
    have bb := bgI_bd (c := c) s.fr hc
    rw [z, e2]
    unfold stK; rw [if_pos q0]
    refine al_look (s := ⟨0, s.fr, bgI c s.fr, c.c, s.lk, s.gt, s.nx⟩) hc h.wd0 h.len0 j0 bb.1 bb.2 e3 (by show c.c = c.c - j; omega) (by omega) ?_ (fun i a b d => by have := (dsA_bd hc f i).1; omega)
    show dsA c f (bgI c s.fr) = j
    rw [e4, e1]; unfold dsA; simp
  · by_cases q1 : s.ph = 1
    · obtain ⟨e1, e2, e3, e4, e5, e6, e7⟩ := h.c1 q1
      obtain ⟨a, b, d, e⟩ := h.ki.pos (by omega) (by omega)
      have z : stC c cs s = cs := by unfold stC; rw [if_neg (by omega)]
      rw [z, e3]
      unfold stK; rw [if_neg q0, if_pos q1]
      exact al_look hc h.wd0 h.len0 j0 a b e4 e5 e2 e6 e7
    · by_cases q2 : s.ph = 2
      · obtain ⟨e1, e2, e3, e4, e5, e6, e7, e8⟩ := h.c2 q2
        obtain ⟨a, b, d, e⟩ := h.ki.pos (by omega) (by omega)
        have hk := stK_ki (cs := cs) h.wd hc h.ki
        have ec : stK c cs s = ⟨3, s.fr, s.ix, s.lf, s.lk, packV s.ix (S.gnV s.lk) false, bhI c s.ix⟩ := by
          unfold stK; rw [if_neg q0, if_neg q1, if_pos q2]
          unfold takeK
          rw [if_pos ((tk_d hr h.len (by omega) b).2 (by rw [e3, e5]))]
        refine ⟨hk, stC_wd h.wd h.ki, by rw [stC_len]; exact h.len, h.wd0, h.len0, ?_, ?_, ?_, fun _ => Or.inl ⟨s.ix, ?_⟩⟩
        · rw [ec]; intro x; simp at x
        · rw [ec]; intro x; simp at x
        · rw [ec]; intro x; simp at x
        · rw [ec]
          refine ⟨rfl, a, b, by rw [← e5]; exact e6, by rw [← e5], fun i a1 b1 => ?_⟩
          rw [wd_step hr h.len h.ki (by omega) b1, e3]
          by_cases q : i = s.ix
          · rw [if_pos ⟨q2, q, by rw [q, e5]⟩, if_pos q, e5]
          · rw [if_neg (fun x => q x.2.1), if_neg q]
      · have e : stK c cs s = s := by unfold stK; rw [if_neg q0, if_neg q1, if_neg q2]
        have z : stC c cs s = cs := by unfold stC; rw [if_neg q2]
        rw [e, z]
        exact ⟨h.ki, h.wd, h.len, h.wd0, h.len0, fun x => absurd x q0, fun x => absurd x q1, fun x => absurd x q2, h.c3⟩
theorem AlS.fin {c : Cfg} {cs0 cs : List Int} {f : Int} {s : Ks} (h : AlS c cs0 f (c.c + 1) cs s) (hc : 1 ≤ c.c) : (∃ I, GotIt c cs0 cs s I) ∨ NoneFree c cs0 cs s := by
  by_cases q : 3 ≤ s.ph
  · exact h.c3 q
  · exfalso
    rcases (by omega : s.ph = 0 ∨ s.ph = 1 ∨ s.ph = 2) with e | e | e
    · have := h.c0 e; omega
    · have := h.c1 e; omega
    · have := h.c2 e; omega
/-- The slots' words, in order. -/
def ml (c : Cfg) (cs : List Int) (k : Nat) : List Int := (List.range k).map fun (i : Nat) => wdK c cs ((i : Int) + 1)
theorem ml_len (c : Cfg) (cs : List Int) (k : Nat) : (ml c cs k).length = k := by simp [ml]
theorem ml_next (c : Cfg) (cs : List Int) (k : Nat) : ml c cs (k + 1) = ml c cs k ++ [wdK c cs ((k : Int) + 1)] := by simp [ml, List.range_succ]
theorem ml_get (c : Cfg) (cs : List Int) {k i : Nat} (h : i < k) : (ml c cs k)[i]'(by rw [ml_len]; exact h) = wdK c cs ((i : Int) + 1) := by simp [ml]
end K
end Go.Proofs.YtmmpafhfanldbaaDoor
