/-
  The plain mathematics of two builds at once: on each level each field leads on only; what each machine holds; each step keeps it.
  Two builds over the same words: a step of the one keeps the other.
-/
import Derived.Test.YtkjjieklccbmoaaDoorBLaws
namespace Go.Proofs.YtkjjieklccbmoaaDoor
open Go.RowKit (Grown Hid Below)
open Go.Deep
namespace K
set_option maxRecDepth 100000
/-- Each field, on each level, leads on only; the keys are there. -/
structure Ri (c : Cfg) (l : Nd) (cs : List Int) : Prop where
  ln : (cs.length : Int) = lnV c
  nx : ∀ i L : Nat, i ≤ l.n → L < HN c → ∃ j b, fd c cs i (6 + L : Nat) = nw l.n j b ∧ (i = 0 → b = false) ∧ i < j ∧ j ≤ l.n + 1
  ky : ∀ i : Nat, 1 ≤ i → i ≤ l.n → fd c cs i 1 = l.K i
theorem Ri.chn {c : Cfg} {l : Nd} {cs : List Int} (h : Ri c l cs) {L : Nat} (hL : L < HN c) : Chn c l.n cs L (fun _ => False) (fun _ => True) :=
  ⟨fun i => i ≤ l.n, Nat.zero_le _, fun i hi => by
    obtain ⟨j, b, e, h0, h1, h2⟩ := h.nx i L hi hL
    exact ⟨trivial, hi, j, b, e, h0, h1, h2, id, fun _ _ _ => id⟩⟩
theorem swap_rd (cs : List Int) (x old v y : Int) : rdG (clV cs 3 x old v) y = rdG cs y ∨ (y = x ∧ rdG (clV cs 3 x old v) y = v) := by
  by_cases hx : hasC cs x
  · by_cases ho : rdG cs x = old
    · rw [(rd_swap cs x y old v hx ho).1]
      by_cases e : y = x
      · rw [if_pos e]; exact Or.inr ⟨e, rfl⟩
      · rw [if_neg e]; exact Or.inl rfl
    · left
      have hb : cs.getD x.toNat 0 = rdG cs x := by rw [rdG_eq, if_pos hx]
      have e : clV cs 3 x old v = cs := by
        unfold clV
        rw [if_pos hx, hb, show bhV 3 (rdG cs x) old v = rdG cs x by simp [bhV, ho], ← hb]
        have hl : x.toNat < cs.length := by unfold hasC at hx; omega
        rw [List.getD_eq_getElem?_getD, List.getElem?_eq_getElem hl]
        show cs.set x.toNat cs[x.toNat] = cs
        exact List.set_getElem_self hl
      rw [e]
  · left
    rw [show clV cs 3 x old v = cs from if_neg hx]
theorem Ri.swap {c : Cfg} {l : Nd} {cs : List Int} (hr : riB c = true) (ok : l.ok c) (h : Ri c l cs) {p L j : Nat} (hp : p ≤ l.n) (hL : L < HN c) (h1 : p < j) (h2 : j ≤ l.n + 1) (old : Int) : Ri c l (clV cs 3 (clV' c p (6 + L : Nat)) old (nw l.n j false)) := by
  have ip := inF_of hr ok (i := p) (f := 6 + L) hp (by omega)
  refine ⟨by rw [clV_len]; exact h.ln, fun i M hi hM => ?_, fun i a b => ?_⟩
  · have ii := inF_of hr ok (i := i) (f := 6 + M) hi (by omega)
    rcases swap_rd cs (clV' c p (6 + L : Nat)) old (nw l.n j false) (clV' c i (6 + M : Nat)) with e | ⟨e, e2⟩
    · obtain ⟨q, b, e3, r⟩ := h.nx i M hi hM
      exact ⟨q, b, e.trans e3, r⟩
    · have z := cl_inj ii ip e
      have zi : i = p := by omega
      subst zi
      exact ⟨j, false, e2, fun _ => rfl, h1, h2⟩
  · have ii := inF_of hr ok (i := i) (f := 1) b (by omega)
    rcases swap_rd cs (clV' c p (6 + L : Nat)) old (nw l.n j false) (clV' c i (1 : Nat)) with e | ⟨e, e2⟩
    · have z := h.ky i a b
      unfold fd at z ⊢
      rw [← z]; exact e
    · have z := cl_inj ii ip e
      omega
theorem Ri.pub {c : Cfg} {l : Nd} {cs : List Int} (h : Ri c l cs) (a b v : Int) : Ri c l (clV cs 2 (rsV c a b) 0 v) := by
  refine ⟨by rw [clV_len]; exact h.ln, fun i M hi hM => ?_, fun i x y => ?_⟩
  · rw [fd_pub]; exact h.nx i M hi hM
  · rw [fd_pub]; exact h.ky i x y
/-- What a find holds, whatever others do. -/
structure Rf (l : Nd) (k : Int) (f : Fm) : Prop where
  fk : f.k = k
  run : ∃ p, p ≤ l.n ∧ f.pr = hw p ∧ (p = 0 ∨ l.K p < k) ∧ (1 ≤ f.nx → ∃ x, p < x ∧ x ≤ l.n ∧ f.x = hw x ∧ (f.nx = 4 → ∃ j b, f.s = nw l.n j b ∧ x < j ∧ j ≤ l.n + 1))
  ps : ∀ x ∈ f.ps, ∃ p, p ≤ l.n ∧ x = hw p ∧ (p = 0 ∨ l.K p < k)
  ls : f.ss.length = f.ks.length
  nt : ∀ i, i < f.ss.length → f.ss.getD i 0 = 0 ∨ ∃ j, 1 ≤ j ∧ j ≤ l.n ∧ f.ss.getD i 0 = hw j ∧ f.ks.getD i 0 = l.K j ∧ k ≤ l.K j
theorem Rf.anew {l : Nd} {k : Int} {f : Fm} (h : f.k = k) (a : Int) : Rf l k (f.anew a) :=
  ⟨h, ⟨0, Nat.zero_le _, rfl, Or.inl rfl, fun z => absurd z (by show ¬ 1 ≤ 0; omega)⟩, fun x hx => absurd hx (by show ¬ x ∈ []; simp), rfl, fun i hi => absurd hi (by show ¬ i < 0; omega)⟩
theorem Rf.S (l : Nd) (k : Int) : Rf l k (fmS k) := Rf.anew (f := ⟨k, 0, 0, 0, 0, 0, 0, [], [], [], 0, false⟩) rfl 0
theorem getD_snoc (xs : List Int) (y : Int) (i : Nat) : (xs ++ [y]).getD i 0 = if i < xs.length then xs.getD i 0 else if i = xs.length then y else 0 := by
  rw [List.getD_eq_getElem?_getD, List.getD_eq_getElem?_getD]
  by_cases h : i < xs.length
  · rw [if_pos h, List.getElem?_append_left h]
  · rw [if_neg h, List.getElem?_append_right (by omega)]
    by_cases e : i = xs.length
    · rw [if_pos e, e]; simp
    · rw [if_neg e, List.getElem?_eq_none (by simp; omega)]; rfl
theorem Rf.ended {l : Nd} {k : Int} {f : Fm} (h : Rf l k f) (c : Cfg) (a su ke : Int) (hs : su = 0 ∨ ∃ j, 1 ≤ j ∧ j ≤ l.n ∧ su = hw j ∧ ke = l.K j ∧ k ≤ l.K j) : Rf l k (f.ended c a su ke) := by
  obtain ⟨p, p1, p2, p3, _⟩ := h.run
  have le := h.ls
  refine ⟨h.fk, ⟨p, p1, p2, p3, fun z => absurd z (by show ¬ 1 ≤ 0; omega)⟩, fun x hx => ?_, ?_, fun i hi => ?_⟩
  · have hx' : x ∈ f.ps ++ [f.pr] := hx
    rcases List.mem_append.1 hx' with q | q
    · exact h.ps x q
    · simp at q; exact ⟨p, p1, q.trans p2, p3⟩
  · show (f.ss ++ [su]).length = (f.ks ++ [ke]).length
    simp; exact le
  · show (f.ss ++ [su]).getD i 0 = 0 ∨ ∃ j, 1 ≤ j ∧ j ≤ l.n ∧ (f.ss ++ [su]).getD i 0 = hw j ∧ (f.ks ++ [ke]).getD i 0 = l.K j ∧ k ≤ l.K j
    have hi' : i < (f.ss ++ [su]).length := hi
    simp at hi'
    rw [getD_snoc, getD_snoc]
    by_cases e : i < f.ss.length
    · rw [if_pos e, if_pos (by omega)]; exact h.nt i e
    · rw [if_neg e, if_pos (by omega), if_neg (by omega), if_pos (by omega)]; exact hs
theorem n_small {c : Cfg} {l : Nd} (R : Rt c) (ok : l.ok c) : l.n < 1000 := by have := ok.n; have := R.c1; omega
theorem Rf.step {c : Cfg} {l : Nd} {cs : List Int} {k : Int} {f : Fm} (hr : riB c = true) (ok : l.ok c) (h : Ri c l cs) (fi : FI c f) (r : Rf l k f) (cnt : Int) (g : Gs) : Rf l k (fF c cs cnt g f) ∧ Ri c l (fC c cs g f) := by
  have R := riB_true.1 hr
  have ns := n_small R ok
  by_cases hd : f.d = true
  · obtain ⟨e1, e2, _⟩ := fF_done (c := c) (cs := cs) (cnt := cnt) (g := g) hd
    rw [e1, show fC c cs g f = cs from if_pos hd]; exact ⟨r, h⟩
  have hdn : f.dn < HN c := by
    have z := fi.d
    by_cases q : HN c ≤ f.dn
    · rw [decide_eq_true q] at z; exact absurd z hd
    · omega
  have hL : HN c - 1 - f.dn < HN c := by omega
  have le := lv_eq R hdn
  obtain ⟨p, p1, p2, p3, p4⟩ := r.run
  have hx : ixV f.pr = p := by rw [p2]; exact hw_ix (by omega)
  have nC : f.nx ≠ 2 → f.nx ≠ 4 → fC c cs g f = cs := fun a b => by unfold fC; rw [if_neg hd, if_neg a, if_neg b]
  rcases (by have := fi.nx; omega : f.nx = 0 ∨ f.nx = 1 ∨ f.nx = 2 ∨ f.nx = 3 ∨ f.nx = 4 ∨ f.nx = 5) with e | e | e | e | e | e
  · have ef : fF c cs cnt g f = if mkB (rdW c cs f) = true then f.anew (atF c cnt f) else if vlB (rdW c cs f) = false then f.ended c (atF c cnt f) 0 0 else { f with x := rdW c cs f, nx := 1, at_ := atF c cnt f } := by unfold fF; rw [if_neg hd, e]; rfl
    rw [ef, nC (by omega) (by omega)]
    refine ⟨?_, h⟩
    obtain ⟨j, b, w1, w2, w3, w4⟩ := h.nx p (HN c - 1 - f.dn) p1 hL
    have er : rdW c cs f = nw l.n j b := by unfold rdW; rw [hx, le]; exact w1
    rw [er]
    by_cases hb : b = true
    · rw [if_pos (by rw [nw_mk (by omega)]; exact hb)]; exact Rf.anew r.fk _
    · have hb' : b = false := by simpa using hb
      subst hb'
      rw [if_neg (by rw [nw_mk (by omega)]; decide), nw_vl (by omega)]
      by_cases hj : j ≤ l.n
      · rw [if_neg (by rw [decide_eq_true hj]; decide), nw_hw hj]
        exact ⟨r.fk, ⟨p, p1, p2, p3, fun _ => ⟨j, w3, hj, rfl, fun z => absurd z (by show ¬ 1 = 4; omega)⟩⟩, r.ps, r.ls, r.nt⟩
      · rw [if_pos (decide_eq_false hj)]
        exact r.ended c _ 0 0 (Or.inl rfl)
  · have ef : fF c cs cnt g f = { f with era := rdG cs 0, nx := if rdG cs 0 = g.l then 3 else 2 } := by unfold fF; rw [if_neg hd, e]; rfl
    rw [ef, nC (by omega) (by omega)]
    refine ⟨⟨r.fk, ⟨p, p1, p2, p3, fun _ => ?_⟩, r.ps, r.ls, r.nt⟩, h⟩
    obtain ⟨x, x1, x2, x3, _⟩ := p4 (by omega)
    exact ⟨x, x1, x2, x3, fun z => absurd z (by show ¬ (if rdG cs 0 = g.l then 3 else 2) = 4; split <;> omega)⟩
  · have ef : fF c cs cnt g f = if g.u < c.s then { f with nx := 0 } else f.anew f.at_ := by unfold fF; rw [if_neg hd, e]; rfl
    have eC : fC c cs g f = clV cs 2 (rsV c g.t (pubN c g)) 0 f.era := by unfold fC; rw [if_neg hd, if_pos e]
    rw [ef, eC]
    refine ⟨?_, h.pub _ _ _⟩
    split
    · exact ⟨r.fk, ⟨p, p1, p2, p3, fun z => absurd z (by show ¬ 1 ≤ 0; omega)⟩, r.ps, r.ls, r.nt⟩
    · exact Rf.anew r.fk _
  · obtain ⟨x, x1, x2, x3, _⟩ := p4 (by omega)
    have ef : fF c cs cnt g f = { f with s := fd c cs (ixV f.x) (6 + lv c f), nx := if mkB (fd c cs (ixV f.x) (6 + lv c f)) = true then 4 else 5 } := by unfold fF; rw [if_neg hd, e]; rfl
    rw [ef, nC (by omega) (by omega)]
    refine ⟨⟨r.fk, ⟨p, p1, p2, p3, fun _ => ⟨x, x1, x2, x3, fun _ => ?_⟩⟩, r.ps, r.ls, r.nt⟩, h⟩
    obtain ⟨j, b, w1, _, w3, w4⟩ := h.nx x (HN c - 1 - f.dn) x2 hL
    exact ⟨j, b, by show fd c cs (ixV f.x) (6 + lv c f) = _; rw [x3, hw_ix (by omega), le]; exact w1, w3, w4⟩
  · obtain ⟨x, x1, x2, x3, x4⟩ := p4 (by omega)
    obtain ⟨j, b, s1, s2, s3⟩ := x4 e
    have ef : fF c cs cnt g f = if (acV cs 3 (clV' c (ixV f.pr) (6 + lv c f)) (plainV f.pr) f.x (plainV f.s)).d = true then { f with nx := 0 } else f.anew f.at_ := by unfold fF; rw [if_neg hd, e]; rfl
    have eC : fC c cs g f = clV cs 3 (clV' c (ixV f.pr) (6 + lv c f)) f.x (plainV f.s) := by unfold fC; rw [if_neg hd, if_neg (by omega), if_pos e]
    rw [ef, eC]
    refine ⟨?_, ?_⟩
    · split
      · exact ⟨r.fk, ⟨p, p1, p2, p3, fun z => absurd z (by show ¬ 1 ≤ 0; omega)⟩, r.ps, r.ls, r.nt⟩
      · exact Rf.anew r.fk _
    · rw [hx, le, s1, nw_pl (by omega)]
      exact h.swap hr ok p1 hL (by omega) s3 _
  · obtain ⟨x, x1, x2, x3, _⟩ := p4 (by omega)
    have ef : fF c cs cnt g f = if f.k ≤ fd c cs (ixV f.x) 1 then f.ended c f.at_ f.x (fd c cs (ixV f.x) 1) else { f with pr := f.x, nx := 0 } := by unfold fF; rw [if_neg hd, e]; rfl
    have ek : fd c cs (ixV f.x) 1 = l.K x := by rw [x3, hw_ix (by omega)]; exact h.ky x (by omega) x2
    rw [ef, nC (by omega) (by omega), ek, r.fk]
    refine ⟨?_, h⟩
    by_cases hk : k ≤ l.K x
    · rw [if_pos hk]
      exact r.ended c _ _ _ (Or.inr ⟨x, by omega, x2, x3, rfl, hk⟩)
    · rw [if_neg hk]
      exact ⟨rfl, ⟨x, x2, x3, Or.inr (by omega), fun z => absurd z (by show ¬ 1 ≤ 0; omega)⟩, r.ps, r.ls, r.nt⟩
theorem Rf.su {l : Nd} {k : Int} {f : Fm} (r : Rf l k f) (v : Int) : enV f.d f.ss v = 0 ∨ ∃ j, 1 ≤ j ∧ j ≤ l.n ∧ enV f.d f.ss v = hw j ∧ enV f.d f.ks v = l.K j ∧ k ≤ l.K j := by
  unfold enV
  rw [← r.ls]
  split
  · rename_i q
    exact r.nt _ (by omega)
  · exact Or.inl rfl
theorem Rf.pr {l : Nd} {k : Int} {f : Fm} (hn : l.n < 1000) (r : Rf l k f) (v : Int) : ∃ p : Nat, p ≤ l.n ∧ ixV (enV f.d f.ps v) = p ∧ (p = 0 ∨ l.K p < k) := by
  unfold enV
  split
  · rename_i q
    have hi : f.ps.length - 1 - v.toNat < f.ps.length := by omega
    obtain ⟨p, p1, p2, p3⟩ := r.ps _ (List.getElem_mem hi)
    refine ⟨p, p1, ?_, p3⟩
    rw [List.getD_eq_getElem?_getD, List.getElem?_eq_getElem hi]
    show ixV f.ps[f.ps.length - 1 - v.toNat] = p
    rw [p2]; exact hw_ix (by omega)
  · exact ⟨0, Nat.zero_le _, by decide, Or.inl rfl⟩
/-- What a build of the node z holds, whatever others do. -/
structure Rb (l : Nd) (z : Nat) (s : Bm) : Prop where
  z1 : 1 ≤ z
  zn : z ≤ l.n
  sh : s.h = hw z
  sk : s.k = l.K z
  rf : Rf l (l.K z) s.f
  su : s.d = false → 1 ≤ s.nx → ∃ j, s.su = nw l.n j false ∧ z < j ∧ j ≤ l.n + 1
theorem up_lt {c : Cfg} {l : Nd} (ok : l.ok c) {i j : Nat} (hi : i ≤ l.n) (h : l.K i < l.K j) (j1 : 1 ≤ j) (hj : j ≤ l.n) : i < j := by
  rcases Nat.lt_trichotomy i j with q | q | q
  · exact q
  · subst q; omega
  · have := ok.up j i j1 q hi; omega
theorem Rb.look {c : Cfg} {l : Nd} {z : Nat} {s : Bm} (ok : l.ok c) (z1 : 1 ≤ z) (zn : z ≤ l.n) (sh : s.h = hw z) (sk : s.k = l.K z) (rf : Rf l (l.K z) s.f) : Rb l z (s.look c) := by
  refine ⟨z1, zn, sh, sk, rf, fun hd _ => ?_⟩
  obtain ⟨_, _, no⟩ := look_d hd
  show ∃ j, s.su = nw l.n j false ∧ z < j ∧ j ≤ l.n + 1
  rcases rf.su s.lv with q | ⟨j, j1, j2, j3, j4, j5⟩
  · exact ⟨l.n + 1, by rw [nw_0]; exact q, by omega, Nat.le_refl _⟩
  · have e1 : s.su = hw j := j3
    have e2 : s.ke = l.K j := j4
    have hne : ¬ l.K j = l.K z := fun e => no ⟨by rw [e1]; unfold hw; omega, by rw [e2, sk, e]⟩
    exact ⟨j, by rw [nw_hw j2]; exact e1, up_lt ok zn (by omega) j1 j2, by omega⟩
theorem Rb.step {c : Cfg} {l : Nd} {cs : List Int} {z : Nat} {s : Bm} (hr : riB c = true) (ok : l.ok c) (h : Ri c l cs) (bi : BI c s) (r : Rb l z s) (cnt : Int) (g : Gs) : Rb l z (bF c cs cnt g s) ∧ Ri c l (bC c cs g s) := by
  have R := riB_true.1 hr
  have hh := HN_eq R
  have nn := n_small R ok
  cases hd : s.d with
  | true =>
    obtain ⟨e1, e2, _⟩ := bF_done (c := c) (cs := cs) (cnt := cnt) (g := g) hd
    rw [e1, e2]; exact ⟨r, h⟩
  | false =>
    rcases (by have := bi.nx; omega : s.nx = 0 ∨ s.nx = 1 ∨ s.nx = 2 ∨ s.nx = 3) with e | e | e | e
    · obtain ⟨e1, e2, _⟩ := bF_0 (c := c) (cs := cs) (cnt := cnt) (g := g) hd e
      obtain ⟨rf, ri⟩ := r.rf.step hr ok h bi.fi cnt g
      rw [e1, e2]
      refine ⟨?_, ri⟩
      split
      · exact Rb.look (s := { s with f := fF c cs cnt g s.f }) ok r.z1 r.zn r.sh r.sk rf
      · exact ⟨r.z1, r.zn, r.sh, r.sk, rf, fun _ q => absurd q (by show ¬ 1 ≤ s.nx; omega)⟩
    · obtain ⟨e1, e2, _⟩ := bF_1 (c := c) (cs := cs) (cnt := cnt) (g := g) hd e
      rw [e1, e2]
      exact ⟨⟨r.z1, r.zn, r.sh, r.sk, r.rf, fun _ _ => r.su hd (by omega)⟩, h⟩
    · obtain ⟨e1, e2, _⟩ := bF_2 (c := c) (cs := cs) (cnt := cnt) (g := g) hd e
      obtain ⟨j, j1, j2, j3⟩ := r.su hd (by omega)
      have f1 := bi.f1 hd (by omega)
      have l1 := bi.l1
      rw [e1, e2]
      refine ⟨⟨r.z1, r.zn, r.sh, r.sk, r.rf, fun _ _ => ⟨j, j1, j2, j3⟩⟩, ?_⟩
      have hz := r.zn
      rw [r.sh, hw_ix (by omega), j1, show 6 + s.lv = ((6 + s.lv.toNat : Nat) : Int) by omega]
      exact h.swap hr ok hz (by omega) j2 j3 _
    · obtain ⟨e1, e2, _⟩ := bF_3 (c := c) (cs := cs) (cnt := cnt) (g := g) hd e
      have f1 := bi.f1 hd (by omega)
      have l1 := bi.l1
      have hz := r.zn
      rw [e1, e2]
      refine ⟨?_, ?_⟩
      · split
        · exact Rb.look (s := { s with lv := s.lv + 1 }) ok r.z1 r.zn r.sh r.sk r.rf
        · exact ⟨r.z1, r.zn, r.sh, r.sk, by show Rf l (l.K z) (fmS s.k); rw [r.sk]; exact Rf.S _ _, fun _ q => absurd q (by show ¬ 1 ≤ 0; omega)⟩
      · obtain ⟨p, p1, p2, p3⟩ := r.rf.pr nn s.lv
        have e3 : ixV s.pr = p := p2
        have hpz : p < z := by
          rcases p3 with q | q
          · have := r.z1; omega
          · by_cases p0 : p = 0
            · have := r.z1; omega
            · exact up_lt ok p1 q r.z1 hz
        rw [e3, r.sh, ← nw_hw hz, show 6 + s.lv = ((6 + s.lv.toNat : Nat) : Int) by omega]
        exact h.swap hr ok p1 (by omega) hpz (by omega) _
theorem Rb.start {l : Nd} {z : Nat} (z1 : 1 ≤ z) (zn : z ≤ l.n) (tl : Int) : Rb l z (bmS (hw z) (l.K z) tl) :=
  ⟨z1, zn, rfl, rfl, Rf.S _ _, fun _ q => absurd q (by show ¬ 1 ≤ 0; omega)⟩
theorem Ri.laid {c : Cfg} {ns : List Nn} (h : RightN c ns) : Ri c (ndOf c ns) (layV c ns) := by
  have R := riB_true.1 h.r
  have ok := h.ok
  have L := Ld.laid h
  have rp := L.rep ok
  have sk := Sk.laid (c := c) ok
  refine ⟨L.len, fun i M hi hM => ?_, rp.ky⟩
  by_cases o : On (ndOf c ns) M i
  · exact ⟨_, _, rp.nx M i o, (fun e => by subst e; exact decide_eq_false (by have := ok.h0.1; have := ok.h0.2; omega)), (sk.lt M i o).1, (sk.lt M i o).2⟩
  · have i0 : ¬ i = 0 := fun e => o ⟨hi, by subst e; rw [ok.h0.1]; exact hM⟩
    have hnn : (ndOf c ns).n = ns.length := rfl
    have z := lay_zero h (i := i) (L := M) (by omega) (by omega) hM (by
      by_cases q : (ndOf c ns).tl i ≤ M
      · exact q
      · exact absurd ⟨hi, by omega⟩ o) ns.length (Nat.le_refl _)
    exact ⟨(ndOf c ns).n + 1, false, by rw [nw_0]; exact z, fun e => absurd e i0, by omega, Nat.le_refl _⟩
end K
end Go.Proofs.YtkjjieklccbmoaaDoor
namespace Go.Proofs.YtkjjieklccbmoaaDoor
open Go.RowKit (Grown Hid Below)
open Go.Deep
namespace K
set_option maxRecDepth 100000
theorem FS.rebase {base base2 : Nat → Prop} {w : World} {b : Nat} {c : Cfg} {f : Fm} (h : FS base w b c f) (hr : ∀ q, RowOf w b q → base q → base2 q) : FS base2 w b c f := by
  obtain ⟨p, z | ⟨x, s, era, lw, g, A, z⟩⟩ := h
  · exact ⟨p, Or.inl z⟩
  · exact ⟨p, Or.inr ⟨x, s, era, lw, g, A, z.fb, z.eb, z.hA, hr g ⟨_, _, _, _, _, _, _, _, _, z.fb⟩ z.hg, z.nt, z.lw, z.hx, z.hs, z.he⟩⟩
section
variable {base base2 : Nat → Prop} {w0 w w' : World} {b fb gb m p r : Nat} {c : Cfg} {g : Gs} {s : Bm} {cs : List Int} {cnt : Int} {a : Acc}
theorem Bw.row (h : Bw base w0 w b fb gb m p r c g s cs cnt a) {q : Nat} (hq : RowOf w fb q) : base q ∧ q < w.heap.size := by
  rcases h.fw.st.fs.2 with z | ⟨x, s, era, lw, gg, A, z⟩
  · obtain ⟨_, _, _, _, _, _, _, _, _, hq⟩ := hq
    have z := z.fb
    unfold FB at hq z; rw [z] at hq; simp at hq
  · have e := RowOf.same hq ⟨_, _, _, _, _, _, _, _, _, z.fb⟩
    subst e
    exact ⟨z.hg, lt_of_blk z.eb⟩
theorem Bw.rebase (h : Bw base w0 w b fb gb m p r c g s cs cnt a) (hr : ∀ q, RowOf w fb q → base q → base2 q) (hs : ∀ z, w.heap.size ≤ z → base2 z) (ho : ∀ z, base2 z → w0.heap.size ≤ z) : Bw base2 w0 w b fb gb m p r c g s cs cnt a :=
  ⟨h.bb, ⟨⟨h.fw.st.R, h.fw.st.fs.rebase hr, h.fw.st.gd, h.fw.st.mm, h.fw.st.tb, h.fw.st.fi, h.fw.st.wd, h.fw.st.u0, h.fw.st.u1, h.fw.st.g0, hs⟩, h.fw.kp, h.fw.ob, h.fw.og, h.fw.op, h.fw.ow, ho, h.fw.n0, h.fw.t0⟩, h.bi, h.ob⟩
end
theorem Bp.norow {w0 w : World} {b fb m p r : Nat} {c : Cfg} {h k tl : Int} {cs : List Int} {cnt : Int} {a : Acc} (x : Bp w0 w b fb m p r c h k tl cs cnt a) (q : Nat) : ¬ RowOf w fb q := by
  rintro ⟨_, _, _, _, _, _, _, _, _, hq⟩
  have z := x.ff
  unfold FB at hq z; rw [z] at hq; simp at hq
theorem nin5 {x a b c d e : Nat} (h1 : ¬ x = a) (h2 : ¬ x = b) (h3 : ¬ x = c) (h4 : ¬ x = d) (h5 : ¬ x = e) : x ∉ [a, b, c, d, e] := by simp [h1, h2, h3, h4, h5]
/-- Two builds, each with its find and its guard, over the same words. -/
structure Tw (w0 w : World) (b fb gb : Nat) (g : Gs) (s : Bm) (b2 fb2 gb2 : Nat) (g2 : Gs) (s2 : Bm) (m p r : Nat) (c : Cfg) (cs : List Int) (cnt : Int) (a : Acc) : Prop where
  x : Bw (Bh w0) w0 w b fb gb m p r c g s cs cnt a
  y : Bw (Bh w0) w0 w b2 fb2 gb2 m p r c g2 s2 cs cnt a
  nb : ¬ b = b2
  nf : ¬ fb = fb2
  ng : ¬ gb = gb2
  ap : ∀ q, RowOf w fb q → ¬ RowOf w fb2 q
section
variable {w0 w w' : World} {b fb gb b2 fb2 gb2 m p r : Nat} {c : Cfg} {g g2 : Gs} {s s2 : Bm} {cs : List Int} {cnt : Int} {a : Acc}
theorem Tw.flip (h : Tw w0 w b fb gb g s b2 fb2 gb2 g2 s2 m p r c cs cnt a) : Tw w0 w b2 fb2 gb2 g2 s2 b fb gb g s m p r c cs cnt a :=
  ⟨h.y, h.x, fun e => h.nb e.symm, fun e => h.nf e.symm, fun e => h.ng e.symm, fun q h1 h2 => h.ap q h2 h1⟩
theorem RowOf.back {base : Nat → Prop} {c : Cfg} {f : Fm} {l : List Nat} (h : FS base w fb c f) (k : Kept l w w') (hb : fb ∉ l) {q : Nat} (hq : RowOf w' fb q) : RowOf w fb q := by
  obtain ⟨_, _, _, _, _, _, _, _, _, hq⟩ := hq
  rcases h.2 with z | ⟨x, s, era, lw, gg, A, z⟩
  · have y := z.fb.kept k hb
    unfold FB at hq y; rw [y] at hq; simp at hq
  · have y := z.fb.kept k hb
    unfold FB at hq y; rw [y] at hq; simp at hq
    have e := hq.2.2.2.2.2.2.2.1.1
    rw [← e]
    exact ⟨_, _, _, _, _, _, _, _, _, z.fb⟩
theorem Tw.mm {cnt' : Int} {a' : Acc} (h : Tw w0 w b fb gb g s b2 fb2 gb2 g2 s2 m p r c cs cnt a) (M : Mm w' m p r c cs cnt' a') (K : Kept [p, r] w w') (n0 : 0 ≤ cnt') : Tw w0 w' b fb gb g s b2 fb2 gb2 g2 s2 m p r c cs cnt' a' := by
  have n1 := fs_nm h.x.fw.st.fs h.x.fw.st.mm
  have n2 := fs_nm h.y.fw.st.fs h.y.fw.st.mm
  exact ⟨h.x.mm M K n0, h.y.mm M K n0, h.nb, h.nf, h.ng, fun q h1 h2 => h.ap q (RowOf.back h.x.fw.st.fs K (by simp; omega) h1) (RowOf.back h.y.fw.st.fs K (by simp; omega) h2)⟩
theorem Tw.new (h : Tw w0 w b fb gb g s b2 fb2 gb2 g2 s2 m p r c cs cnt a) (K : Kept [] w w') : Tw w0 w' b fb gb g s b2 fb2 gb2 g2 s2 m p r c cs cnt a :=
  ⟨h.x.new K, h.y.new K, h.nb, h.nf, h.ng, fun q h1 h2 => h.ap q (RowOf.back h.x.fw.st.fs K (by simp) h1) (RowOf.back h.y.fw.st.fs K (by simp) h2)⟩
theorem Tw.step (h : Tw w0 w b fb gb g s b2 fb2 gb2 g2 s2 m p r c cs cnt a) (c1 : cnt < 4611686018427387904) :
    Calls Tryd.prog 20 #[.pointer (some ⟨b, 0, none⟩), .pointer (some ⟨m, 0, none⟩), .pointer (some ⟨gb, 0, none⟩)] w fun e w' => e = .returned (.tuple #[]) ∧ ∃ fb', Tw w0 w' b fb' gb (bG c g s) (bF c cs cnt g s) b2 fb2 gb2 g2 s2 m p r c (bC c cs g s) (bN cnt s) (bA c cs g s a) := by
  have X := h.x.rebase (base2 := fun z => w0.heap.size ≤ z ∧ ¬ RowOf w fb2 z) (fun q hq hb => ⟨hb, h.ap q hq⟩) (fun z hz => ⟨by have := h.x.fw.kp.size; omega, fun q => by have := (h.y.row q).2; omega⟩) (fun z hz => hz.1)
  refine (bstep_any X c1).mono fun e w' hh => ?_
  obtain ⟨e1, fb', hf, B, K⟩ := hh
  have hY := h.y
  have hbb := hY.bb
  have hgd := hY.fw.st.gd
  have hfs := hY.fw.st.fs
  have hmm := hY.fw.st.mm
  obtain ⟨⟨n1, n2, n3⟩, n4, n5⟩ := hY.nm
  have m1 := fs_nm hfs hmm
  have g1 := hgd.nm hmm
  have nb := h.nb
  have nf := h.nf
  have ng := h.ng
  have x1 : ¬ b2 = fb := fun e => fs_blk h.x.fw.st.fs hbb (by decide) e.symm
  have x2 : ¬ b2 = gb := blk_ne (T1 := 64) hbb h.x.fw.st.gd (by decide)
  have x3 : ¬ fb2 = b := fun e => fs_blk hfs h.x.bb (by decide) e
  have x4 : ¬ fb2 = gb := fun e => fs_blk hfs h.x.fw.st.gd (by decide) e
  have x5 : ¬ gb2 = b := blk_ne (T1 := 88) hgd h.x.bb (by decide)
  have x6 : ¬ gb2 = fb := fun e => fs_blk h.x.fw.st.fs hgd (by decide) e.symm
  have AP := hfs.apart K (nin5 x3 (fun e => nf e.symm) x4 m1.2.1 m1.2.2) (fun q hq hb => hb.2 hq) (fun q A hq => by
    have y1 := blk_ne (T1 := 118) hq h.x.bb (by decide)
    have y2 : ¬ q = fb := fun e => fs_blk h.x.fw.st.fs hq (by decide) e.symm
    have y3 := blk_ne (T1 := 118) hq h.x.fw.st.gd (by decide)
    have y4 := blk_ne (T1 := 118) hq hmm.bk.st (by decide)
    have y5 := blk_ne (T1 := 118) hq hmm.bk.row (by decide)
    exact nin5 y1 y2 y3 y4 y5)
  have lt2 := fs_lt hfs
  have sz0 := h.x.fw.kp.size
  refine ⟨e1, fb', B.rebase (fun q _ hb => hb.1) (fun z hz => by show w0.heap.size ≤ z; have := K.size; omega) (fun z hz => hz), ?_, nb, ?_, ng, fun q h1 h2 => (B.row h1).1.2 (AP.2 q h2)⟩
  · exact ⟨K.blk hbb (by decide) (nin5 (fun e => nb e.symm) x1 x2 n2 n3), ⟨⟨hY.fw.st.R, AP.1, K.blk hgd (by decide) (nin5 x5 x6 (fun e => ng e.symm) g1.2.1 g1.2.2), B.fw.st.mm, B.fw.st.tb, hY.fw.st.fi, B.fw.st.wd, hY.fw.st.u0, hY.fw.st.u1, hY.fw.st.g0, fun z hz => hY.fw.st.bs z (Nat.le_trans K.size hz)⟩, B.fw.kp, hY.fw.ob, hY.fw.og, hY.fw.op, hY.fw.ow, hY.fw.os, B.fw.n0, hY.fw.t0⟩, hY.bi, hY.ob⟩
  · rcases hf with e | e
    · rw [e]; exact nf
    · omega
end
end K
end Go.Proofs.YtkjjieklccbmoaaDoor
