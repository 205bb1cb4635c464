/-
  The plain mathematics of a find: a machine over a world's words, as a function; nodes that were laid; what holds at each step of it, alone.
-/
import Derived.Test.YtgafmklfpiipcaaGreatDoorGMath
import Derived.Test.YtgafmklfpiipcaaGreatDoorHWords2
namespace Go.Proofs.YtgafmklfpiipcaaGreatDoor
open Go.RowKit (Grown Hid Below)
open Go.Deep
namespace K
set_option maxRecDepth 100000
/-- What a field of the node of that index tells. -/
def fd (c : Cfg) (cs : List Int) (i f : Int) : Int := rdG cs (clV' c i f)
/-- A find: its key; what comes next (0 read, 1 check, 2 publish, 3 peek, 4 unlink, 5 key); how many levels ended, from the highest one down; pred, x, s, the era; what was noted. -/
structure Fm where
  k : Int
  nx : Nat
  dn : Nat
  pr : Int
  x : Int
  s : Int
  era : Int
  ps : List Int
  ss : List Int
  ks : List Int
  at_ : Int
  d : Bool
def Fm.anew (f : Fm) (a : Int) : Fm := ⟨f.k, 0, 0, 9223372036854775808, 0, 0, 0, [], [], [], a, false⟩
def Fm.ended (f : Fm) (c : Cfg) (a su ke : Int) : Fm := ⟨f.k, 0, f.dn + 1, f.pr, f.x, f.s, f.era, f.ps ++ [f.pr], f.ss ++ [su], f.ks ++ [ke], a, decide (c.h ≤ (f.dn + 1 : Nat))⟩
def lv (c : Cfg) (f : Fm) : Int := c.h - 1 - f.dn
def rdW (c : Cfg) (cs : List Int) (f : Fm) : Int := fd c cs (ixV f.pr) (6 + lv c f)
def atF (c : Cfg) (cnt : Int) (f : Fm) : Int := if lv c f = 0 then cnt + 1 else f.at_
/-- The machine behind a step; the cells; the guard. -/
def fF (c : Cfg) (cs : List Int) (cnt : Int) (g : Gs) (f : Fm) : Fm :=
  if f.d = true then f else
  match f.nx with
  | 0 => if mkB (rdW c cs f) = true then f.anew (atF c cnt f) else if vlB (rdW c cs f) = false then f.ended c (atF c cnt f) 0 0 else { f with x := rdW c cs f, nx := 1, at_ := atF c cnt f }
  | 1 => { f with era := rdG cs 0, nx := if rdG cs 0 = g.l then 3 else 2 }
  | 2 => if g.u < c.s then { f with nx := 0 } else f.anew f.at_
  | 3 => { f with s := fd c cs (ixV f.x) (6 + lv c f), nx := if mkB (fd c cs (ixV f.x) (6 + lv c f)) = true then 4 else 5 }
  | 4 => if (acV cs 3 (clV' c (ixV f.pr) (6 + lv c f)) (plainV f.pr) f.x (plainV f.s)).d = true then { f with nx := 0 } else f.anew f.at_
  | _ => if f.k ≤ fd c cs (ixV f.x) 1 then f.ended c f.at_ f.x (fd c cs (ixV f.x) 1) else { f with pr := f.x, nx := 0 }
def fC (c : Cfg) (cs : List Int) (g : Gs) (f : Fm) : List Int :=
  if f.d = true then cs else if f.nx = 2 then clV cs 2 (rsV c g.t (pubN c g)) 0 f.era else if f.nx = 4 then clV cs 3 (clV' c (ixV f.pr) (6 + lv c f)) f.x (plainV f.s) else cs
def fG (c : Cfg) (g : Gs) (f : Fm) : Gs := if f.d = true then g else if f.nx = 2 then pubG c g f.era else g
/-! Words of nodes. -/
def hw (i : Nat) : Int := 9223372036854775808 + i
theorem hw_ix {i : Nat} (h : i < 4294967296) : ixV (hw i) = i := by unfold ixV hw; omega
theorem hw_mk {i : Nat} (h : i < 4294967296) : mkB (hw i) = false := by
  unfold mkB hw
  rw [show (9223372036854775808 + (i : Int)) / 4294967296 / 1073741824 = 2 by omega]; rfl
theorem hw_vl {i : Nat} (h : i < 4294967296) : vlB (hw i) = true := by
  unfold vlB hw
  rw [show (9223372036854775808 + (i : Int)) / 4294967296 / 1073741824 = 2 by omega]; rfl
/-- The word that names the node, or none, with a mark or without. -/
def nw (n j : Nat) (b : Bool) : Int := (if j ≤ n then hw j else 0) + (if b = true then 4611686018427387904 else 0)
theorem nw_mk {n j : Nat} (hn : n < 4294967296) (b : Bool) : mkB (nw n j b) = b := by
  unfold nw mkB hw
  cases b
  · split
    · rw [show ((9223372036854775808 + (j : Int)) + (if false = true then 4611686018427387904 else 0)) / 4294967296 / 1073741824 = 2 by simp; omega]; rfl
    · rfl
  · split
    · rw [show ((9223372036854775808 + (j : Int)) + (if true = true then 4611686018427387904 else 0)) / 4294967296 / 1073741824 = 3 by simp; omega]; rfl
    · rfl
theorem nw_vl {n j : Nat} (hn : n < 4294967296) : vlB (nw n j false) = decide (j ≤ n) := by
  unfold nw
  by_cases h : j ≤ n
  · rw [if_pos h, decide_eq_true h, if_neg (by decide), Int.add_zero]; exact hw_vl (by omega)
  · rw [if_neg h, decide_eq_false h]; rfl
theorem nw_hw {n j : Nat} (h : j ≤ n) : nw n j false = hw j := by unfold nw; rw [if_pos h]; simp
theorem nw_pl {n j : Nat} (hn : n < 4294967296) (b : Bool) : plainV (nw n j b) = nw n j false := by
  have h := plainV_of (nw n j b)
  cases b
  · exact h.2 (nw_mk hn false)
  · rw [h.1 (nw_mk hn true)]; unfold nw; simp
/-! Nodes as they were laid. The head is the node 0; what is behind the last one is n + 1. -/
structure Nd where
  n : Nat
  K : Nat → Int
  tl : Nat → Nat
  um : Nat → Nat
def HN (c : Cfg) : Nat := c.h.toNat
structure Nd.ok (c : Cfg) (l : Nd) : Prop where
  n : (l.n : Int) ≤ c.c
  h0 : l.tl 0 = HN c ∧ l.um 0 = HN c
  tl : ∀ i, i ≤ l.n → l.tl i ≤ HN c
  um : ∀ i, i ≤ l.n → l.um i ≤ l.tl i
  up : ∀ i j, 1 ≤ i → i < j → j ≤ l.n → l.K i < l.K j
def On (l : Nd) (L i : Nat) : Prop := i ≤ l.n ∧ L < l.tl i
def Live (l : Nd) (L i : Nat) : Prop := i ≤ l.n ∧ L < l.um i
/-- The words of the nodes: N tells, level by level, which node each names. -/
structure Rep (c : Cfg) (l : Nd) (cs : List Int) (N : Nat → Nat → Nat) : Prop where
  nx : ∀ L i, On l L i → fd c cs i (6 + L : Nat) = nw l.n (N L i) (decide (l.um i ≤ L))
  ky : ∀ i, 1 ≤ i → i ≤ l.n → fd c cs i 1 = l.K i
structure Sk (l : Nd) (N : Nat → Nat → Nat) : Prop where
  lt : ∀ L i, On l L i → i < N L i ∧ N L i ≤ l.n + 1
  on : ∀ L i, On l L i → N L i ≤ l.n → On l L (N L i)
  sk : ∀ L i m, On l L i → i < m → m < N L i → ¬ Live l L m
theorem Live.on {c : Cfg} {l : Nd} (h : l.ok c) {L i : Nat} (k : Live l L i) : On l L i := ⟨k.1, Nat.lt_of_lt_of_le k.2 (h.um i k.1)⟩
theorem Live.down {l : Nd} {L M i : Nat} (k : Live l L i) (h : M ≤ L) : Live l M i := ⟨k.1, Nat.lt_of_le_of_lt h k.2⟩
/-- What was noted of a level: from where it went on, pred, and what is behind it. -/
structure Rs (l : Nd) (k : Int) (N : Nat → Nat → Nat) (M st p s : Nat) : Prop where
  pl : Live l M p
  pk : p = 0 ∨ l.K p < k
  e : N M p = s
  sl : s ≤ l.n → Live l M s ∧ k ≤ l.K s
  sp : st ≤ p
  cl : ∀ i, st ≤ i → i < p → Live l M i → N M i ≤ l.n ∧ Live l M (N M i)
def stt (rp : Nat → Nat) (t : Nat) : Nat := if t = 0 then 0 else rp (t - 1)
/-- What holds of a find that is not done. -/
structure Run (c : Cfg) (l : Nd) (k : Int) (f : Fm) (N : Nat → Nat → Nat) (st L p : Nat) : Prop where
  pr : f.pr = hw p
  pl : Live l L p
  pk : p = 0 ∨ l.K p < k
  sp : st ≤ p
  cl : ∀ i, st ≤ i → i < p → Live l L i → N L i ≤ l.n ∧ Live l L (N L i)
  nx : f.nx ≤ 5
  xn : 1 ≤ f.nx → N L p ≤ l.n
  x : 1 ≤ f.nx → f.nx ≠ 2 → f.x = hw (N L p)
  s4 : f.nx = 4 → ¬ Live l L (N L p) ∧ f.s = nw l.n (N L (N L p)) true
  s5 : f.nx = 5 → Live l L (N L p)
structure Iv (c : Cfg) (l : Nd) (k : Int) (cs : List Int) (f : Fm) (N : Nat → Nat → Nat) (rp rs : Nat → Nat) (p : Nat) : Prop where
  rep : Rep c l cs N
  sk : Sk l N
  fk : f.k = k
  dn : f.dn ≤ HN c
  d : f.d = decide (HN c ≤ f.dn)
  ps : f.ps = (List.range f.dn).map (fun t => hw (rp t))
  ss : f.ss = (List.range f.dn).map (fun t => nw l.n (rs t) false)
  ks : f.ks = (List.range f.dn).map (fun t => if rs t ≤ l.n then l.K (rs t) else 0)
  res : ∀ t, t < f.dn → Rs l k N (HN c - 1 - t) (stt rp t) (rp t) (rs t)
  run : f.dn < HN c → Run c l k f N (stt rp f.dn) (HN c - 1 - f.dn) p
theorem inF_of {c : Cfg} {l : Nd} (hr : riB c = true) (ok : l.ok c) {i f : Nat} (hi : i ≤ l.n) (hf : f < 6 + HN c) : inF c i f := by
  have := ok.n
  have R := riB_true.1 hr
  have := R.h0
  unfold HN at hf
  exact ⟨hr, by omega, by omega, by omega, by omega⟩
theorem cl_has {c : Cfg} {cs : List Int} (hl : (cs.length : Int) = lnV c) {a b : Int} (h : inF c a b) : hasC cs (clV' c a b) := by
  have e : clV' c a b = 1 + c.t * c.s + a * (6 + c.h) + b := if_pos h
  obtain ⟨_, h1, h2⟩ := fld_wh h
  have := ts_bd (riB_true.1 h.1)
  unfold hasC; omega
theorem cl_inj {c : Cfg} {a b a' b' : Int} (h : inF c a b) (h' : inF c a' b') (e : clV' c a b = clV' c a' b') : a = a' ∧ b = b' := by
  have e1 : clV' c a b = 1 + c.t * c.s + a * (6 + c.h) + b := if_pos h
  have e2 : clV' c a' b' = 1 + c.t * c.s + a' * (6 + c.h) + b' := if_pos h'
  have z1 := (fld_wh h).1
  have z2 := (fld_wh h').1
  rw [← e1, e, e2, z2] at z1
  injection z1 with _ z3 z4
  exact ⟨z3.symm, z4.symm⟩
theorem rd_swap (cs : List Int) (x y old v : Int) (hx : hasC cs x) (ho : rdG cs x = old) : rdG (clV cs 3 x old v) y = (if y = x then v else rdG cs y) ∧ (∀ via, (acV cs 3 x via old v).d = true) := by
  have hb : cs.getD x.toNat 0 = old := by rw [← ho, rdG_eq, if_pos hx]
  have ec : clV cs 3 x old v = cs.set x.toNat v := by unfold clV; rw [if_pos hx, hb]; simp [bhV]
  have e : hasC (cs.set x.toNat v) y ↔ hasC cs y := hasC_len (by simp) y
  refine ⟨?_, fun via => by unfold acV; rw [if_pos hx, hb]; simp [bhB]⟩
  rw [ec, rdG_eq, rdG_eq]
  by_cases hy : y = x
  · subst hy
    rw [if_pos (e.2 hx), if_pos rfl, getD_set _ _ _ _ (by unfold hasC at hx; omega), if_pos rfl]
  · rw [if_neg hy]
    by_cases hc : hasC cs y
    · rw [if_pos (e.2 hc), if_pos hc, getD_set _ _ _ _ (by unfold hasC at hc; omega), if_neg (by unfold hasC at hc hx; omega)]
    · rw [if_neg (fun h => hc (e.1 h)), if_neg hc]
/-- A reservation is no field; nor is the clock. -/
theorem fd_pub (c : Cfg) (cs : List Int) (a b v i f : Int) : fd c (clV cs 2 (rsV c a b) 0 v) i f = fd c cs i f := by
  unfold fd
  rw [rd_store, if_neg]
  rintro ⟨h1, h2⟩
  have hi : inR c a b := rs_in h1.1
  have r1 := (res_wh hi).2
  have e : rsV c a b = 1 + a * c.s + b := if_pos hi
  by_cases hf : inF c i f
  · have e2 : clV' c i f = 1 + c.t * c.s + i * (6 + c.h) + f := if_pos hf
    have := (fld_wh hf).2.1
    omega
  · have e2 : clV' c i f = -1 := if_neg hf
    omega
theorem fd_tick (c : Cfg) (cs : List Int) (i f : Int) : fd c (clV cs 4 0 0 1) i f = fd c cs i f := by
  unfold fd
  by_cases h0 : hasC cs 0
  · rw [rd_set cs 4 0 _ 1 h0 _ rfl, if_neg]
    intro h2
    by_cases hf : inF c i f
    · have e2 : clV' c i f = 1 + c.t * c.s + i * (6 + c.h) + f := if_pos hf
      have := (fld_wh hf).2.1
      have := ts_bd (riB_true.1 hf.1)
      omega
    · have e2 : clV' c i f = -1 := if_neg hf
      omega
  · rw [show clV cs 4 0 0 1 = cs from if_neg h0]
theorem Rep.same {c : Cfg} {l : Nd} {cs ds : List Int} {N : Nat → Nat → Nat} (h : Rep c l cs N) (e : ∀ i f, fd c ds i f = fd c cs i f) : Rep c l ds N :=
  ⟨fun L i k => by rw [e]; exact h.nx L i k, fun i a b => by rw [e]; exact h.ky i a b⟩
theorem HN_eq {c : Cfg} (R : Rt c) : ((HN c : Nat) : Int) = c.h := by have := R.h0; unfold HN; omega
theorem lv_eq {c : Cfg} (R : Rt c) {f : Fm} (h : f.dn < HN c) : 6 + lv c f = ((6 + (HN c - 1 - f.dn) : Nat) : Int) := by have := HN_eq R; unfold lv; omega
theorem Iv.of_anew {c : Cfg} {l : Nd} {k : Int} {cs : List Int} {N : Nat → Nat → Nat} (R : Rt c) (ok : l.ok c) (rep : Rep c l cs N) (sk : Sk l N) {f : Fm} (fk : f.k = k) (a : Int) (rp rs : Nat → Nat) : Iv c l k cs (f.anew a) N rp rs 0 := by
  have h1 := HN_eq R
  have h2 := R.h0
  refine ⟨rep, sk, fk, Nat.zero_le _, ?_, rfl, rfl, rfl, fun t ht => absurd ht (Nat.not_lt_zero _), fun _ => ?_⟩
  · show false = decide (HN c ≤ 0); rw [decide_eq_false (by omega)]
  · exact ⟨rfl, ⟨Nat.zero_le _, by show HN c - 1 - 0 < l.um 0; have z1 := ok.h0.1; have z2 := ok.h0.2; omega⟩, Or.inl rfl, Nat.le_refl _, fun i hi h => by omega, by show 0 ≤ 5; omega, fun h => absurd h (by show ¬ 1 ≤ 0; omega), fun h => absurd h (by show ¬ 1 ≤ 0; omega), fun h => absurd h (by show ¬ 0 = 4; omega), fun h => absurd h (by show ¬ 0 = 5; omega)⟩
def put (rp : Nat → Nat) (n p : Nat) : Nat → Nat := fun t => if t = n then p else rp t
theorem put_lt {rp : Nat → Nat} {n p t : Nat} (h : t < n) : put rp n p t = rp t := if_neg (by omega)
theorem put_eq {rp : Nat → Nat} {n p : Nat} : put rp n p n = p := if_pos rfl
theorem stt_put {rp : Nat → Nat} {n p t : Nat} (h : t ≤ n) : stt (put rp n p) t = stt rp t := by
  unfold stt
  by_cases h0 : t = 0
  · rw [if_pos h0, if_pos h0]
  · rw [if_neg h0, if_neg h0, put_lt (by omega)]
theorem map_put {f : Nat → Int} {rp : Nat → Nat} {n p : Nat} {x : Int} (hx : f p = x) : (List.range n).map (fun t => f (rp t)) ++ [x] = (List.range (n + 1)).map (fun t => f (put rp n p t)) := by
  rw [List.range_succ, List.map_append, List.map_cons, List.map_nil, put_eq, hx]
  congr 1
  exact List.map_congr_left fun t ht => by rw [put_lt (by simpa using ht)]
/-- A level ends. -/
theorem Iv.of_ended {c : Cfg} {l : Nd} {k : Int} {cs : List Int} {f : Fm} {N : Nat → Nat → Nat} {rp rs : Nat → Nat} {p : Nat} (R : Rt c) (h : Iv c l k cs f N rp rs p) (hd : f.dn < HN c) {s : Nat} {a su ke : Int}
    (e : N (HN c - 1 - f.dn) p = s) (sl : s ≤ l.n → Live l (HN c - 1 - f.dn) s ∧ k ≤ l.K s) (hsu : su = nw l.n s false) (hke : ke = if s ≤ l.n then l.K s else 0) :
    Iv c l k cs (f.ended c a su ke) N (put rp f.dn p) (put rs f.dn s) p := by
  have r := h.run hd
  have hh := HN_eq R
  refine ⟨h.rep, h.sk, h.fk, hd, ?_, ?_, ?_, ?_, ?_, ?_⟩
  · show decide (c.h ≤ ((f.dn + 1 : Nat) : Int)) = decide (HN c ≤ f.dn + 1)
    rw [← hh]; congr 1; simp only [eq_iff_iff]; omega
  · show f.ps ++ [f.pr] = _
    rw [h.ps]; exact map_put (f := fun j => hw j) r.pr.symm
  · show f.ss ++ [su] = _
    rw [h.ss]; exact map_put (f := fun j => nw l.n j false) hsu.symm
  · show f.ks ++ [ke] = _
    rw [h.ks]; exact map_put (f := fun j => if j ≤ l.n then l.K j else 0) hke.symm
  · intro t ht
    have ht' : t < f.dn + 1 := ht
    by_cases hte : t = f.dn
    · subst hte
      rw [stt_put (Nat.le_refl _), put_eq, put_eq]
      exact ⟨r.pl, r.pk, e, sl, r.sp, r.cl⟩
    · rw [stt_put (by omega), put_lt (by omega), put_lt (by omega)]
      exact h.res t (by omega)
  · intro hn
    have hn' : f.dn + 1 < HN c := hn
    show Run c l k (f.ended c a su ke) N (stt (put rp f.dn p) (f.dn + 1)) (HN c - 1 - (f.dn + 1)) p
    have es : stt (put rp f.dn p) (f.dn + 1) = p := by unfold stt; rw [if_neg (by omega)]; exact put_eq
    rw [es]
    exact ⟨r.pr, r.pl.down (by omega), r.pk, Nat.le_refl _, fun i hi h => by omega, by show 0 ≤ 5; omega, fun h => absurd h (by show ¬ 1 ≤ 0; omega), fun h => absurd h (by show ¬ 1 ≤ 0; omega), fun h => absurd h (by show ¬ 0 = 4; omega), fun h => absurd h (by show ¬ 0 = 5; omega)⟩
theorem Rs.congr {l : Nd} {k : Int} {N N' : Nat → Nat → Nat} {M st p s : Nat} (h : Rs l k N M st p s) (e : ∀ i, N' M i = N M i) : Rs l k N' M st p s :=
  ⟨h.pl, h.pk, (e p).trans h.e, h.sl, h.sp, fun i a b d => by rw [e]; exact h.cl i a b d⟩
/-- Unlinked: pred names what the deleted one named. -/
def unl (N : Nat → Nat → Nat) (L p : Nat) : Nat → Nat → Nat := fun M i => if M = L ∧ i = p then N L (N L p) else N M i
theorem unl_at (N : Nat → Nat → Nat) (L p : Nat) : unl N L p L p = N L (N L p) := if_pos ⟨rfl, rfl⟩
theorem unl_ne {N : Nat → Nat → Nat} {L p M i : Nat} (h : ¬ (M = L ∧ i = p)) : unl N L p M i = N M i := if_neg h
theorem Sk.unl {l : Nd} {N : Nat → Nat → Nat} (h : Sk l N) {L p : Nat} (op : On l L p) (hx : N L p ≤ l.n) (dx : ¬ Live l L (N L p)) : Sk l (unl N L p) := by
  have ox := h.on L p op hx
  have l1 := h.lt L p op
  have l2 := h.lt L _ ox
  refine ⟨fun M i hi => ?_, fun M i hi hn => ?_, fun M i m hi h1 h2 => ?_⟩
  · by_cases e : M = L ∧ i = p
    · obtain ⟨rfl, rfl⟩ := e; rw [unl_at]; omega
    · rw [unl_ne e]; exact h.lt M i hi
  · by_cases e : M = L ∧ i = p
    · obtain ⟨rfl, rfl⟩ := e; rw [unl_at] at hn ⊢; exact h.on M _ ox hn
    · rw [unl_ne e] at hn ⊢; exact h.on M i hi hn
  · by_cases e : M = L ∧ i = p
    · obtain ⟨rfl, rfl⟩ := e
      rw [unl_at] at h2
      rcases (by omega : m < N M i ∨ m = N M i ∨ N M i < m) with a | a | a
      · exact h.sk M i m op h1 a
      · rw [a]; exact dx
      · exact h.sk M _ m ox a h2
    · rw [unl_ne e] at h2; exact h.sk M i m hi h1 h2
theorem live_um {l : Nd} {L i : Nat} (h : Live l L i) : decide (l.um i ≤ L) = false := decide_eq_false (by have := h.2; omega)
theorem n_lt {c : Cfg} {l : Nd} (R : Rt c) (ok : l.ok c) : l.n < 4294967296 := by have := ok.n; have := R.c1; omega
theorem Rep.unl {c : Cfg} {l : Nd} {cs : List Int} {N : Nat → Nat → Nat} (hr : riB c = true) (ok : l.ok c) (hl : (cs.length : Int) = lnV c) (h : Rep c l cs N) {L p : Nat} (hL : L < HN c) (lp : Live l L p) (hx : N L p ≤ l.n) :
    Rep c l (clV cs 3 (clV' c p (6 + L : Nat)) (hw (N L p)) (nw l.n (N L (N L p)) false)) (unl N L p) ∧ ∀ via, (acV cs 3 (clV' c p (6 + L : Nat)) via (hw (N L p)) (nw l.n (N L (N L p)) false)).d = true := by
  have op := lp.on ok
  have hc := inF_of hr ok (i := p) (f := 6 + L) lp.1 (by omega)
  have hw0 : rdG cs (clV' c p (6 + L : Nat)) = hw (N L p) := by
    have z := h.nx L p op
    rw [live_um lp, nw_hw hx] at z
    exact z
  have sw := fun y => rd_swap cs (clV' c p (6 + L : Nat)) y (hw (N L p)) (nw l.n (N L (N L p)) false) (cl_has hl hc) hw0
  refine ⟨⟨fun M i hi => ?_, fun i h1 h2 => ?_⟩, (sw 0).2⟩
  · have hM : M < HN c := Nat.lt_of_lt_of_le hi.2 (ok.tl i hi.1)
    have hi' := inF_of hr ok (i := i) (f := 6 + M) hi.1 (by omega)
    unfold fd
    rw [(sw _).1]
    by_cases e : M = L ∧ i = p
    · obtain ⟨rfl, rfl⟩ := e
      rw [if_pos rfl, unl_at, live_um lp]
    · rw [if_neg, unl_ne e]
      · exact h.nx M i hi
      · intro z
        have := cl_inj hi' hc z
        exact e ⟨by omega, by omega⟩
  · unfold fd
    rw [(sw _).1, if_neg]
    · exact h.ky i h1 h2
    · intro z
      have h1' := inF_of hr ok (i := i) (f := 1) h2 (by omega)
      have := (cl_inj h1' hc z).2
      omega
/-- How many steps are left, at most, while no level is begun anew. -/
def bsL (l : Nd) (nx : Nat) (a : Int) : Int := if nx = 0 then 4 * ((l.n : Int) + 1 - a) + 1 else if nx = 1 then 4 * ((l.n : Int) + 1 - a) else if nx = 2 ∨ nx = 3 then 4 * ((l.n : Int) + 1 - a) - 1 else 4 * ((l.n : Int) + 1 - a) - 2
def bs (c : Cfg) (l : Nd) (f : Fm) (N : Nat → Nat → Nat) (p : Nat) : Int := ((HN c - 1 - f.dn : Nat) : Int) * (4 * l.n + 1) + bsL l f.nx (N (HN c - 1 - f.dn) p)
def full (c : Cfg) (l : Nd) : Int := (HN c : Int) * (4 * l.n + 1)
theorem bsL_nx (l : Nd) (a : Int) : bsL l 0 a = 4 * ((l.n : Int) + 1 - a) + 1 ∧ bsL l 1 a = 4 * ((l.n : Int) + 1 - a) ∧ bsL l 2 a = 4 * ((l.n : Int) + 1 - a) - 1 ∧ bsL l 3 a = 4 * ((l.n : Int) + 1 - a) - 1 ∧ bsL l 4 a = 4 * ((l.n : Int) + 1 - a) - 2 ∧ bsL l 5 a = 4 * ((l.n : Int) + 1 - a) - 2 :=
  ⟨rfl, rfl, rfl, rfl, rfl, rfl⟩
/-- What a step makes of that. -/
def Less (c : Cfg) (l : Nd) (g : Gs) (f f' : Fm) (N N' : Nat → Nat → Nat) (p p' : Nat) : Prop :=
  f'.d = true ∨ (if f.nx = 2 then (if g.u < c.s then bs c l f' N' p' ≤ bs c l f N p + 2 else bs c l f' N' p' ≤ full c l) else bs c l f' N' p' ≤ bs c l f N p - 1)
theorem Less.of {c : Cfg} {l : Nd} {g : Gs} {f f' : Fm} {N N' : Nat → Nat → Nat} {p p' L : Nat} (h2 : f.nx ≠ 2) (e : HN c - 1 - f.dn = L) (e' : HN c - 1 - f'.dn = L) (h : bsL l f'.nx (N' L p') ≤ bsL l f.nx (N L p) - 1) : Less c l g f f' N N' p p' := by
  right; rw [if_neg h2]; unfold bs; rw [e, e']; omega
theorem Less.ended {c : Cfg} {l : Nd} {g : Gs} {f : Fm} {N : Nat → Nat → Nat} {p : Nat} (R : Rt c) (sk : Sk l N) (h2 : f.nx ≠ 2) (hdn : f.dn < HN c) (lp : ∀ M, M ≤ HN c - 1 - f.dn → On l M p) (h : 1 ≤ bsL l f.nx (N (HN c - 1 - f.dn) p)) (a su ke : Int) : Less c l g f (f.ended c a su ke) N N p p := by
  by_cases hd : HN c ≤ f.dn + 1
  · left
    show decide (c.h ≤ ((f.dn + 1 : Nat) : Int)) = true
    have := HN_eq R
    rw [decide_eq_true_eq]; omega
  · right
    rw [if_neg h2]
    unfold bs
    show ((HN c - 1 - (f.dn + 1) : Nat) : Int) * (4 * l.n + 1) + bsL l 0 (N (HN c - 1 - (f.dn + 1)) p) ≤ _
    have lt := sk.lt (HN c - 1 - (f.dn + 1)) p (lp _ (by omega))
    obtain ⟨M, hM⟩ : ∃ M, HN c - 1 - (f.dn + 1) = M := ⟨_, rfl⟩
    have hM2 : HN c - 1 - f.dn = M + 1 := by omega
    rw [hM] at lt ⊢
    rw [hM2] at h ⊢
    have z := Int.add_mul (M : Int) 1 (4 * l.n + 1)
    rw [(bsL_nx l _).1, Int.natCast_add, Int.natCast_one, z]
    omega
theorem Less.anew {c : Cfg} {l : Nd} {g : Gs} {f : Fm} {N : Nat → Nat → Nat} {p : Nat} (R : Rt c) (ok : l.ok c) (sk : Sk l N) (h2 : f.nx = 2) (hu : ¬ g.u < c.s) (a : Int) : Less c l g f (f.anew a) N N p 0 := by
  right
  rw [if_pos h2, if_neg hu]
  have hh := HN_eq R
  have h0 := R.h0
  unfold bs full
  show ((HN c - 1 - 0 : Nat) : Int) * (4 * l.n + 1) + bsL l 0 (N (HN c - 1 - 0) 0) ≤ _
  have lt := sk.lt (HN c - 1 - 0) 0 ⟨Nat.zero_le _, by have := ok.h0.1; omega⟩
  obtain ⟨M, hM⟩ : ∃ M, HN c = M + 1 := ⟨HN c - 1, by omega⟩
  rw [hM] at lt ⊢
  rw [show M + 1 - 1 - 0 = M by omega] at lt ⊢
  have z := Int.add_mul (M : Int) 1 (4 * l.n + 1)
  rw [(bsL_nx l _).1, Int.natCast_add, Int.natCast_one, z]
  omega
/-- A step of a find that is not done, alone. -/
theorem Iv.step {c : Cfg} {l : Nd} {k : Int} {cs : List Int} {f : Fm} {N : Nat → Nat → Nat} {rp rs : Nat → Nat} {p : Nat} (hr : riB c = true) (ok : l.ok c) (hl : (cs.length : Int) = lnV c) (h : Iv c l k cs f N rp rs p) (hd : f.d = false) (cnt : Int) (g : Gs) :
    ∃ N' rp' rs' p', Iv c l k (fC c cs g f) (fF c cs cnt g f) N' rp' rs' p' ∧ Less c l g f (fF c cs cnt g f) N N' p p' ∧ (f.nx ≠ 4 → N' = N) := by
  have R := riB_true.1 hr
  have hn := n_lt R ok
  have hdn : f.dn < HN c := by
    have z := h.d; rw [hd] at z
    have := of_decide_eq_false z.symm; omega
  have r := h.run hdn
  have le := lv_eq R hdn
  obtain ⟨L, hL⟩ : ∃ L, HN c - 1 - f.dn = L := ⟨_, rfl⟩
  have hLH : L < HN c := by omega
  rw [hL] at r le
  have op := r.pl.on ok
  have lpM : ∀ M, M ≤ HN c - 1 - f.dn → On l M p := fun M hM => (r.pl.down (by omega)).on ok
  have lt := h.sk.lt L p op
  have px : ixV f.pr = p := by rw [r.pr]; exact hw_ix (by have := r.pl.1; omega)
  have hcs0 : f.nx ≠ 2 → f.nx ≠ 4 → fC c cs g f = cs := fun h2 h4 => by unfold fC; rw [if_neg (by rw [hd]; decide), if_neg h2, if_neg h4]
  have hF : fF c cs cnt g f = (match f.nx with
  | 0 => if mkB (rdW c cs f) = true then f.anew (atF c cnt f) else if vlB (rdW c cs f) = false then f.ended c (atF c cnt f) 0 0 else { f with x := rdW c cs f, nx := 1, at_ := atF c cnt f }
  | 1 => { f with era := rdG cs 0, nx := if rdG cs 0 = g.l then 3 else 2 }
  | 2 => if g.u < c.s then { f with nx := 0 } else f.anew f.at_
  | 3 => { f with s := fd c cs (ixV f.x) (6 + lv c f), nx := if mkB (fd c cs (ixV f.x) (6 + lv c f)) = true then 4 else 5 }
  | 4 => if (acV cs 3 (clV' c (ixV f.pr) (6 + lv c f)) (plainV f.pr) f.x (plainV f.s)).d = true then { f with nx := 0 } else f.anew f.at_
  | _ => if f.k ≤ fd c cs (ixV f.x) 1 then f.ended c f.at_ f.x (fd c cs (ixV f.x) 1) else { f with pr := f.x, nx := 0 }) := by
    unfold fF; rw [if_neg (by rw [hd]; decide)]
  rw [hF]
  clear hF
  rcases (by have := r.nx; omega : f.nx = 0 ∨ f.nx = 1 ∨ f.nx = 2 ∨ f.nx = 3 ∨ f.nx = 4 ∨ f.nx = 5) with e | e | e | e | e | e
  · rw [hcs0 (by omega) (by omega), e]
    have w0 : rdW c cs f = nw l.n (N L p) false := by
      unfold rdW; rw [px, le, h.rep.nx L p op, live_um r.pl]
    show ∃ N' rp' rs' p', Iv c l k cs (if mkB (rdW c cs f) = true then f.anew (atF c cnt f) else if vlB (rdW c cs f) = false then f.ended c (atF c cnt f) 0 0 else { f with x := rdW c cs f, nx := 1, at_ := atF c cnt f }) N' rp' rs' p' ∧ Less c l g f (if mkB (rdW c cs f) = true then f.anew (atF c cnt f) else if vlB (rdW c cs f) = false then f.ended c (atF c cnt f) 0 0 else { f with x := rdW c cs f, nx := 1, at_ := atF c cnt f }) N N' p p' ∧ (0 ≠ 4 → N' = N)
    rw [w0, nw_mk hn, nw_vl hn, if_neg (by decide)]
    by_cases hx : N L p ≤ l.n
    · rw [if_neg (by rw [decide_eq_true hx]; decide)]
      refine ⟨N, rp, rs, p, ⟨h.rep, h.sk, h.fk, h.dn, h.d, h.ps, h.ss, h.ks, h.res, fun _ => ?_⟩, Less.of (by omega) hL hL (by rw [e]; show bsL l 1 _ ≤ _; have z := bsL_nx l (N L p : Nat); omega), fun _ => rfl⟩
      show Run c l k { f with x := nw l.n (N L p) false, nx := 1, at_ := atF c cnt f } N (stt rp f.dn) (HN c - 1 - f.dn) p
      rw [hL]
      exact ⟨r.pr, r.pl, r.pk, r.sp, r.cl, by show 1 ≤ 5; omega, fun _ => hx, fun _ _ => nw_hw hx, fun h => absurd h (by show ¬ 1 = 4; omega), fun h => absurd h (by show ¬ 1 = 5; omega)⟩
    · rw [if_pos (decide_eq_false hx)]
      exact ⟨_, _, _, _, Iv.of_ended R h hdn (s := N L p) (by rw [hL]) (fun z => absurd z hx) (by unfold nw; rw [if_neg hx]; rfl) (by rw [if_neg hx]), Less.ended R h.sk (by omega) hdn lpM (by rw [e, hL]; have z := bsL_nx l (N L p : Nat); omega) _ _ _, fun _ => rfl⟩
  · rw [hcs0 (by omega) (by omega), e]
    refine ⟨N, rp, rs, p, ⟨h.rep, h.sk, h.fk, h.dn, h.d, h.ps, h.ss, h.ks, h.res, fun _ => ?_⟩, Less.of (by omega) hL hL (by rw [e]; show bsL l (if rdG cs 0 = g.l then 3 else 2) _ ≤ _; have z := bsL_nx l (N L p : Nat); split <;> omega), fun _ => rfl⟩
    show Run c l k { f with era := rdG cs 0, nx := if rdG cs 0 = g.l then 3 else 2 } N (stt rp f.dn) (HN c - 1 - f.dn) p
    rw [hL]
    refine ⟨r.pr, r.pl, r.pk, r.sp, r.cl, ?_, fun _ => r.xn (by omega), fun _ _ => r.x (by omega) (by omega), ?_, ?_⟩
    · show (if rdG cs 0 = g.l then 3 else 2) ≤ 5; split <;> omega
    · show (if rdG cs 0 = g.l then 3 else 2) = 4 → _; intro z; split at z <;> omega
    · show (if rdG cs 0 = g.l then 3 else 2) = 5 → _; intro z; split at z <;> omega
  · have ec : fC c cs g f = clV cs 2 (rsV c g.t (pubN c g)) 0 f.era := by unfold fC; rw [if_neg (by rw [hd]; decide), if_pos e]
    rw [ec, e]
    have rep := h.rep.same (fun i f' => fd_pub c cs g.t (pubN c g) f.era i f')
    show ∃ N' rp' rs' p', Iv c l k _ (if g.u < c.s then { f with nx := 0 } else f.anew f.at_) N' rp' rs' p' ∧ Less c l g f (if g.u < c.s then { f with nx := 0 } else f.anew f.at_) N N' p p' ∧ (2 ≠ 4 → N' = N)
    by_cases hu : g.u < c.s
    · rw [if_pos hu]
      refine ⟨N, rp, rs, p, ⟨rep, h.sk, h.fk, h.dn, h.d, h.ps, h.ss, h.ks, h.res, fun _ => ?_⟩, Or.inr (by rw [if_pos e, if_pos hu]; unfold bs; rw [e, hL]; show _ + bsL l 0 (N L p : Nat) ≤ _; have z := bsL_nx l (N L p : Nat); omega), fun _ => rfl⟩
      show Run c l k { f with nx := 0 } N (stt rp f.dn) (HN c - 1 - f.dn) p
      rw [hL]
      exact ⟨r.pr, r.pl, r.pk, r.sp, r.cl, by show 0 ≤ 5; omega, fun h => absurd h (by show ¬ 1 ≤ 0; omega), fun h => absurd h (by show ¬ 1 ≤ 0; omega), fun h => absurd h (by show ¬ 0 = 4; omega), fun h => absurd h (by show ¬ 0 = 5; omega)⟩
    · rw [if_neg hu]
      exact ⟨N, rp, rs, 0, Iv.of_anew R ok rep h.sk h.fk _ rp rs, Less.anew R ok h.sk e hu _, fun _ => rfl⟩
  · rw [hcs0 (by omega) (by omega), e]
    have hx := r.xn (by omega)
    have xx : ixV f.x = (N L p : Nat) := by rw [r.x (by omega) (by omega)]; exact hw_ix (by omega)
    have ox := h.sk.on L p op hx
    have ws : fd c cs (ixV f.x) (6 + lv c f) = nw l.n (N L (N L p)) (decide (l.um (N L p) ≤ L)) := by rw [xx, le]; exact h.rep.nx L _ ox
    refine ⟨N, rp, rs, p, ⟨h.rep, h.sk, h.fk, h.dn, h.d, h.ps, h.ss, h.ks, h.res, fun _ => ?_⟩, Less.of (by omega) hL hL (by rw [e]; show bsL l (if mkB (fd c cs (ixV f.x) (6 + lv c f)) = true then 4 else 5) _ ≤ _; have z := bsL_nx l (N L p : Nat); split <;> omega), fun _ => rfl⟩
    show Run c l k { f with s := fd c cs (ixV f.x) (6 + lv c f), nx := if mkB (fd c cs (ixV f.x) (6 + lv c f)) = true then 4 else 5 } N (stt rp f.dn) (HN c - 1 - f.dn) p
    rw [hL, ws, nw_mk hn]
    refine ⟨r.pr, r.pl, r.pk, r.sp, r.cl, ?_, fun _ => hx, fun _ _ => r.x (by omega) (by omega), ?_, ?_⟩
    · show (if decide (l.um (N L p) ≤ L) = true then 4 else 5) ≤ 5; split <;> omega
    · show (if decide (l.um (N L p) ≤ L) = true then 4 else 5) = 4 → _
      intro z
      by_cases hm : l.um (N L p) ≤ L
      · exact ⟨fun q => by have := q.2; omega, by show nw l.n (N L (N L p)) (decide (l.um (N L p) ≤ L)) = _; rw [decide_eq_true hm]⟩
      · rw [if_neg (by rw [decide_eq_false hm]; decide)] at z; omega
    · show (if decide (l.um (N L p) ≤ L) = true then 4 else 5) = 5 → _
      intro z
      by_cases hm : l.um (N L p) ≤ L
      · rw [if_pos (decide_eq_true hm)] at z; omega
      · exact ⟨hx, by omega⟩
  · have hx := r.xn (by omega)
    obtain ⟨dx, es⟩ := r.s4 e
    have ex := r.x (by omega) (by omega)
    have rp2 := Rep.unl hr ok hl h.rep hLH r.pl hx
    have eS : plainV f.s = nw l.n (N L (N L p)) false := by rw [es]; exact nw_pl hn true
    have ec : fC c cs g f = clV cs 3 (clV' c p (6 + L : Nat)) (hw (N L p)) (nw l.n (N L (N L p)) false) := by
      unfold fC; rw [if_neg (by rw [hd]; decide), if_neg (by omega), if_pos e, px, le, ex, eS]
    rw [ec, e]
    show ∃ N' rp' rs' p', Iv c l k _ (if (acV cs 3 (clV' c (ixV f.pr) (6 + lv c f)) (plainV f.pr) f.x (plainV f.s)).d = true then { f with nx := 0 } else f.anew f.at_) N' rp' rs' p' ∧ Less c l g f (if (acV cs 3 (clV' c (ixV f.pr) (6 + lv c f)) (plainV f.pr) f.x (plainV f.s)).d = true then { f with nx := 0 } else f.anew f.at_) N N' p p' ∧ (4 ≠ 4 → N' = N)
    have hcond : (acV cs 3 (clV' c (ixV f.pr) (6 + lv c f)) (plainV f.pr) f.x (plainV f.s)).d = true := by rw [px, le, ex, eS]; exact rp2.2 _
    rw [if_pos hcond]
    have l2 := h.sk.lt L _ (h.sk.on L p op hx)
    refine ⟨unl N L p, rp, rs, p, ⟨rp2.1, h.sk.unl op hx dx, h.fk, h.dn, h.d, h.ps, h.ss, h.ks, fun t ht => (h.res t ht).congr (fun i => unl_ne (fun z => by have ht' : t < f.dn := ht; omega)), fun _ => ?_⟩, Less.of (by omega) hL hL (by rw [e, unl_at]; show bsL l 0 _ ≤ _; have z := bsL_nx l (N L p : Nat); have z2 := bsL_nx l (N L (N L p) : Nat); omega), fun z => absurd rfl z⟩
    show Run c l k { f with nx := 0 } (unl N L p) (stt rp f.dn) (HN c - 1 - f.dn) p
    rw [hL]
    exact ⟨r.pr, r.pl, r.pk, r.sp, fun i a b d => by rw [unl_ne (fun z => by omega)]; exact r.cl i a b d, by show 0 ≤ 5; omega, fun h => absurd h (by show ¬ 1 ≤ 0; omega), fun h => absurd h (by show ¬ 1 ≤ 0; omega), fun h => absurd h (by show ¬ 0 = 4; omega), fun h => absurd h (by show ¬ 0 = 5; omega)⟩
  · rw [hcs0 (by omega) (by omega), e]
    have hx := r.xn (by omega)
    have ex := r.x (by omega) (by omega)
    have lx := r.s5 e
    have xx : ixV f.x = (N L p : Nat) := by rw [ex]; exact hw_ix (by omega)
    have kk : fd c cs (ixV f.x) 1 = l.K (N L p) := by rw [xx]; exact h.rep.ky _ (by omega) hx
    show ∃ N' rp' rs' p', Iv c l k cs (if f.k ≤ fd c cs (ixV f.x) 1 then f.ended c f.at_ f.x (fd c cs (ixV f.x) 1) else { f with pr := f.x, nx := 0 }) N' rp' rs' p' ∧ Less c l g f (if f.k ≤ fd c cs (ixV f.x) 1 then f.ended c f.at_ f.x (fd c cs (ixV f.x) 1) else { f with pr := f.x, nx := 0 }) N N' p p' ∧ (5 ≠ 4 → N' = N)
    rw [kk]
    by_cases hk : f.k ≤ l.K (N L p)
    · rw [if_pos hk]
      exact ⟨_, _, _, _, Iv.of_ended R h hdn (s := N L p) (by rw [hL]) (fun _ => ⟨by rw [hL]; exact lx, by rw [← h.fk]; exact hk⟩) (by rw [ex, nw_hw hx]) (by rw [if_pos hx]), Less.ended R h.sk (by omega) hdn lpM (by rw [e, hL]; have z := bsL_nx l (N L p : Nat); omega) _ _ _, fun _ => rfl⟩
    · rw [if_neg hk]
      have l2 := h.sk.lt L _ (h.sk.on L p op hx)
      refine ⟨N, rp, rs, N L p, ⟨h.rep, h.sk, h.fk, h.dn, h.d, h.ps, h.ss, h.ks, h.res, fun _ => ?_⟩, Less.of (by omega) hL hL (by rw [e]; show bsL l 0 _ ≤ _; have z := bsL_nx l (N L p : Nat); have z2 := bsL_nx l (N L (N L p) : Nat); omega), fun _ => rfl⟩
      show Run c l k { f with pr := f.x, nx := 0 } N (stt rp f.dn) (HN c - 1 - f.dn) (N L p)
      rw [hL]
      refine ⟨ex, lx, Or.inr (by rw [← h.fk]; omega), by have := r.sp; omega, fun i a b d => ?_, by show 0 ≤ 5; omega, fun h => absurd h (by show ¬ 1 ≤ 0; omega), fun h => absurd h (by show ¬ 1 ≤ 0; omega), fun h => absurd h (by show ¬ 0 = 4; omega), fun h => absurd h (by show ¬ 0 = 5; omega)⟩
      rcases (by omega : i < p ∨ i = p ∨ p < i) with q | q | q
      · exact r.cl i a q d
      · rw [q]; exact ⟨hx, lx⟩
      · exact absurd d (h.sk.sk L p i op q b)
theorem bs_pos {c : Cfg} {l : Nd} {k : Int} {cs : List Int} {f : Fm} {N : Nat → Nat → Nat} {rp rs : Nat → Nat} {p : Nat} (ok : l.ok c) (h : Iv c l k cs f N rp rs p) (hd : f.d = false) : 1 ≤ bs c l f N p := by
  have hdn : f.dn < HN c := by
    have z := h.d; rw [hd] at z
    have := of_decide_eq_false z.symm; omega
  have r := h.run hdn
  have lt := h.sk.lt _ p (r.pl.on ok)
  unfold bs
  have hm : 0 ≤ ((HN c - 1 - f.dn : Nat) : Int) * (4 * (l.n : Int) + 1) := Int.mul_nonneg (by omega) (by omega)
  have z := bsL_nx l (N (HN c - 1 - f.dn) p : Nat)
  rcases (by have := r.nx; omega : f.nx = 0 ∨ f.nx = 1 ∨ f.nx = 2 ∨ f.nx = 3 ∨ f.nx = 4 ∨ f.nx = 5) with e | e | e | e | e | e
  · rw [e]; omega
  all_goals
    have x := r.xn (by omega)
    rw [e]; omega
/-- Publishes that are wanted still; levels that may be begun anew; how many steps are left, if the clock goes on so often still. -/
def pend (cs : List Int) (g : Gs) (f : Fm) : Int := if f.nx = 2 then (if f.era = rdG cs 0 then 1 else 2) else if g.l = rdG cs 0 then 0 else 1
def rst (c : Cfg) (g : Gs) (x : Int) : Int := if x ≤ c.s - g.u then 0 else x - (c.s - g.u)
def mu (c : Cfg) (l : Nd) (cs : List Int) (g : Gs) (f : Fm) (N : Nat → Nat → Nat) (p : Nat) (T : Int) : Int := bs c l f N p + 3 * (pend cs g f + T) + full c l * rst c g (pend cs g f + T)
theorem pend_bd (cs : List Int) (g : Gs) (f : Fm) : 0 ≤ pend cs g f ∧ pend cs g f ≤ 2 := by unfold pend; split <;> split <;> omega
theorem rst_bd {c : Cfg} {g : Gs} (x : Int) : 0 ≤ rst c g x := by unfold rst; split <;> omega
theorem rst_mono {c : Cfg} {g : Gs} {x y : Int} (h : x ≤ y) : rst c g x ≤ rst c g y := by unfold rst; split <;> split <;> omega
theorem full_nn (c : Cfg) (l : Nd) : 0 ≤ full c l := Int.mul_nonneg (by omega) (by omega)
theorem mu_mono {c : Cfg} {l : Nd} {g g' : Gs} {a a' b b' : Int} (h1 : a' + 3 * b' ≤ a + 3 * b - 1) (h2 : rst c g' b' ≤ rst c g b) : a' + 3 * b' + full c l * rst c g' b' ≤ a + 3 * b + full c l * rst c g b - 1 := by
  have := Int.mul_le_mul_of_nonneg_left h2 (full_nn c l)
  omega
theorem mu_pos {c : Cfg} {l : Nd} {k : Int} {cs : List Int} {g : Gs} {f : Fm} {N : Nat → Nat → Nat} {rp rs : Nat → Nat} {p : Nat} {T : Int} (ok : l.ok c) (h : Iv c l k cs f N rp rs p) (hd : f.d = false) (hT : 0 ≤ T) : 1 ≤ mu c l cs g f N p T := by
  have h1 := bs_pos ok h hd
  have h2 := (pend_bd cs g f).1
  have h3 := Int.mul_nonneg (full_nn c l) (rst_bd (c := c) (g := g) (pend cs g f + T))
  unfold mu; omega
theorem clock_step {c : Cfg} {l : Nd} {k : Int} {cs : List Int} {f : Fm} {N : Nat → Nat → Nat} {rp rs : Nat → Nat} {p : Nat} (hr : riB c = true) (ok : l.ok c) (hl : (cs.length : Int) = lnV c) (h : Iv c l k cs f N rp rs p) (hd : f.d = false) (g : Gs) : rdG (fC c cs g f) 0 = rdG cs 0 := by
  have R := riB_true.1 hr
  have hdn : f.dn < HN c := by
    have z := h.d; rw [hd] at z
    have := of_decide_eq_false z.symm; omega
  have r := h.run hdn
  unfold fC
  rw [if_neg (by rw [hd]; decide)]
  by_cases e2 : f.nx = 2
  · rw [if_pos e2]; exact rs_clock c cs _ _ _
  · rw [if_neg e2]
    by_cases e4 : f.nx = 4
    · rw [if_pos e4]
      have px : ixV f.pr = p := by rw [r.pr]; exact hw_ix (by have := r.pl.1; have := n_lt R ok; omega)
      have hc := inF_of hr ok (i := p) (f := 6 + (HN c - 1 - f.dn)) r.pl.1 (by omega)
      have op := r.pl.on ok
      have hx := r.xn (by omega)
      have hw0 : rdG cs (clV' c p (6 + (HN c - 1 - f.dn) : Nat)) = f.x := by
        have z := h.rep.nx _ p op
        rw [live_um r.pl, nw_hw hx, ← r.x (by omega) (by omega)] at z
        exact z
      rw [px, lv_eq R hdn, (rd_swap cs _ 0 _ _ (cl_has hl hc) hw0).1, if_neg]
      intro z
      have e2 : clV' c p (6 + (HN c - 1 - f.dn) : Nat) = 1 + c.t * c.s + (p : Int) * (6 + c.h) + ((6 + (HN c - 1 - f.dn) : Nat) : Int) := if_pos hc
      have := (fld_wh hc).2.1
      have := ts_bd R
      omega
    · rw [if_neg e4]
/-- A step: fewer are left, or it is done. -/
theorem mu_step {c : Cfg} {l : Nd} {k : Int} {cs : List Int} {f : Fm} {N : Nat → Nat → Nat} {rp rs : Nat → Nat} {p : Nat} (hr : riB c = true) (ok : l.ok c) (hl : (cs.length : Int) = lnV c) (h : Iv c l k cs f N rp rs p) (hd : f.d = false) (cnt : Int) (g : Gs) (u1 : g.u ≤ c.s) {T : Int} (hT : 0 ≤ T) :
    ∃ N' rp' rs' p', Iv c l k (fC c cs g f) (fF c cs cnt g f) N' rp' rs' p' ∧ ((fF c cs cnt g f).d = true ∨ mu c l (fC c cs g f) (fG c g f) (fF c cs cnt g f) N' p' T ≤ mu c l cs g f N p T - 1) ∧ (f.nx ≠ 4 → N' = N) := by
  obtain ⟨N', rp', rs', p', I, le, hN4⟩ := h.step hr ok hl hd cnt g
  refine ⟨N', rp', rs', p', I, ?_, hN4⟩
  have ck := clock_step hr ok hl h hd g
  have R := riB_true.1 hr
  have s0 := R.s0
  have hp := bs_pos ok h hd
  rcases le with dn | le
  · exact Or.inl dn
  by_cases hdd : (fF c cs cnt g f).d = true
  · exact Or.inl hdd
  right
  have hdn : f.dn < HN c := by
    have z := h.d; rw [hd] at z
    have := of_decide_eq_false z.symm; omega
  have r := h.run hdn
  unfold mu
  by_cases e2 : f.nx = 2
  · rw [if_pos e2] at le
    have eg : fG c g f = pubG c g f.era := by unfold fG; rw [if_neg (by rw [hd]; decide), if_pos e2]
    have ef : fF c cs cnt g f = if g.u < c.s then { f with nx := 0 } else f.anew f.at_ := by
      unfold fF; rw [if_neg (by rw [hd]; decide), e2]; rfl
    have pn : pend cs g f = 1 + pend (fC c cs g f) (fG c g f) (fF c cs cnt g f) := by
      have hnx : (fF c cs cnt g f).nx = 0 := by rw [ef]; split <;> rfl
      unfold pend
      rw [if_pos e2, if_neg (show ¬ (fF c cs cnt g f).nx = 2 by omega), ck, eg]
      show (if f.era = rdG cs 0 then (1 : Int) else 2) = 1 + (if f.era = rdG cs 0 then 0 else 1)
      split <;> rfl
    rw [pn, eg]
    have hP := (pend_bd (fC c cs g f) (pubG c g f.era) (fF c cs cnt g f)).1
    generalize pend (fC c cs g f) (pubG c g f.era) (fF c cs cnt g f) = P at *
    by_cases hu : g.u < c.s
    · rw [if_pos hu] at le
      have eu : (pubG c g f.era).u = g.u + 1 := by show pubN c g + 1 = _; unfold pubN; rw [if_pos hu]
      refine mu_mono (by omega) ?_
      unfold rst
      rw [eu]
      split <;> split <;> omega
    · rw [if_neg hu] at le
      have eu : (pubG c g f.era).u = 1 := by show pubN c g + 1 = _; unfold pubN; rw [if_neg hu]; rfl
      have hr1 : rst c (pubG c g f.era) (P + T) ≤ rst c g (1 + P + T) - 1 := by
        unfold rst
        rw [eu]
        split <;> split <;> omega
      have z := Int.mul_le_mul_of_nonneg_left hr1 (full_nn c l)
      rw [Int.mul_sub, Int.mul_one] at z
      omega
  · rw [if_neg e2] at le
    have eg : fG c g f = g := by unfold fG; rw [if_neg (by rw [hd]; decide), if_neg e2]
    rw [eg]
    have pn : pend (fC c cs g f) g (fF c cs cnt g f) = pend cs g f := by
      unfold pend
      rw [if_neg e2, ck]
      by_cases e1 : f.nx = 1
      · have ef : fF c cs cnt g f = { f with era := rdG cs 0, nx := if rdG cs 0 = g.l then 3 else 2 } := by unfold fF; rw [if_neg (by rw [hd]; decide), e1]; rfl
        rw [ef]
        show (if (if rdG cs 0 = g.l then 3 else 2) = 2 then (if rdG cs 0 = rdG cs 0 then (1 : Int) else 2) else if g.l = rdG cs 0 then 0 else 1) = _
        by_cases el : rdG cs 0 = g.l
        · rw [if_pos el, if_neg (by omega)]
        · rw [if_neg el, if_pos rfl, if_pos rfl, if_neg (fun z => el z.symm)]
      · have hnx : (fF c cs cnt g f).nx ≠ 2 := by
          unfold fF
          rw [if_neg (by rw [hd]; decide)]
          rcases (by have := r.nx; omega : f.nx = 0 ∨ f.nx = 3 ∨ f.nx = 4 ∨ f.nx = 5) with e | e | e | e
          · rw [e]
            show (if mkB (rdW c cs f) = true then f.anew (atF c cnt f) else if vlB (rdW c cs f) = false then f.ended c (atF c cnt f) 0 0 else { f with x := rdW c cs f, nx := 1, at_ := atF c cnt f }).nx ≠ 2
            split
            · show 0 ≠ 2; decide
            · split
              · show 0 ≠ 2; decide
              · show 1 ≠ 2; decide
          · rw [e]
            show (if mkB (fd c cs (ixV f.x) (6 + lv c f)) = true then 4 else 5) ≠ 2
            split <;> decide
          · rw [e]
            show (if (acV cs 3 (clV' c (ixV f.pr) (6 + lv c f)) (plainV f.pr) f.x (plainV f.s)).d = true then { f with nx := 0 } else f.anew f.at_).nx ≠ 2
            split
            · show 0 ≠ 2; decide
            · show 0 ≠ 2; decide
          · rw [e]
            show (if f.k ≤ fd c cs (ixV f.x) 1 then f.ended c f.at_ f.x (fd c cs (ixV f.x) 1) else { f with pr := f.x, nx := 0 }).nx ≠ 2
            split
            · show 0 ≠ 2; decide
            · show 0 ≠ 2; decide
        rw [if_neg hnx]
    rw [pn]
    exact mu_mono (by omega) (Int.le_refl _)
/-- The clock goes on. -/
theorem mu_tick {c : Cfg} {l : Nd} {k : Int} {cs : List Int} {f : Fm} {N : Nat → Nat → Nat} {rp rs : Nat → Nat} {p : Nat} (h : Iv c l k cs f N rp rs p) (g : Gs) {T : Int} :
    Iv c l k (clV cs 4 0 0 1) f N rp rs p ∧ mu c l (clV cs 4 0 0 1) g f N p T ≤ mu c l cs g f N p (T + 1) := by
  refine ⟨⟨h.rep.same (fun i f' => fd_tick c cs i f'), h.sk, h.fk, h.dn, h.d, h.ps, h.ss, h.ks, h.res, h.run⟩, ?_⟩
  have hp : pend (clV cs 4 0 0 1) g f ≤ pend cs g f + 1 := by unfold pend; split <;> split <;> split <;> omega
  unfold mu
  have z := Int.mul_le_mul_of_nonneg_left (rst_mono (c := c) (g := g) (x := pend (clV cs 4 0 0 1) g f + T) (y := pend cs g f + (T + 1)) (by omega)) (full_nn c l)
  omega
theorem fG_u {c : Cfg} {g : Gs} {f : Fm} (s0 : 1 ≤ c.s) (u0 : 0 ≤ g.u) (u1 : g.u ≤ c.s) : 0 ≤ (fG c g f).u ∧ (fG c g f).u ≤ c.s := by
  have z := pubG_u (c := c) (g := g) s0 u0 f.era
  unfold fG
  split
  · exact ⟨u0, u1⟩
  · split
    · omega
    · exact ⟨u0, u1⟩
theorem fG_t (c : Cfg) (g : Gs) (f : Fm) : (fG c g f).t = g.t := by unfold fG; split; rfl; split <;> rfl
theorem fC_len (c : Cfg) (cs : List Int) (g : Gs) (f : Fm) : (fC c cs g f).length = cs.length := by
  unfold fC
  split
  · rfl
  · split
    · exact clV_len _ _ _ _ _
    · split
      · exact clV_len _ _ _ _ _
      · rfl
theorem fF_done {c : Cfg} {cs : List Int} {cnt : Int} {g : Gs} {f : Fm} (h : f.d = true) : fF c cs cnt g f = f ∧ fC c cs g f = cs ∧ fG c g f = g := by
  unfold fF fC fG; rw [if_pos h, if_pos h, if_pos h]; exact ⟨rfl, rfl, rfl⟩
/-! What was noted, level by level. -/
theorem Iv.done {c : Cfg} {l : Nd} {k : Int} {cs : List Int} {f : Fm} {N : Nat → Nat → Nat} {rp rs : Nat → Nat} {p : Nat} (h : Iv c l k cs f N rp rs p) (hd : f.d = true) : f.dn = HN c := by
  have z := h.d; rw [hd] at z
  have := of_decide_eq_true z.symm
  have := h.dn
  omega
theorem Rs.low {l : Nd} {c : Cfg} (ok : l.ok c) {k : Int} {N : Nat → Nat → Nat} {M st p s : Nat} (sk : Sk l N) (h : Rs l k N M st p s) {y : Nat} (hy : Live l M y) (hk : y = 0 ∨ l.K y < k) : y ≤ p := by
  by_cases hle : y ≤ p
  · exact hle
  exfalso
  have y0 : ¬ y = 0 := by omega
  have ky : l.K y < k := hk.resolve_left y0
  have op := h.pl.on ok
  have lt := sk.lt M p op
  have e := h.e
  by_cases hs : y < s
  · exact sk.sk M p y op (by omega) (by rw [e]; exact hs) hy
  · by_cases hsn : s ≤ l.n
    · obtain ⟨ls, ks⟩ := h.sl hsn
      by_cases hys : y = s
      · rw [hys] at ky; omega
      · have := ok.up s y (by omega) (by omega) hy.1
        omega
    · have := hy.1; omega
theorem Rs.high {l : Nd} {c : Cfg} (ok : l.ok c) {k : Int} {N : Nat → Nat → Nat} {M st p s : Nat} (sk : Sk l N) (h : Rs l k N M st p s) {y : Nat} (hy : Live l M y) (y1 : 1 ≤ y) (hk : k ≤ l.K y) : s ≤ y := by
  have op := h.pl.on ok
  have e := h.e
  by_cases hs : s ≤ y
  · exact hs
  exfalso
  by_cases hp : y ≤ p
  · rcases h.pk with z | z
    · omega
    · by_cases hyp : y = p
      · rw [hyp] at hk; omega
      · have := ok.up y p y1 (by omega) h.pl.1
        omega
  · exact sk.sk M p y op (by omega) (by rw [e]; omega) hy
/-- What is noted is told by the nodes. -/
theorem Rs.same {l : Nd} {c : Cfg} (ok : l.ok c) {k : Int} {N N' : Nat → Nat → Nat} {M st st' p p' s s' : Nat} (sk : Sk l N) (sk' : Sk l N') (h : Rs l k N M st p s) (h' : Rs l k N' M st' p' s') : p = p' ∧ s = s' := by
  have a1 := h.low ok sk h'.pl h'.pk
  have a2 := h'.low ok sk' h.pl h.pk
  have l1 := sk.lt M p (h.pl.on ok)
  have l2 := sk'.lt M p' (h'.pl.on ok)
  have e1 := h.e
  have e2 := h'.e
  refine ⟨by omega, ?_⟩
  by_cases c1 : s ≤ l.n
  · obtain ⟨b1, b2⟩ := h.sl c1
    have z1 := h'.high ok sk' b1 (by omega) b2
    have c2 : s' ≤ l.n := by omega
    obtain ⟨d1, d2⟩ := h'.sl c2
    have z2 := h.high ok sk d1 (by omega) d2
    omega
  · by_cases c2 : s' ≤ l.n
    · obtain ⟨d1, d2⟩ := h'.sl c2
      have z2 := h.high ok sk d1 (by omega) d2
      omega
    · omega
theorem stt_same {rp rp1 : Nat → Nat} {t : Nat} (h : ∀ u, u < t → rp u = rp1 u) : stt rp t = stt rp1 t := by
  unfold stt
  by_cases h0 : t = 0
  · rw [if_pos h0, if_pos h0]
  · rw [if_neg h0, if_neg h0, h _ (by omega)]
/-- Found again, nothing is unlinked. -/
theorem Iv.clean {c : Cfg} {l : Nd} {k : Int} {cs : List Int} {f : Fm} {N : Nat → Nat → Nat} {rp rs rp1 rs1 : Nat → Nat} {p : Nat} (ok : l.ok c) (h : Iv c l k cs f N rp rs p) (hd : f.d = false)
    (h1 : ∀ t, t < HN c → Rs l k N (HN c - 1 - t) (stt rp1 t) (rp1 t) (rs1 t)) : f.nx ≠ 4 := by
  intro e
  have hdn : f.dn < HN c := by
    have z := h.d; rw [hd] at z
    have := of_decide_eq_false z.symm; omega
  have r := h.run hdn
  have q := h1 f.dn hdn
  have es : stt rp f.dn = stt rp1 f.dn := stt_same fun u hu => ((h.res u hu).same ok h.sk h.sk (h1 u (by omega))).1
  have sp := r.sp
  rw [es] at sp
  have hp := q.low ok h.sk r.pl r.pk
  have hx := r.xn (by omega)
  have dx := (r.s4 e).1
  by_cases hlt : p < rp1 f.dn
  · exact dx (q.cl p sp hlt r.pl).2
  · have hpe : p = rp1 f.dn := by omega
    have e2 := q.e
    rw [← hpe] at e2
    rw [e2] at hx dx
    exact dx (q.sl hx).1
/-- A walk along a level comes past what lies between pred and what is behind it. -/
theorem Rs.past {l : Nd} {k : Int} {N : Nat → Nat → Nat} {M st p s : Nat} (sk : Sk l N) (h : Rs l k N M st p s) {j : Nat} (hj : On l M j) (hp : j ≤ p ∨ s ≤ j) : N M j ≤ p ∨ s ≤ N M j := by
  have lt := sk.lt M j hj
  have e := h.e
  rcases hp with a | a
  · by_cases hjp : j = p
    · right; rw [hjp, e]; exact Nat.le_refl _
    · left
      by_cases hle : N M j ≤ p
      · exact hle
      · exact absurd h.pl (sk.sk M j p hj (by omega) (by omega))
  · right; omega
theorem Rs.between {l : Nd} {c : Cfg} (ok : l.ok c) {k : Int} {N : Nat → Nat → Nat} {M st p s i : Nat} (sk : Sk l N) (h : Rs l k N M st p s) (i1 : 1 ≤ i) (hi : i ≤ l.n) (hk : l.K i = k) (hd : ¬ Live l M i) : ¬ (i ≤ p ∨ s ≤ i) := by
  rintro (a | a)
  · by_cases hip : i = p
    · exact hd (by rw [hip]; exact h.pl)
    · rcases h.pk with z | z
      · omega
      · have := ok.up i p i1 (by omega) h.pl.1
        omega
  · obtain ⟨ls, ks⟩ := h.sl (by omega)
    by_cases his : i = s
    · exact hd (by rw [his]; exact ls)
    · have e := h.e
      have lt := sk.lt M p (h.pl.on ok)
      have := ok.up s i (by omega) (by omega) hi
      omega
/-! The nodes as they are laid: each names the next one of its level. -/
def nxt (l : Nd) (L : Nat) : Nat → Nat → Nat
  | 0, _ => l.n + 1
  | m + 1, j => if L < l.tl j then j else nxt l L m (j + 1)
def N0 (l : Nd) (L i : Nat) : Nat := nxt l L (l.n - i) (i + 1)
theorem nxt_is (l : Nd) (L : Nat) : ∀ m j, j + m = l.n + 1 → (j ≤ nxt l L m j ∧ nxt l L m j ≤ l.n + 1) ∧ (nxt l L m j ≤ l.n → L < l.tl (nxt l L m j)) ∧ ∀ i, j ≤ i → i < nxt l L m j → ¬ L < l.tl i
  | 0, j, h => ⟨⟨by show j ≤ l.n + 1; omega, Nat.le_refl _⟩, fun z => absurd z (by show ¬ l.n + 1 ≤ l.n; omega), fun i a b => by have b' : i < l.n + 1 := b; omega⟩
  | m + 1, j, h => by
    by_cases hj : L < l.tl j
    · have e : nxt l L (m + 1) j = j := if_pos hj
      rw [e]
      exact ⟨⟨Nat.le_refl _, by omega⟩, fun _ => hj, fun i a b => by omega⟩
    · have e : nxt l L (m + 1) j = nxt l L m (j + 1) := if_neg hj
      rw [e]
      obtain ⟨⟨a1, a2⟩, a3, a4⟩ := nxt_is l L m (j + 1) (by omega)
      refine ⟨⟨by omega, a2⟩, a3, fun i b1 b2 => ?_⟩
      by_cases hij : i = j
      · rw [hij]; exact hj
      · exact a4 i (by omega) b2
theorem Sk.laid {c : Cfg} {l : Nd} (ok : l.ok c) : Sk l (N0 l) := by
  have key := fun L i (h : i ≤ l.n) => nxt_is l L (l.n - i) (i + 1) (by omega)
  refine ⟨fun L i hi => ?_, fun L i hi hn => ?_, fun L i m hi h1 h2 hm => ?_⟩
  · obtain ⟨⟨a1, a2⟩, _, _⟩ := key L i hi.1
    exact ⟨by show i < nxt l L (l.n - i) (i + 1); omega, a2⟩
  · exact ⟨hn, (key L i hi.1).2.1 hn⟩
  · exact (key L i hi.1).2.2 m (by omega) h2 (Nat.lt_of_lt_of_le hm.2 (ok.um m hm.1))
end K
end Go.Proofs.YtgafmklfpiipcaaGreatDoor
