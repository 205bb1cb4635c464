/-
  The plain mathematics of a retire: a machine that embeds a find, over a world's words; how many steps are left while the clock stands; what holds at each step, alone.
  The contracts of package retire: a retire's block, its find, its guard and a world's words; what its calls make of them.
  The law's own words: is a node linked on any level; a retire that goes on to its end, alone.
  Nodes of which one is deleted on all its levels, and has so many owners: the words; a copy of the nodes in a row of its own.
  What the laws of retire share: what holds at each step of one that goes on to its end; entries, compared and loaded; two retires over the same words.
  The law's own world of nodes, of which one is deleted on all its levels, and has so many owners.
  Two owners of a node, one behind the other: the last one retires it.
-/
import Derived.Test.YtgafmklfpiipcaaDoorRFd
import Derived.Test.YtgafmklfpiipcaaDoorRLy
import Derived.Test.YtgafmklfpiipcaaDoorHWords2
import Derived.Deep.RegionHeld3
import Derived.Test.YtgafmklfpiipcaaDoorGOwn
import Derived.Test.YtgafmklfpiipcaaDoorMNew
namespace Go.Proofs.YtgafmklfpiipcaaDoor
open Go.RowKit (Grown Hid Below)
open Go.Deep
namespace K
set_option maxRecDepth 100000
/-- A retire: its node; what comes next (0 leave, 1 find, 2 birth, 3 now); its find; was this owner the last one; when the node was born, and retired; is it done? -/
structure Rtm where
  h : Int
  nx : Nat
  f : Fm
  la : Bool
  bi : Int
  er : Int
  d : Bool
def rtS (h k : Int) : Rtm := ⟨plainV h, 0, fmS k, false, 0, 0, false⟩
def oneL : Int := 18446744073709551615
def Rtm.ow (s : Rtm) (c : Cfg) (cs : List Int) : Int := fd c cs (ixV s.h) 5
/-- The machine behind a step; the cells; the guard; how many accesses there were; the last one. -/
def rtF (c : Cfg) (cs : List Int) (cnt : Int) (g : Gs) (s : Rtm) : Rtm :=
  if s.d = true then s else
  match s.nx with
  | 0 => { s with la := decide (s.ow c cs = 1), nx := 1, d := !decide (s.ow c cs = 1) }
  | 1 => { s with f := fF c cs cnt g s.f, nx := if (fF c cs cnt g s.f).d = true then 2 else 1 }
  | 2 => { s with bi := fd c cs (ixV s.h) 3, nx := 3 }
  | _ => { s with er := rdG cs 0, d := true }
def rtC (c : Cfg) (cs : List Int) (g : Gs) (s : Rtm) : List Int :=
  if s.d = true then cs else
  match s.nx with
  | 0 => clV cs 4 (clV' c (ixV s.h) 5) 0 oneL
  | 1 => fC c cs g s.f
  | _ => cs
def rtG (c : Cfg) (g : Gs) (s : Rtm) : Gs := if s.d = true then g else if s.nx = 1 then fG c g s.f else g
def rtN (cnt : Int) (s : Rtm) : Int := if s.d = true then cnt else cnt + 1
def rtA (c : Cfg) (cs : List Int) (g : Gs) (s : Rtm) (a : Acc) : Acc :=
  if s.d = true then a else
  match s.nx with
  | 0 => acV cs 4 (clV' c (ixV s.h) 5) (plainV s.h) 0 oneL
  | 1 => fA c cs g s.f a
  | 2 => acV cs 1 (clV' c (ixV s.h) 3) (plainV s.h) 0 0
  | _ => acV cs 1 0 0 0 0
/-- A machine's numbers. -/
structure RtI (c : Cfg) (s : Rtm) : Prop where
  hW : isW s.h
  bW : isW s.bi
  eW : isW s.er
  nx : s.nx ≤ 3
  fi : FI c s.f
  pl : plainV s.h = s.h
  f0 : s.d = false → s.nx ≤ 1 → s.f.d = false
theorem pl_pl (x : Int) : plainV (plainV x) = plainV x := by unfold plainV; omega
theorem ix_pl (x : Int) : ixV (plainV x) = ixV x := by unfold ixV plainV; omega
theorem RtI.start {c : Cfg} (R : Rt c) {h : Int} (k : Int) (hh : isW h) : RtI c (rtS h k) :=
  ⟨pl_word hh, by show isW 0; unfold isW; omega, by show isW 0; unfold isW; omega, by show 0 ≤ 3; omega, FI.of_anew R 0, pl_pl h, fun _ _ => rfl⟩
section
variable {c : Cfg} {cs : List Int} {cnt : Int} {g : Gs} {s : Rtm}
theorem rtF_0 (hd : s.d = false) (e : s.nx = 0) : rtF c cs cnt g s = { s with la := decide (s.ow c cs = 1), nx := 1, d := !decide (s.ow c cs = 1) } ∧ rtC c cs g s = clV cs 4 (clV' c (ixV s.h) 5) 0 oneL ∧ rtG c g s = g := by
  have h : ¬ s.d = true := by rw [hd]; decide
  unfold rtF rtC rtG
  rw [if_neg h, if_neg h, if_neg h, if_neg (show ¬ s.nx = 1 by omega), e]
  exact ⟨rfl, rfl, rfl⟩
theorem rtF_1 (hd : s.d = false) (e : s.nx = 1) : rtF c cs cnt g s = { s with f := fF c cs cnt g s.f, nx := if (fF c cs cnt g s.f).d = true then 2 else 1 } ∧ rtC c cs g s = fC c cs g s.f ∧ rtG c g s = fG c g s.f := by
  have h : ¬ s.d = true := by rw [hd]; decide
  unfold rtF rtC rtG
  rw [if_neg h, if_neg h, if_neg h, if_pos e, e]
  exact ⟨rfl, rfl, rfl⟩
theorem rtF_2 (hd : s.d = false) (e : s.nx = 2) : rtF c cs cnt g s = { s with bi := fd c cs (ixV s.h) 3, nx := 3 } ∧ rtC c cs g s = cs ∧ rtG c g s = g := by
  have h : ¬ s.d = true := by rw [hd]; decide
  unfold rtF rtC rtG
  rw [if_neg h, if_neg h, if_neg h, if_neg (show ¬ s.nx = 1 by omega), e]
  exact ⟨rfl, rfl, rfl⟩
theorem rtF_3 (hd : s.d = false) (e : s.nx = 3) : rtF c cs cnt g s = { s with er := rdG cs 0, d := true } ∧ rtC c cs g s = cs ∧ rtG c g s = g := by
  have h : ¬ s.d = true := by rw [hd]; decide
  unfold rtF rtC rtG
  rw [if_neg h, if_neg h, if_neg h, if_neg (show ¬ s.nx = 1 by omega), e]
  exact ⟨rfl, rfl, rfl⟩
theorem rtF_done (hd : s.d = true) : rtF c cs cnt g s = s ∧ rtC c cs g s = cs ∧ rtG c g s = g ∧ rtN cnt s = cnt := by
  unfold rtF rtC rtG rtN
  rw [if_pos hd, if_pos hd, if_pos hd, if_pos hd]; exact ⟨rfl, rfl, rfl, rfl⟩
theorem rtN_no (hd : s.d = false) : rtN cnt s = cnt + 1 := if_neg (by rw [hd]; decide)
theorem RtI.step (R : Rt c) (h : RtI c s) (hw : Wds cs) (cnt : Int) (g : Gs) : RtI c (rtF c cs cnt g s) := by
  cases hd : s.d with
  | true => rw [(rtF_done (c := c) (cs := cs) (cnt := cnt) (g := g) hd).1]; exact h
  | false =>
    rcases (by have := h.nx; omega : s.nx = 0 ∨ s.nx = 1 ∨ s.nx = 2 ∨ s.nx = 3) with e | e | e | e
    · rw [(rtF_0 (c := c) (cs := cs) (cnt := cnt) (g := g) hd e).1]
      exact ⟨h.hW, h.bW, h.eW, by show 1 ≤ 3; omega, h.fi, h.pl, fun _ _ => h.f0 hd (by omega)⟩
    · rw [(rtF_1 (c := c) (cs := cs) (cnt := cnt) (g := g) hd e).1]
      refine ⟨h.hW, h.bW, h.eW, by show (if (fF c cs cnt g s.f).d = true then 2 else 1) ≤ 3; split <;> omega, h.fi.step R hw cnt g, h.pl, fun _ z => ?_⟩
      have z' : (if (fF c cs cnt g s.f).d = true then 2 else 1) ≤ 1 := z
      show (fF c cs cnt g s.f).d = false
      split at z'
      · omega
      · rename_i q; simpa using q
    · rw [(rtF_2 (c := c) (cs := cs) (cnt := cnt) (g := g) hd e).1]
      exact ⟨h.hW, fd_word hw _ _, h.eW, by show 3 ≤ 3; omega, h.fi, h.pl, fun _ z => absurd z (by show ¬ 3 ≤ 1; omega)⟩
    · rw [(rtF_3 (c := c) (cs := cs) (cnt := cnt) (g := g) hd e).1]
      exact ⟨h.hW, h.bW, rd_word hw _, h.nx, h.fi, h.pl, fun z _ => absurd z (by show ¬ true = false; decide)⟩
theorem wds_add {cs : List Int} (h : Wds cs) (x v : Int) : Wds (clV cs 4 x 0 v) := by
  unfold Go.Proofs.YtgafmklfpiipcaaDoor.clV; split
  · refine wds_set h _ ?_
    unfold bhV isW
    simp only [add64, IntKind.wrap_u64]
    simp
    omega
  · exact h
theorem rtC_wds (h : RtI c s) (hw : Wds cs) : Wds (rtC c cs g s) := by
  unfold rtC
  split
  · exact hw
  · split
    · exact wds_add hw _ _
    · exact fC_wds hw h.fi
    · exact hw
theorem rtC_len (c : Cfg) (cs : List Int) (g : Gs) (s : Rtm) : (rtC c cs g s).length = cs.length := by
  unfold rtC
  split
  · rfl
  · split
    · exact clV_len _ _ _ _ _
    · exact fC_len _ _ _ _
    · rfl
end
theorem add_o (cs : List Int) (x via old v : Int) : (acV cs 4 x via old v).o = rdG cs x := by unfold rdG acV; split <;> rfl
/-- What a field tells behind adding to one that there is. -/
theorem fd_add {c : Cfg} {cs : List Int} (hl : (cs.length : Int) = lnV c) {i f : Int} (h : inF c i f) (v i' f' : Int) : fd c (clV cs 4 (clV' c i f) 0 v) i' f' = if i' = i ∧ f' = f then add64 (fd c cs i f) v else fd c cs i' f' := by
  have hx := cl_has hl h
  have e0 : fd c cs i f = cs.getD (clV' c i f).toNat 0 := by unfold fd; rw [rdG_eq, if_pos hx]
  unfold fd
  rw [rd_set cs 4 (clV' c i f) (clV' c i' f') v hx (add64 (fd c cs i f) v) (by rw [e0]; simp [bhV])]
  by_cases he : i' = i ∧ f' = f
  · obtain ⟨rfl, rfl⟩ := he
    rw [if_pos rfl, if_pos ⟨rfl, rfl⟩]; rfl
  · rw [if_neg he]
    by_cases e : clV' c i' f' = clV' c i f
    · exfalso
      have h' : inF c i' f' := by
        by_cases h' : inF c i' f'
        · exact h'
        · have e2 : clV' c i' f' = -1 := if_neg h'
          have := hx.1; omega
      exact he (cl_inj h' h e)
    · rw [if_neg e]
theorem clk_add {c : Cfg} {cs : List Int} (hl : (cs.length : Int) = lnV c) {i f : Int} (h : inF c i f) (v : Int) : rdG (clV cs 4 (clV' c i f) 0 v) 0 = rdG cs 0 := by
  have hx := cl_has hl h
  have e2 : clV' c i f = 1 + c.t * c.s + i * (6 + c.h) + f := if_pos h
  have z := (fld_wh h).2.1
  have := ts_bd (riB_true.1 h.1)
  rw [rd_set cs 4 (clV' c i f) 0 v hx _ rfl, if_neg (by omega)]
theorem add_less {x : Int} (h : 1 ≤ x) (h2 : x < 18446744073709551616) : add64 x oneL = x - 1 := by
  unfold add64 oneL; rw [IntKind.wrap_u64]; omega
theorem clk_tick {c : Cfg} {cs : List Int} (hr : riB c = true) (hl : (cs.length : Int) = lnV c) {T : Int} (e : rdG cs 0 = T) (h : 0 ≤ T ∧ T < 18446744073709551615) : rdG (clV cs 4 0 0 1) 0 = T + 1 := by
  have R := riB_true.1 hr
  have c0 := R.c0
  have h0 := R.h0
  have i0 : inF c 0 0 := ⟨hr, by omega, by omega, by omega, by omega⟩
  have hx := cl_has hl i0
  have h2 : hasC cs 0 := by
    unfold hasC at hx ⊢
    omega
  rw [rd_tick cs h2, e]
  unfold add64; rw [IntKind.wrap_u64]; omega
/-- What a step of a find, alone, leaves as it was: all but one word, that of a node that is not deleted on the level. -/
theorem Iv.keep {c : Cfg} {l : Nd} {k : Int} {cs : List Int} {f : Fm} {N : Nat → Nat → Nat} {rp rs : Nat → Nat} {p : Nat} (hr : riB c = true) (ok : l.ok c) (hl : (cs.length : Int) = lnV c) (h : Iv c l k cs f N rp rs p) (hd : f.d = false) (g : Gs) {i F : Nat} (hi : i ≤ l.n) (hF : F < 6) : fd c (fC c cs g f) i F = fd c cs i F := by
  have R := riB_true.1 hr
  have hdn : f.dn < HN c := by
    have z := h.d; rw [hd] at z
    have := of_decide_eq_false z.symm; omega
  have r := h.run hdn
  unfold fC
  rw [if_neg (by rw [hd]; decide)]
  by_cases e2 : f.nx = 2
  · rw [if_pos e2]; exact fd_pub _ _ _ _ _ _ _
  · rw [if_neg e2]
    by_cases e4 : f.nx = 4
    · rw [if_pos e4]
      have px : ixV f.pr = p := by rw [r.pr]; exact hw_ix (by have := r.pl.1; have := n_lt R ok; omega)
      have hc := inF_of hr ok (i := p) (f := 6 + (HN c - 1 - f.dn)) r.pl.1 (by omega)
      have op := r.pl.on ok
      have hx := r.xn (by omega)
      have hw0 : rdG cs (clV' c p (6 + (HN c - 1 - f.dn) : Nat)) = f.x := by
        have z := h.rep.nx _ p op
        rw [live_um r.pl, nw_hw hx, ← r.x (by omega) (by omega)] at z
        exact z
      have hi' := inF_of hr ok (i := i) (f := F) hi (by omega)
      unfold fd
      rw [px, lv_eq R hdn, (rd_swap cs _ _ _ _ (cl_has hl hc) hw0).1, if_neg]
      intro z
      have q := cl_inj hi' hc z
      omega
    · rw [if_neg e4]
/-! How many steps are left while the clock stands. -/
def nu (c : Cfg) (l : Nd) (cs : List Int) (g : Gs) (f : Fm) (N : Nat → Nat → Nat) (p : Nat) : Int :=
  if f.nx = 2 then (if f.era = rdG cs 0 then full c l + 1 else full c l + 4 + HN c)
  else if g.l = rdG cs 0 then bs c l f N p
  else if f.nx = 0 then full c l + 3 + ((HN c : Int) - f.dn)
  else if f.nx = 1 then full c l + 2
  else if f.nx = 3 then full c l + 5 + ((HN c : Int) - f.dn)
  else full c l + 4 + ((HN c : Int) - f.dn)
theorem dn_lt {c : Cfg} {l : Nd} {k : Int} {cs : List Int} {f : Fm} {N : Nat → Nat → Nat} {rp rs : Nat → Nat} {p : Nat} (h : Iv c l k cs f N rp rs p) (hd : f.d = false) : f.dn < HN c := by
  have z := h.d; rw [hd] at z
  have := of_decide_eq_false z.symm; omega
theorem bs_full {c : Cfg} {l : Nd} {k : Int} {cs : List Int} {f : Fm} {N : Nat → Nat → Nat} {rp rs : Nat → Nat} {p : Nat} (ok : l.ok c) (h : Iv c l k cs f N rp rs p) (hd : f.d = false) : bs c l f N p ≤ full c l := by
  have hdn := dn_lt h hd
  have r := h.run hdn
  have lt := h.sk.lt _ p (r.pl.on ok)
  unfold bs full
  obtain ⟨M, hM⟩ : ∃ M, HN c - 1 - f.dn = M := ⟨_, rfl⟩
  rw [hM] at lt ⊢
  have hz : bsL l f.nx (N M p) ≤ 4 * l.n + 1 := by
    have z := bsL_nx l (N M p : Nat)
    rcases (by have := r.nx; omega : f.nx = 0 ∨ f.nx = 1 ∨ f.nx = 2 ∨ f.nx = 3 ∨ f.nx = 4 ∨ f.nx = 5) with e | e | e | e | e | e <;> rw [e] <;> omega
  have hm : ((M : Nat) : Int) * (4 * (l.n : Int) + 1) + (4 * l.n + 1) = (((M + 1 : Nat) : Int)) * (4 * (l.n : Int) + 1) := by
    rw [Int.natCast_add, Int.natCast_one, Int.add_mul, Int.one_mul]
  have hq : (((M + 1 : Nat) : Int)) * (4 * (l.n : Int) + 1) ≤ ((HN c : Nat) : Int) * (4 * (l.n : Int) + 1) := Int.mul_le_mul_of_nonneg_right (by omega) (by omega)
  omega
theorem nu_pos {c : Cfg} {l : Nd} {k : Int} {cs : List Int} {g : Gs} {f : Fm} {N : Nat → Nat → Nat} {rp rs : Nat → Nat} {p : Nat} (ok : l.ok c) (h : Iv c l k cs f N rp rs p) (hd : f.d = false) : 1 ≤ nu c l cs g f N p := by
  have h1 := bs_pos ok h hd
  have h2 := full_nn c l
  have hdn := dn_lt h hd
  unfold nu
  split
  · split <;> omega
  · split
    · exact h1
    · split
      · omega
      · split
        · omega
        · split <;> omega
theorem nu_le {c : Cfg} {l : Nd} {k : Int} {cs : List Int} {g : Gs} {f : Fm} {N : Nat → Nat → Nat} {rp rs : Nat → Nat} {p : Nat} (ok : l.ok c) (h : Iv c l k cs f N rp rs p) (hd : f.d = false) : nu c l cs g f N p ≤ full c l + HN c + 5 := by
  have h1 := bs_full ok h hd
  unfold nu
  split
  · split <;> omega
  · split
    · omega
    · split
      · omega
      · split
        · omega
        · split <;> omega
/-- A step: fewer are left, or it is done. -/
theorem nu_step {c : Cfg} {l : Nd} {k : Int} {cs : List Int} {f : Fm} {N : Nat → Nat → Nat} {rp rs : Nat → Nat} {p : Nat} (hr : riB c = true) (ok : l.ok c) (hl : (cs.length : Int) = lnV c) (h : Iv c l k cs f N rp rs p) (hd : f.d = false) (cnt : Int) (g : Gs) :
    ∃ N' rp' rs' p', Iv c l k (fC c cs g f) (fF c cs cnt g f) N' rp' rs' p' ∧ ((fF c cs cnt g f).d = true ∨ nu c l (fC c cs g f) (fG c g f) (fF c cs cnt g f) N' p' ≤ nu c l cs g f N p - 1) := by
  obtain ⟨N', rp', rs', p', I, le, _⟩ := h.step hr ok hl hd cnt g
  refine ⟨N', rp', rs', p', I, ?_⟩
  have ck := clock_step hr ok hl h hd g
  have R := riB_true.1 hr
  have hn := n_lt R ok
  rcases le with dn | le
  · exact Or.inl dn
  cases hdd : (fF c cs cnt g f).d with
  | true => exact Or.inl rfl
  | false =>
  right
  have hdn := dn_lt h hd
  have hdn' := dn_lt I hdd
  have bf := bs_full ok I hdd
  have r := h.run hdn
  have nd : ¬ f.d = true := by rw [hd]; decide
  by_cases e2 : f.nx = 2
  · have eg : fG c g f = pubG c g f.era := by unfold fG; rw [if_neg nd, if_pos e2]
    have ef : fF c cs cnt g f = if g.u < c.s then { f with nx := 0 } else f.anew f.at_ := by
      unfold fF; rw [if_neg nd, e2]; rfl
    have hnx : (fF c cs cnt g f).nx = 0 := by rw [ef]; split <;> rfl
    unfold nu
    rw [if_pos e2, if_neg (show ¬ (fF c cs cnt g f).nx = 2 by omega), ck, eg]
    show (if f.era = rdG cs 0 then _ else _) ≤ (if f.era = rdG cs 0 then _ else _) - 1
    by_cases q : f.era = rdG cs 0
    · rw [if_pos q, if_pos q]; omega
    · rw [if_neg q, if_neg q, if_pos hnx]; omega
  · rw [if_neg e2] at le
    have eg : fG c g f = g := by unfold fG; rw [if_neg nd, if_neg e2]
    unfold nu
    rw [eg, ck, if_neg e2]
    rcases (by have := r.nx; omega : f.nx = 0 ∨ f.nx = 1 ∨ f.nx = 3 ∨ f.nx = 4 ∨ f.nx = 5) with e | e | e | e | e
    · have ef : fF c cs cnt g f = if mkB (rdW c cs f) = true then f.anew (atF c cnt f) else if vlB (rdW c cs f) = false then f.ended c (atF c cnt f) 0 0 else { f with x := rdW c cs f, nx := 1, at_ := atF c cnt f } := by unfold fF; rw [if_neg nd, e]; rfl
      have px : ixV f.pr = p := by rw [r.pr]; exact hw_ix (by have := r.pl.1; omega)
      have op := r.pl.on ok
      have w0 : rdW c cs f = nw l.n (N (HN c - 1 - f.dn) p) false := by
        unfold rdW; rw [px, lv_eq R hdn, h.rep.nx _ p op, live_um r.pl]
      rw [w0, nw_mk hn, if_neg (by decide)] at ef
      by_cases hx : vlB (nw l.n (N (HN c - 1 - f.dn) p) false) = false
      · rw [if_pos hx] at ef
        have n0 : (fF c cs cnt g f).nx = 0 := by rw [ef]; rfl
        have n1 : (fF c cs cnt g f).dn = f.dn + 1 := by rw [ef]; rfl
        rw [n0, n1, if_neg (by decide), if_pos e]
        split
        · exact le
        · rw [if_pos rfl]; omega
      · rw [if_neg hx] at ef
        have n0 : (fF c cs cnt g f).nx = 1 := by rw [ef]
        rw [n0, if_neg (by decide), if_pos e]
        split
        · exact le
        · rw [if_neg (by decide), if_pos rfl]; omega
    · have ef : fF c cs cnt g f = { f with era := rdG cs 0, nx := if rdG cs 0 = g.l then 3 else 2 } := by unfold fF; rw [if_neg nd, e]; rfl
      by_cases q : g.l = rdG cs 0
      · have n0 : (fF c cs cnt g f).nx = 3 := by rw [ef]; show (if rdG cs 0 = g.l then 3 else 2) = 3; rw [if_pos q.symm]
        rw [n0, if_neg (by decide), if_pos q, if_pos q]; exact le
      · have n0 : (fF c cs cnt g f).nx = 2 := by rw [ef]; show (if rdG cs 0 = g.l then 3 else 2) = 2; rw [if_neg (fun z => q z.symm)]
        have n1 : (fF c cs cnt g f).era = rdG cs 0 := by rw [ef]
        rw [n0, n1, if_pos rfl, if_pos rfl, if_neg q, if_neg (by omega), if_pos e]; omega
    · have ef : fF c cs cnt g f = { f with s := fd c cs (ixV f.x) (6 + lv c f), nx := if mkB (fd c cs (ixV f.x) (6 + lv c f)) = true then 4 else 5 } := by unfold fF; rw [if_neg nd, e]; rfl
      have n1 : (fF c cs cnt g f).dn = f.dn := by rw [ef]
      have n0 : (fF c cs cnt g f).nx = 4 ∨ (fF c cs cnt g f).nx = 5 := by
        rw [ef]
        show (if mkB (fd c cs (ixV f.x) (6 + lv c f)) = true then 4 else 5) = 4 ∨ (if mkB (fd c cs (ixV f.x) (6 + lv c f)) = true then 4 else 5) = 5
        split
        · exact Or.inl rfl
        · exact Or.inr rfl
      rw [n1, if_neg (by omega)]
      split
      · exact le
      · rw [if_neg (by omega), if_neg (by omega), if_neg (by omega), if_neg (by omega), if_neg (by omega)]; omega
    · have hx := r.xn (by omega)
      obtain ⟨dx, es⟩ := r.s4 e
      have ex := r.x (by omega) (by omega)
      have px : ixV f.pr = p := by rw [r.pr]; exact hw_ix (by have := r.pl.1; omega)
      have rp2 := Rep.unl hr ok hl h.rep (show HN c - 1 - f.dn < HN c by omega) r.pl hx
      have eS : plainV f.s = nw l.n (N (HN c - 1 - f.dn) (N (HN c - 1 - f.dn) p)) false := by rw [es]; exact nw_pl hn true
      have ef : fF c cs cnt g f = if (acV cs 3 (clV' c (ixV f.pr) (6 + lv c f)) (plainV f.pr) f.x (plainV f.s)).d = true then { f with nx := 0 } else f.anew f.at_ := by unfold fF; rw [if_neg nd, e]; rfl
      have hcond : (acV cs 3 (clV' c (ixV f.pr) (6 + lv c f)) (plainV f.pr) f.x (plainV f.s)).d = true := by rw [px, lv_eq R hdn, ex, eS]; exact rp2.2 _
      rw [if_pos hcond] at ef
      have n0 : (fF c cs cnt g f).nx = 0 := by rw [ef]
      have n1 : (fF c cs cnt g f).dn = f.dn := by rw [ef]
      rw [n0, n1, if_neg (by decide)]
      split
      · exact le
      · rw [if_pos rfl, if_neg (by omega), if_neg (by omega), if_neg (by omega)]; omega
    · have ef : fF c cs cnt g f = if f.k ≤ fd c cs (ixV f.x) 1 then f.ended c f.at_ f.x (fd c cs (ixV f.x) 1) else { f with pr := f.x, nx := 0 } := by unfold fF; rw [if_neg nd, e]; rfl
      have n0 : (fF c cs cnt g f).nx = 0 := by rw [ef]; split <;> rfl
      have n1 : f.dn ≤ (fF c cs cnt g f).dn := by
        rw [ef]; split
        · show f.dn ≤ f.dn + 1; omega
        · exact Nat.le_refl _
      rw [n0, if_neg (by decide)]
      split
      · exact le
      · rw [if_pos rfl, if_neg (by omega), if_neg (by omega), if_neg (by omega)]; omega
/-- The clock goes on. -/
theorem Iv.tick {c : Cfg} {l : Nd} {k : Int} {cs : List Int} {f : Fm} {N : Nat → Nat → Nat} {rp rs : Nat → Nat} {p : Nat} (h : Iv c l k cs f N rp rs p) : Iv c l k (clV cs 4 0 0 1) f N rp rs p :=
  ⟨h.rep.same (fun i f' => fd_tick c cs i f'), h.sk, h.fk, h.dn, h.d, h.ps, h.ss, h.ks, h.res, h.run⟩
theorem full_bd {c : Cfg} {l : Nd} (R : Rt c) (ok : l.ok c) : full c l + HN c + 9 ≤ 1560 := by
  have hh := HN_eq R
  have := R.h1
  have := R.c1
  have n := ok.n
  have z : ((HN c : Nat) : Int) * (4 * (l.n : Int) + 1) ≤ 6 * 257 := Int.mul_le_mul (by omega) (by omega) (by omega) (by omega)
  unfold full; omega
/-! A retire, alone, of a node that is deleted on all its levels. -/
structure Rv (c : Cfg) (l : Nd) (z : Nat) (cs : List Int) (g : Gs) (s : Rtm) (B left : Int) : Prop where
  ok : l.ok c
  hr : riB c = true
  z1 : 1 ≤ z
  zn : z ≤ l.n
  uz : l.um z = 0
  sh : s.h = hw z
  ln : (cs.length : Int) = lnV c
  b : fd c cs z 3 = B
  l0 : 0 ≤ left
  ph : (s.d = false ∧ s.nx = 0 ∧ s.f = fmS (l.K z) ∧ fd c cs z 5 = 1 ∧ (∃ N, Rep c l cs N ∧ Sk l N) ∧ full c l + HN c + 9 ≤ left)
    ∨ (s.d = false ∧ s.la = true ∧ s.nx = 1 ∧ s.f.d = false ∧ fd c cs z 5 = 0 ∧ ∃ N rp rs p, Iv c l (l.K z) cs s.f N rp rs p ∧ nu c l cs g s.f N p + 2 ≤ left)
    ∨ (s.d = false ∧ s.la = true ∧ s.nx = 2 ∧ s.f.d = true ∧ fd c cs z 5 = 0 ∧ (∃ N rp rs p, Iv c l (l.K z) cs s.f N rp rs p) ∧ 2 ≤ left)
    ∨ (s.d = false ∧ s.la = true ∧ s.nx = 3 ∧ s.f.d = true ∧ s.bi = B ∧ fd c cs z 5 = 0 ∧ (∃ N rp rs p, Iv c l (l.K z) cs s.f N rp rs p) ∧ 1 ≤ left)
    ∨ (s.d = true ∧ s.la = true ∧ s.f.d = true ∧ s.bi = B ∧ fd c cs z 5 = 0 ∧ ∃ N rp rs p, Iv c l (l.K z) cs s.f N rp rs p)
theorem z_lt {c : Cfg} {l : Nd} {z : Nat} {cs : List Int} {g : Gs} {s : Rtm} {B left : Int} (h : Rv c l z cs g s B left) : z < 4294967296 := by
  have := n_lt (riB_true.1 h.hr) h.ok
  have := h.zn
  omega
theorem Rep.anew {c : Cfg} {l : Nd} {cs : List Int} {N : Nat → Nat → Nat} (R : Rt c) (ok : l.ok c) (rep : Rep c l cs N) (sk : Sk l N) (k : Int) : Iv c l k cs (fmS k) N (fun _ => 0) (fun _ => 0) 0 :=
  Iv.of_anew (f := ⟨k, 0, 0, 0, 0, 0, 0, [], [], [], 0, false⟩) R ok rep sk rfl 0 _ _
theorem Rv.step {c : Cfg} {l : Nd} {z : Nat} {cs : List Int} {g : Gs} {s : Rtm} {B left : Int} (h : Rv c l z cs g s B left) (cnt : Int) :
    Rv c l z (rtC c cs g s) (rtG c g s) (rtF c cs cnt g s) B (if left = 0 then 0 else left - 1) ∧ rdG (rtC c cs g s) 0 = rdG cs 0 ∧ ((rtF c cs cnt g s).d = true → (rtF c cs cnt g s).er = if s.d = true then s.er else rdG cs 0) := by
  have R := riB_true.1 h.hr
  have zx : ixV s.h = z := by rw [h.sh]; exact hw_ix (z_lt h)
  have l0 := h.l0
  have i5 := inF_of h.hr h.ok (i := z) (f := 5) h.zn (by omega)
  rcases h.ph with ⟨hd, nx, ef, ow, ⟨N, rep, sk⟩, le⟩ | ⟨hd, la, nx, fd0, o0, N, rp, rs, p, I, le⟩ | ⟨hd, la, nx, fd1, o0, I, le⟩ | ⟨hd, la, nx, fd1, eb, o0, I, le⟩ | ⟨hd, la, fd1, eb, o0, I⟩
  · obtain ⟨e1, e2, e3⟩ := rtF_0 (c := c) (cs := cs) (cnt := cnt) (g := g) hd nx
    have eo : s.ow c cs = 1 := by unfold Rtm.ow; rw [zx]; exact ow
    rw [eo] at e1
    rw [zx] at e2
    rw [e1, e2, e3]
    have i5' : inF c (z : Int) (5 : Int) := i5
    have ad := fun (i' f' : Int) => fd_add h.ln i5' oneL i' f'
    have fn := full_nn c l
    have rep' : Rep c l (clV cs 4 (clV' c z 5) 0 oneL) N := by
      refine ⟨fun L i hi => ?_, fun i a b => ?_⟩
      · rw [ad, if_neg (by omega)]; exact rep.nx L i hi
      · rw [ad, if_neg (by omega)]; exact rep.ky i a b
    have I := Rep.anew R h.ok rep' sk (l.K z)
    refine ⟨⟨h.ok, h.hr, h.z1, h.zn, h.uz, h.sh, by rw [clV_len]; exact h.ln, by rw [ad, if_neg (by omega)]; exact h.b, by split <;> omega, ?_⟩, clk_add h.ln i5' _, fun q => absurd q (by simp)⟩
    refine Or.inr (Or.inl ⟨by simp, by simp, rfl, by show s.f.d = false; rw [ef]; rfl, ?_, N, _, _, _, by show Iv c l (l.K z) _ s.f N _ _ _; rw [ef]; exact I, ?_⟩)
    · rw [ad, if_pos ⟨rfl, rfl⟩]
      have e5 : fd c cs (z : Int) 5 = 1 := ow
      rw [e5]; exact add_less (by omega) (by omega)
    · have nl := nu_le (g := g) h.ok I rfl
      show nu c l (clV cs 4 (clV' c z 5) 0 oneL) g s.f N 0 + 2 ≤ _
      rw [ef, if_neg (by omega)]; omega
  · obtain ⟨e1, e2, e3⟩ := rtF_1 (c := c) (cs := cs) (cnt := cnt) (g := g) hd nx
    rw [e1, e2, e3]
    obtain ⟨N', rp', rs', p', I', le'⟩ := nu_step h.hr h.ok h.ln I fd0 cnt g
    have ck := clock_step h.hr h.ok h.ln I fd0 g
    have np := nu_pos (g := g) h.ok I fd0
    have kp := fun (F : Nat) (hF : F < 6) => Iv.keep h.hr h.ok h.ln I fd0 g (i := z) (F := F) h.zn hF
    have k3 : fd c (fC c cs g s.f) z 3 = fd c cs z 3 := kp 3 (by omega)
    have k5 : fd c (fC c cs g s.f) z 5 = fd c cs z 5 := kp 5 (by omega)
    refine ⟨⟨h.ok, h.hr, h.z1, h.zn, h.uz, h.sh, by rw [fC_len]; exact h.ln, k3.trans h.b, by split <;> omega, ?_⟩, ck, fun q => absurd q (by show ¬ s.d = true; rw [hd]; decide)⟩
    cases hdd : (fF c cs cnt g s.f).d with
    | true => exact Or.inr (Or.inr (Or.inl ⟨hd, la, rfl, rfl, k5.trans o0, ⟨N', rp', rs', p', I'⟩, by split <;> omega⟩))
    | false =>
      refine Or.inr (Or.inl ⟨hd, la, rfl, rfl, k5.trans o0, N', rp', rs', p', I', ?_⟩)
      rcases le' with q | q
      · rw [hdd] at q; cases q
      · show nu c l (fC c cs g s.f) (fG c g s.f) (fF c cs cnt g s.f) N' p' + 2 ≤ _
        rw [if_neg (by omega)]; omega
  · obtain ⟨e1, e2, e3⟩ := rtF_2 (c := c) (cs := cs) (cnt := cnt) (g := g) hd nx
    rw [e1, e2, e3, zx]
    exact ⟨⟨h.ok, h.hr, h.z1, h.zn, h.uz, h.sh, h.ln, h.b, by split <;> omega, Or.inr (Or.inr (Or.inr (Or.inl ⟨hd, la, rfl, fd1, h.b, o0, I, by split <;> omega⟩)))⟩, rfl, fun q => absurd q (by show ¬ s.d = true; rw [hd]; decide)⟩
  · obtain ⟨e1, e2, e3⟩ := rtF_3 (c := c) (cs := cs) (cnt := cnt) (g := g) hd nx
    rw [e1, e2, e3]
    exact ⟨⟨h.ok, h.hr, h.z1, h.zn, h.uz, h.sh, h.ln, h.b, by split <;> omega, Or.inr (Or.inr (Or.inr (Or.inr ⟨rfl, la, fd1, eb, o0, I⟩)))⟩, rfl, fun _ => by rw [hd]; rfl⟩
  · obtain ⟨e1, e2, e3, _⟩ := rtF_done (c := c) (cs := cs) (cnt := cnt) (g := g) hd
    rw [e1, e2, e3]
    exact ⟨⟨h.ok, h.hr, h.z1, h.zn, h.uz, h.sh, h.ln, h.b, by split <;> omega, Or.inr (Or.inr (Or.inr (Or.inr ⟨hd, la, fd1, eb, o0, I⟩)))⟩, rfl, fun _ => by rw [if_pos hd]⟩
/-- The clock goes on; the same, over any words that tell the same of the nodes. -/
theorem Rv.any {c : Cfg} {l : Nd} {z : Nat} {cs : List Int} {g : Gs} {s : Rtm} {B left left' : Int} (h : Rv c l z cs g s B left) (hl : full c l + HN c + 9 ≤ left') (g' : Gs) : Rv c l z cs g' s B left' := by
  have fn := full_nn c l
  refine ⟨h.ok, h.hr, h.z1, h.zn, h.uz, h.sh, h.ln, h.b, by omega, ?_⟩
  rcases h.ph with ⟨hd, nx, ef, ow, q, le⟩ | ⟨hd, la, nx, fd0, o0, N, rp, rs, p, I, le⟩ | ⟨hd, la, nx, fd1, o0, I, le⟩ | ⟨hd, la, nx, fd1, eb, o0, I, le⟩ | ⟨hd, la, fd1, eb, o0, I⟩
  · exact Or.inl ⟨hd, nx, ef, ow, q, hl⟩
  · exact Or.inr (Or.inl ⟨hd, la, nx, fd0, o0, N, rp, rs, p, I, by have := nu_le (g := g') h.ok I fd0; omega⟩)
  · exact Or.inr (Or.inr (Or.inl ⟨hd, la, nx, fd1, o0, I, by omega⟩))
  · exact Or.inr (Or.inr (Or.inr (Or.inl ⟨hd, la, nx, fd1, eb, o0, I, by omega⟩)))
  · exact Or.inr (Or.inr (Or.inr (Or.inr ⟨hd, la, fd1, eb, o0, I⟩)))
theorem Rv.tick {c : Cfg} {l : Nd} {z : Nat} {cs : List Int} {g : Gs} {s : Rtm} {B left left' : Int} (h : Rv c l z cs g s B left) (hl : full c l + HN c + 9 ≤ left') : Rv c l z (clV cs 4 0 0 1) g s B left' := by
  have fn := full_nn c l
  have t := fun i f' => fd_tick c cs i f'
  refine ⟨h.ok, h.hr, h.z1, h.zn, h.uz, h.sh, by rw [clV_len]; exact h.ln, by rw [t]; exact h.b, by omega, ?_⟩
  rcases h.ph with ⟨hd, nx, ef, ow, ⟨N, rep, sk⟩, le⟩ | ⟨hd, la, nx, fd0, o0, N, rp, rs, p, I, le⟩ | ⟨hd, la, nx, fd1, o0, ⟨N, rp, rs, p, I⟩, le⟩ | ⟨hd, la, nx, fd1, eb, o0, ⟨N, rp, rs, p, I⟩, le⟩ | ⟨hd, la, fd1, eb, o0, N, rp, rs, p, I⟩
  · exact Or.inl ⟨hd, nx, ef, by rw [t]; exact ow, ⟨N, rep.same t, sk⟩, hl⟩
  · exact Or.inr (Or.inl ⟨hd, la, nx, fd0, by rw [t]; exact o0, N, rp, rs, p, I.tick, by have := nu_le (g := g) h.ok I.tick fd0; omega⟩)
  · exact Or.inr (Or.inr (Or.inl ⟨hd, la, nx, fd1, by rw [t]; exact o0, ⟨N, rp, rs, p, I.tick⟩, by omega⟩))
  · exact Or.inr (Or.inr (Or.inr (Or.inl ⟨hd, la, nx, fd1, eb, by rw [t]; exact o0, ⟨N, rp, rs, p, I.tick⟩, by omega⟩)))
  · exact Or.inr (Or.inr (Or.inr (Or.inr ⟨hd, la, fd1, eb, by rw [t]; exact o0, N, rp, rs, p, I.tick⟩)))
/-- Nothing is left: it is done. -/
theorem Rv.fin {c : Cfg} {l : Nd} {z : Nat} {cs : List Int} {g : Gs} {s : Rtm} {B left : Int} (h : Rv c l z cs g s B left) (h0 : left = 0) : s.d = true ∧ s.la = true ∧ s.bi = B ∧ fd c cs z 5 = 0 := by
  have fn := full_nn c l
  rcases h.ph with ⟨_, _, _, _, _, le⟩ | ⟨hd, la, nx, fd0, o0, N, rp, rs, p, I, le⟩ | ⟨_, _, _, _, _, _, le⟩ | ⟨_, _, _, _, _, _, _, le⟩ | ⟨hd, la, fd1, eb, o0, I⟩
  · omega
  · have := nu_pos (g := g) h.ok I fd0; omega
  · omega
  · omega
  · exact ⟨hd, la, eb, o0⟩
/-- Words along which a walk comes by no field of the node. -/
def Unl (c : Cfg) (l : Nd) (z : Nat) (cs : List Int) : Prop := ∀ L, L < HN c → ∃ P : Nat → Prop, (∀ j, P j → ¬ j = z) ∧ (∃ j, fd c cs 0 (6 + L : Nat) = nw l.n j false ∧ 1 ≤ j ∧ j ≤ l.n + 1 ∧ (j ≤ l.n → P j)) ∧ ∀ i, P i → ∃ j b, fd c cs i (6 + L : Nat) = nw l.n j b ∧ (j ≤ l.n → P j)
theorem Rv.unl {c : Cfg} {l : Nd} {z : Nat} {cs : List Int} {g : Gs} {s : Rtm} {B left : Int} (h : Rv c l z cs g s B left) (fd1 : s.f.d = true) : Unl c l z cs := by
  have key : ∃ N rp rs p, Iv c l (l.K z) cs s.f N rp rs p := by
    rcases h.ph with ⟨_, _, ef, _⟩ | ⟨_, _, _, fd0, _⟩ | ⟨_, _, _, _, _, I, _⟩ | ⟨_, _, _, _, _, _, I, _⟩ | ⟨_, _, _, _, _, I⟩
    · rw [ef] at fd1; cases fd1
    · rw [fd0] at fd1; cases fd1
    · exact I
    · exact I
    · exact I
  obtain ⟨N, rp, rs, p, I⟩ := key
  intro L hL
  obtain ⟨P, S, p0, on0, go, no⟩ := I.level h.ok fd1 hL
  have nz : ¬ Pst P S z := no z h.z1 h.zn rfl (fun q => by have := q.2; rw [h.uz] at this; omega)
  have o0 : On l L 0 := ⟨Nat.zero_le _, by have := h.ok.h0.1; omega⟩
  have e0 := I.rep.nx L 0 o0
  rw [decide_eq_false (show ¬ l.um 0 ≤ L by have := h.ok.h0.2; omega)] at e0
  have lt0 : 1 ≤ N L 0 ∧ N L 0 ≤ l.n + 1 := I.sk.lt L 0 o0
  refine ⟨fun j => On l L j ∧ Pst P S j, fun j q e => nz (by rw [← e]; exact q.2), ⟨N L 0, e0, lt0.1, lt0.2, fun q => ⟨on0 q, p0⟩⟩, fun i q => ⟨N L i, _, I.rep.nx L i q.1, fun w => ⟨(go i q.1 q.2).2 w, (go i q.1 q.2).1⟩⟩⟩
theorem Rv.done {c : Cfg} {l : Nd} {z : Nat} {cs : List Int} {g : Gs} {s : Rtm} {B left : Int} (h : Rv c l z cs g s B left) (hd : s.d = true) : s.f.d = true ∧ s.la = true ∧ s.bi = B ∧ fd c cs z 5 = 0 := by
  rcases h.ph with ⟨q, _⟩ | ⟨q, _⟩ | ⟨q, _⟩ | ⟨q, _⟩ | ⟨_, la, fd1, eb, o0, _⟩
  · rw [q] at hd; cases hd
  · rw [q] at hd; cases hd
  · rw [q] at hd; cases hd
  · rw [q] at hd; cases hd
  · exact ⟨fd1, la, eb, o0⟩
end K
end Go.Proofs.YtgafmklfpiipcaaDoor
namespace Go.Proofs.YtgafmklfpiipcaaDoor
open Go.RowKit (Grown Hid Below)
open Go.Deep
namespace K
set_option maxRecDepth 100000
/-- A retire's block. -/
def RtB (w : World) (b fb : Nat) (v : Value) (la : Bool) (h bi er : Int) : Prop := w.heap[b]? = some (.cells #[.pointer (some ⟨fb, 0, none⟩), v, .bool la, .int .u64 h, .int .u64 bi, .int .u64 er] 77 (0, 0))
theorem RtB.kept {l : List Nat} {w w' : World} {b fb : Nat} {v : Value} {la : Bool} {h bi er : Int} (hB : RtB w b fb v la h bi er) (kk : Kept l w w') (hb : b ∉ l) : RtB w' b fb v la h bi er := kk.blk hB hb
theorem RtB.set1 {w : World} {b fb : Nat} {v : Value} {la : Bool} {h bi er : Int} (hB : RtB w b fb v la h bi er) (y : Value) : RtB (w.setCell ⟨b, 1, none⟩ y) b fb y la h bi er := by
  have z := blk_set hB 1 y
  simpa [RtB] using z
theorem RtB.set2 {w : World} {b fb : Nat} {v : Value} {la : Bool} {h bi er : Int} (hB : RtB w b fb v la h bi er) (y : Bool) : RtB (w.setCell ⟨b, 2, none⟩ (.bool y)) b fb v y h bi er := by
  have z := blk_set hB 2 (.bool y)
  simpa [RtB] using z
theorem RtB.set4 {w : World} {b fb : Nat} {v : Value} {la : Bool} {h bi er : Int} (hB : RtB w b fb v la h bi er) (y : Int) : RtB (w.setCell ⟨b, 4, none⟩ (.int .u64 y)) b fb v la h y er := by
  have z := blk_set hB 4 (.int .u64 y)
  simpa [RtB] using z
theorem RtB.set5 {w : World} {b fb : Nat} {v : Value} {la : Bool} {h bi er : Int} (hB : RtB w b fb v la h bi er) (y : Int) : RtB (w.setCell ⟨b, 5, none⟩ (.int .u64 y)) b fb v la h bi y := by
  have z := blk_set hB 5 (.int .u64 y)
  simpa [RtB] using z
def phT (s : Rtm) (b : Nat) : Value := if s.d = true then .nilFunc else match s.nx with
  | 0 => ffV 34 b
  | 1 => ffV 60 b
  | 2 => ffV 74 b
  | _ => ffV 82 b
set_option maxHeartbeats 2000000 in
theorem rtnew_any (h k : Int) (w : World) (hT : Tab w) (h0 : 0 ≤ h) (h1 : h < 18446744073709551616) :
    Calls Tryd.prog 11 #[.int .u64 h, .int .u64 k] w fun e w' => ∃ b fb, e = .returned (.pointer (some ⟨b, 0, none⟩)) ∧ w.heap.size ≤ b ∧ w.heap.size ≤ fb ∧ RtB w' b fb (ffV 34 b) false (plainV h) 0 0 ∧ FB w' fb (ffV 58 fb) k 0 0 0 0 0 none 0 0 ∧ Kept [] w w' := by
  obtain ⟨H, hH⟩ : ∃ H, H = plainV h := ⟨_, rfl⟩
  rw [← hH]
  go_enter Tryd.func11, Tryd.ntmps11
  go_wp2_with fail
  refine (fnew_any k _).mono ?_
  rintro e w1 ⟨fb, rfl, hfb, F, K1⟩
  have PL := hidOf (plain_any h w1 (hT.kept K1) h0 h1)
  have HX := hidOf (And.intro hfb (And.intro F K1))
  rw [← hH] at PL
  clear hfb F K1 hT hH
  go_wp2_with fail
  refine PL.out.mono ?_
  rintro e w2 ⟨rfl, K2⟩
  obtain ⟨b, hb⟩ : ∃ b, b = w2.heap.size := ⟨_, rfl⟩
  have BX : Hid (RtB (w2.alloc (.cells #[.pointer (some ⟨fb, 0, none⟩), .nilFunc, .bool false, .int .u64 H, .int .u64 0, .int .u64 0] 77)) b fb .nilFunc false H 0 0 ∧ Kept [] w2 (w2.alloc (.cells #[.pointer (some ⟨fb, 0, none⟩), .nilFunc, .bool false, .int .u64 H, .int .u64 0, .int .u64 0] 77))) := hidOf (by rw [hb]; exact ⟨blk_alloc_new w2 _, (Kept.refl [] w2).alloc _⟩)
  have HK2 := hidOf (And.intro K2 hb)
  clear PL K2
  go_upto_region 2 with (fail)
  rw [← hb]
  refine gen_world (fun W => RtB W b fb .nilFunc false H 0 0 ∧ Kept [] w2 W) BX.out ?_
  clear BX hb
  rintro W ⟨Z, K0⟩
  have z1 := cell_of_blk Z (i := 1) rfl
  have zf := free_of_blk Z
  have zl := lt_of_blk Z
  have HZ := hidOf (And.intro Z K0)
  clear Z K0
  go_wp2
  go_ret
  obtain ⟨hfb, F, K1⟩ := HX.out
  obtain ⟨K2, hb⟩ := HK2.out
  obtain ⟨Z, K0⟩ := HZ.out
  have ks := (Kept.refl [b] W).setCell (p := ⟨b, 1, none⟩) (Or.inl (by simp)) (ffV 34 b)
  have s1 := K1.size
  have s2 := K2.size
  have hlt := lt_of_blk F
  exact ⟨b, fb, rfl, by omega, hfb, Z.set1 _, ((F.kept K2 (by simp)).kept K0 (by simp)).kept ks (by simp; omega), ((K1.trans K2).trans K0).then ks (by simp; omega)⟩
set_option maxHeartbeats 2000000 in
theorem rtdone_any (b fb : Nat) (s : Rtm) (la : Bool) (h bi er : Int) (w : World) (hB : RtB w b fb (phT s b) la h bi er) :
    Calls Tryd.prog 14 #[.pointer (some ⟨b, 0, none⟩)] w fun e w' => e = .returned (.bool s.d) ∧ w' = w := by
  have E1 := f_eqfun
  have E2 := f_eqnil
  have q4 := cell_of_blk hB (i := 1) rfl
  clear hB
  cases hd : s.d with
  | true =>
    have e : phT s b = .nilFunc := if_pos hd
    rw [e] at q4
    clear e hd
    go_enter Tryd.func14, Tryd.ntmps14
    go_wp2
    go_ret
    exact ⟨rfl, rfl⟩
  | false =>
    have e : ∃ F, phT s b = ffV F b := by
      unfold phT; rw [if_neg (by rw [hd]; decide)]
      split <;> exact ⟨_, rfl⟩
    obtain ⟨F, e⟩ := e
    rw [e] at q4
    unfold ffV at q4
    clear e hd
    go_enter Tryd.func14, Tryd.ntmps14
    go_wp2
    go_ret
    exact ⟨rfl, rfl⟩
/-- The entry, as it is told. -/
def entV (h bi er : Int) : Value := .agg #[.int .u64 h, .int .u64 bi, .int .u64 er]
def Rtm.ent (s : Rtm) : Value := if s.d = true ∧ s.la = true then entV s.h s.bi s.er else entV 0 0 0
def Rtm.told (s : Rtm) : Bool := s.d && s.la
set_option maxHeartbeats 4000000 in
theorem rtentry_any (b fb : Nat) (s : Rtm) (w : World) (hB : RtB w b fb (phT s b) s.la s.h s.bi s.er) :
    Calls Tryd.prog 13 #[.pointer (some ⟨b, 0, none⟩)] w fun e w' => e = .returned (.tuple #[s.ent, .bool s.told]) ∧ Kept [] w w' := by
  have DN := hidOf (fun (W : World) (kk : Kept [] w W) => rtdone_any b fb s s.la s.h s.bi s.er W (hB.kept kk (by simp)))
  obtain ⟨D, hD⟩ : ∃ D, s.d = D := ⟨_, rfl⟩
  obtain ⟨L, hL⟩ : ∃ L, s.la = L := ⟨_, rfl⟩
  have e1 : s.ent = if D = true ∧ L = true then entV s.h s.bi s.er else entV 0 0 0 := by unfold Rtm.ent; rw [hD, hL]
  have e2 : s.told = (D && L) := by unfold Rtm.told; rw [hD, hL]
  rw [e1, e2]
  obtain ⟨EV, hEV⟩ : ∃ EV, EV = if D = true ∧ L = true then entV s.h s.bi s.er else entV 0 0 0 := ⟨_, rfl⟩
  obtain ⟨TD, hTD⟩ : ∃ TD, TD = (D && L) := ⟨_, rfl⟩
  rw [← hEV, ← hTD]
  rw [hD] at DN
  rw [hL] at hB
  generalize phT s b = V at hB
  generalize s.h = H at *
  generalize s.bi = B at *
  generalize s.er = E at *
  obtain ⟨q, hq⟩ : ∃ q, q = w.heap.size := ⟨_, rfl⟩
  have HB := hidOf hB
  have HEV := hidOf (And.intro hEV hTD)
  have BX : Hid (RW 37 (w.alloc (.cells #[.int .u64 0, .int .u64 0, .int .u64 0] 37)) q #[.int .u64 0, .int .u64 0, .int .u64 0] ∧ Kept [] w (w.alloc (.cells #[.int .u64 0, .int .u64 0, .int .u64 0] 37))) := hidOf (by rw [hq]; exact ⟨RW.new _ _ _, (Kept.refl [] w).alloc _⟩)
  clear e1 e2 hD hL hB hEV hTD
  go_enter Tryd.func13, Tryd.ntmps13
  go_upto_region 1 with (fail)
  rw [← hq]
  refine gen_world (fun W => RW 37 W q #[.int .u64 0, .int .u64 0, .int .u64 0] ∧ Kept [] w W) BX.out ?_
  have hqw : w.heap.size ≤ q := by omega
  clear BX hq
  rintro W ⟨Q, K0⟩
  have Z := HB.out.kept K0 (by simp)
  have z2 := cell_of_blk Z (i := 2) rfl
  have z3 := cell_of_blk Z (i := 3) rfl
  have z4 := cell_of_blk Z (i := 4) rfl
  have z5 := cell_of_blk Z (i := 5) rfl
  have x0 := cell_of_blk Q (i := 0) rfl
  have x1 := cell_of_blk Q (i := 1) rfl
  have x2 := cell_of_blk Q (i := 2) rfl
  have xf := free_of_blk Q
  have xl := lt_of_blk Q
  have HK := hidOf (And.intro K0 (And.intro hqw (And.intro Q Z)))
  clear Q Z
  have FIN : Hid (∀ Y : World, Y = W → Kept [] w (((Y.setCell ⟨q, 0, none⟩ (.int .u64 0)).setCell ⟨q, 1, none⟩ (.int .u64 0)).setCell ⟨q, 2, none⟩ (.int .u64 0)) ∧ Kept [] w (((Y.setCell ⟨q, 0, none⟩ (.int .u64 H)).setCell ⟨q, 1, none⟩ (.int .u64 B)).setCell ⟨q, 2, none⟩ (.int .u64 E))) := hidOf (fun Y e => by
    subst e
    obtain ⟨K0, hq, _, _⟩ := HK.out
    exact ⟨((K0.setCell (p := ⟨q, 0, none⟩) (Or.inr hq) _).setCell (p := ⟨q, 1, none⟩) (Or.inr hq) _).setCell (p := ⟨q, 2, none⟩) (Or.inr hq) _, ((K0.setCell (p := ⟨q, 0, none⟩) (Or.inr hq) _).setCell (p := ⟨q, 1, none⟩) (Or.inr hq) _).setCell (p := ⟨q, 2, none⟩) (Or.inr hq) _⟩)
  cases D with
  | false =>
    go_wp2_with fail
    refine (DN.out W HK.out.1).mono ?_
    rintro e w1 ⟨rfl, rfl⟩
    go_wp2
    refine bodyPost_ret (v := .tuple #[entV 0 0 0, .bool false]) (by simp [results, Tryd.results13, go_sem, entV, x0, x1, x2]) rfl ⟨by rw [HEV.out.1, HEV.out.2]; simp, ?_⟩
    first | exact (FIN.out _ rfl).1 | exact HK.out.1
  | true =>
    cases L with
    | false =>
      go_wp2_with fail
      refine (DN.out W HK.out.1).mono ?_
      rintro e w1 ⟨rfl, rfl⟩
      go_wp2
      refine bodyPost_ret (v := .tuple #[entV 0 0 0, .bool false]) (by simp [results, Tryd.results13, go_sem, entV, x0, x1, x2]) rfl ⟨by rw [HEV.out.1, HEV.out.2]; simp, ?_⟩
      first | exact (FIN.out _ rfl).1 | exact HK.out.1
    | true =>
      go_wp2_with fail
      refine (DN.out W HK.out.1).mono ?_
      rintro e w1 ⟨rfl, rfl⟩
      go_wp2
      refine bodyPost_ret (v := .tuple #[entV H B E, .bool true]) (by simp [results, Tryd.results13, go_sem, entV, x0, x1, x2]) rfl ⟨by rw [HEV.out.1, HEV.out.2]; simp, ?_⟩
      exact (FIN.out _ rfl).2
section
variable {base : Nat → Prop} {w0 w w' : World} {b fb gb m p r : Nat} {c : Cfg} {g : Gs} {f : Fm} {s : Rtm} {cs : List Int} {cnt : Int} {a : Acc}
/-- A find, its guard and other words, that were accessed; a retire's block beside them is written. -/
theorem Fw.rm {A : Array Value} {x : Nat} {cs' : List Int} {cnt' : Int} {a' : Acc} (h : Fw base w0 w b gb m p r c g f cs cnt a) (hx : w.heap[x]? = some (.cells A 77 (0, 0))) (ox : w0.heap.size ≤ x) (M : Mm w' m p r c cs' cnt' a') (K : Kept [x, p, r] w w') (wd : Wds cs') (n0 : 0 ≤ cnt') : Fw base w0 w' b gb m p r c g f cs' cnt' a' := by
  have nm := fs_nm h.st.fs h.st.mm
  have gm := h.st.gd.nm h.st.mm
  have n1 : ¬ b = x := by
    rcases h.st.fs.2 with z | ⟨_, _, _, _, gg, A, z⟩
    · exact blk_ne (T1 := 113) z.fb hx (by decide)
    · exact blk_ne (T1 := 113) z.fb hx (by decide)
  have n2 : ¬ gb = x := blk_ne (T1 := 96) h.st.gd hx (by decide)
  have KK : Kept [] w0 w' := h.kp.then K (by have := h.op; have := h.ow; simp; omega)
  exact ⟨⟨h.st.R, h.st.fs.kept K (by simp; omega) (fun g3 _ he => by
    obtain ⟨A, hA⟩ := he
    have n1 := blk_ne (T1 := 129) hA h.st.mm.bk.st (by decide)
    have n2 := blk_ne (T1 := 129) hA h.st.mm.bk.row (by decide)
    have n3 := blk_ne (T1 := 129) hA hx (by decide)
    simp; omega), h.st.gd.kept K (by simp; omega), M, h.t0.kept KK, h.st.fi, wd, h.st.u0, h.st.u1, h.st.g0, fun z hz => h.st.bs z (Nat.le_trans K.size hz)⟩, KK, h.ob, h.og, h.op, h.ow, h.os, n0, h.t0⟩
end
/-- A retire, its find, its guard and the words, all of them made behind w0. -/
structure RtW (base : Nat → Prop) (w0 w : World) (b fb gb m p r : Nat) (c : Cfg) (g : Gs) (s : Rtm) (cs : List Int) (cnt : Int) (a : Acc) : Prop where
  rb : RtB w b fb (phT s b) s.la s.h s.bi s.er
  fw : Fw base w0 w fb gb m p r c g s.f cs cnt a
  ri : RtI c s
  ob : w0.heap.size ≤ b
section
variable {base : Nat → Prop} {w0 w w' : World} {b fb gb m p r : Nat} {c : Cfg} {g : Gs} {s : Rtm} {cs : List Int} {cnt : Int} {a : Acc}
theorem RtW.new (h : RtW base w0 w b fb gb m p r c g s cs cnt a) (k : Kept [] w w') : RtW base w0 w' b fb gb m p r c g s cs cnt a :=
  ⟨h.rb.kept k (by simp), h.fw.new k, h.ri, h.ob⟩
theorem RtW.nm (h : RtW base w0 w b fb gb m p r c g s cs cnt a) : (¬ b = m ∧ ¬ b = p ∧ ¬ b = r) ∧ ¬ b = fb ∧ ¬ b = gb := by
  have hB := h.rb
  refine ⟨⟨blk_ne (T1 := 77) hB h.fw.st.mm.st (by decide), blk_ne (T1 := 77) hB h.fw.st.mm.bk.st (by decide), blk_ne (T1 := 77) hB h.fw.st.mm.bk.row (by decide)⟩, ?_, blk_ne (T1 := 77) hB h.fw.st.gd (by decide)⟩
  rcases h.fw.st.fs.2 with z | ⟨_, _, _, _, gg, A, z⟩
  · exact blk_ne (T1 := 77) hB z.fb (by decide)
  · exact blk_ne (T1 := 77) hB z.fb (by decide)
theorem RtW.mm {cs' : List Int} {cnt' : Int} {a' : Acc} (h : RtW base w0 w b fb gb m p r c g s cs cnt a) (M : Mm w' m p r c cs' cnt' a') (K : Kept [p, r] w w') (wd : Wds cs') (n0 : 0 ≤ cnt') : RtW base w0 w' b fb gb m p r c g s cs' cnt' a' := by
  obtain ⟨⟨n1, n2, n3⟩, _⟩ := h.nm
  exact ⟨h.rb.kept K (by simp; omega), h.fw.rm h.rb h.ob M (K.weaken (by simp)) wd n0, h.ri, h.ob⟩
/-- What a step of a retire leaves. -/
def RtR (base : Nat → Prop) (w0 w w' : World) (b fb gb m p r : Nat) (c : Cfg) (g' : Gs) (s' : Rtm) (cs' : List Int) (cnt' : Int) (a' : Acc) : Prop :=
  RtW base w0 w' b fb gb m p r c g' s' cs' cnt' a' ∧ FK base [b, fb, gb, p, r] w w'
set_option maxHeartbeats 4000000 in
/-- The owner goes. -/
theorem rtleave_any (h : RtW base w0 w b fb gb m p r c g s cs cnt a) (hd : s.d = false) (nx : s.nx = 0) (c1 : cnt < 4611686018427387904) (V : Value) :
    Calls Tryd.prog 34 #[.pointer (some ⟨b, 0, none⟩), .pointer (some ⟨m, 0, none⟩), V] w fun e w' => e = .returned (.tuple #[]) ∧ RtW base w0 w' b fb gb m p r c (rtG c g s) (rtF c cs cnt g s) (rtC c cs g s) (rtN cnt s) (rtA c cs g s a) ∧ Kept [b, p, r] w w' := by
  obtain ⟨e1, e2, e3⟩ := rtF_0 (c := c) (cs := cs) (cnt := cnt) (g := g) hd nx
  have e4 : rtN cnt s = cnt + 1 := rtN_no hd
  have e5 : rtA c cs g s a = acV cs 4 (clV' c (ixV s.h) 5) (plainV s.h) 0 oneL := by unfold rtA; rw [if_neg (by rw [hd]; decide), nx]; rfl
  have RI' := h.ri.step h.fw.st.R h.fw.st.wd cnt g
  have WD' := rtC_wds (g := g) h.ri h.fw.st.wd
  have hW := h.ri.hW
  have c0 := h.fw.n0
  have AD := hidOf (fun (W : World) (k : Kept [] w W) => (madd_any m p r c cs cnt a s.h 5 oneL W (h.fw.st.mm.new k) (h.fw.st.tb.kept k) hW.1 hW.2 c0 c1).mono fun _ _ z => And.intro z.1 (And.intro z.2.1 ((k.weaken (m := [p, r]) (by simp)).trans z.2.2)))
  have eo : (acV cs 4 (clV' c (ixV s.h) 5) (plainV s.h) 0 oneL).o = s.ow c cs := add_o cs _ _ _ _
  rw [eo] at AD
  obtain ⟨⟨nm1, nm2, nm3⟩, nf, ng⟩ := h.nm
  have HNM := hidOf (And.intro nm1 (And.intro nm2 nm3))
  have HBB := hidOf h.rb
  have q3 := cell_of_blk h.rb (i := 3) rfl
  rw [e1] at RI' ⊢
  rw [e2] at WD' ⊢
  rw [e3, e4, e5]
  have MM := hidOf (fun (w' : World) (M : Mm w' m p r c (clV cs 4 (clV' c (ixV s.h) 5) 0 oneL) (cnt + 1) (acV cs 4 (clV' c (ixV s.h) 5) (plainV s.h) 0 oneL)) (K : Kept [b, p, r] w w') => h.fw.rm h.rb h.ob M K WD' (by omega))
  have ew : 18446744073709551615 = oneL := rfl
  clear e1 e2 e3 e4 e5 eo
  generalize acV cs 4 (clV' c (ixV s.h) 5) (plainV s.h) 0 oneL = A at *
  generalize clV cs 4 (clV' c (ixV s.h) 5) 0 oneL = CC at *
  rw [← ew] at AD
  obtain ⟨X, hX⟩ : ∃ X, X = s.ow c cs := ⟨_, rfl⟩
  rw [← hX] at AD RI' ⊢
  have HD := hidOf hd
  have HRI := hidOf RI'
  have HOB := hidOf h.ob
  clear h RI' WD' hX nm1 nm2 nm3 nf ng hd nx hW c0 c1 ew
  have FIN : Hid (∀ (w7 : World) (B : Bool) (v : Value), decide (X = 1) = B → v = phT { s with la := B, nx := 1, d := !B } b → Mm w7 m p r c CC (cnt + 1) A → Kept [p, r] w w7 → RtW base w0 ((w7.setCell ⟨b, 2, none⟩ (.bool B)).setCell ⟨b, 1, none⟩ v) b fb gb m p r c g { s with la := decide (X = 1), nx := 1, d := !decide (X = 1) } CC (cnt + 1) A ∧ Kept [b, p, r] w ((w7.setCell ⟨b, 2, none⟩ (.bool B)).setCell ⟨b, 1, none⟩ v)) := hidOf (fun w7 B v hB hv M7 K7 => by
    have ks := ((Kept.refl [b] w7).setCell (p := ⟨b, 2, none⟩) (Or.inl (by simp)) (.bool B)).setCell (p := ⟨b, 1, none⟩) (Or.inl (by simp)) v
    have hn := HNM.out
    have K8 : Kept [b, p, r] w ((w7.setCell ⟨b, 2, none⟩ (.bool B)).setCell ⟨b, 1, none⟩ v) := (K7.weaken (m := [b, p, r]) (by simp)).then ks (by simp)
    have M8 := M7.kept ks (by simp; omega) (by simp; omega) (by simp; omega)
    have hri := HRI.out
    have Z := ((HBB.out.kept K7 (by simp; omega)).set2 B).set1 v
    rw [hB] at hri ⊢
    refine ⟨⟨?_, MM.out _ M8 K8, hri, HOB.out⟩, K8⟩
    rw [← hv]; exact Z)
  by_cases hx : X = 1
  · subst hx
    go_enter Tryd.func34, Tryd.ntmps34
    go_wp2_with fail
    refine (AD.out _ (Kept.refl _ _)).mono ?_
    rintro e w7 ⟨rfl, M7, K7⟩
    have Z := HBB.out.kept K7 (by have := HNM.out; simp; omega)
    have z1 := cell_of_blk Z (i := 1) rfl
    have z2 := cell_of_blk Z (i := 2) rfl
    have zf := free_of_blk Z
    have zl := lt_of_blk Z
    have HM7 := hidOf (And.intro M7 K7)
    clear M7 Z K7 AD HBB
    go_wp2
    go_end0
    refine ⟨rfl, FIN.out _ true _ (by decide) ?_ HM7.out.1 HM7.out.2⟩
    unfold phT; rw [if_neg (by show ¬ (!true) = true; decide)]; rfl
  · have hxb : (X == 1) = false := by simpa using hx
    have hxd : decide (X = 1) = false := by simpa using hx
    go_enter Tryd.func34, Tryd.ntmps34
    go_wp2_with fail
    refine (AD.out _ (Kept.refl _ _)).mono ?_
    rintro e w7 ⟨rfl, M7, K7⟩
    have Z := HBB.out.kept K7 (by have := HNM.out; simp; omega)
    have z1 := cell_of_blk Z (i := 1) rfl
    have z2 := cell_of_blk Z (i := 2) rfl
    have zf := free_of_blk Z
    have zl := lt_of_blk Z
    have HM7 := hidOf (And.intro M7 K7)
    clear M7 Z K7 AD HBB
    go_wp2
    refine bodyPost_ret (v := .tuple #[]) (by simp [results, Tryd.results34, go_sem]) rfl ⟨rfl, FIN.out _ false _ hxd ?_ HM7.out.1 HM7.out.2⟩
    unfold phT; rw [if_pos (show (!false) = true from rfl)]
set_option maxHeartbeats 4000000 in
/-- A step of the find. -/
theorem rtfind_any (h : RtW base w0 w b fb gb m p r c g s cs cnt a) (hd : s.d = false) (nx : s.nx = 1) (c1 : cnt < 4611686018427387904) :
    Calls Tryd.prog 60 #[.pointer (some ⟨b, 0, none⟩), .pointer (some ⟨m, 0, none⟩), .pointer (some ⟨gb, 0, none⟩)] w fun e w' => e = .returned (.tuple #[]) ∧ RtR base w0 w w' b fb gb m p r c (rtG c g s) (rtF c cs cnt g s) (rtC c cs g s) (rtN cnt s) (rtA c cs g s a) := by
  obtain ⟨e1, e2, e3⟩ := rtF_1 (c := c) (cs := cs) (cnt := cnt) (g := g) hd nx
  have fd0 := h.ri.f0 hd (by omega)
  have e4 : rtN cnt s = cnt + 1 := rtN_no hd
  have e5 : rtA c cs g s a = fA c cs g s.f a := by unfold rtA; rw [if_neg (by rw [hd]; decide), nx]; rfl
  have e6 : fN cnt s.f = cnt + 1 := fN_no fd0
  have RI' := h.ri.step h.fw.st.R h.fw.st.wd cnt g
  have SP := hidOf (h.fw.step c1)
  obtain ⟨⟨nm1, nm2, nm3⟩, nf, ng⟩ := h.nm
  have HB := hidOf h.rb
  have q0 := cell_of_blk h.rb (i := 0) rfl
  have HN := hidOf (show b ∉ [fb, gb, p, r] by simp; omega)
  have PH : phT s b = ffV 60 b := by unfold phT; rw [if_neg (by rw [hd]; decide), nx]; rfl
  have HOB := hidOf h.ob
  rw [e1] at RI' ⊢
  rw [e2, e3, e4, e5]
  rw [e6] at SP
  obtain ⟨F', hF'⟩ : ∃ F', F' = fF c cs cnt g s.f := ⟨_, rfl⟩
  rw [← hF'] at SP RI' ⊢
  clear hF' e1 e2 e3 e4 e5 e6 fd0
  obtain ⟨D, hD⟩ : ∃ D, F'.d = D := ⟨_, rfl⟩
  rw [hD] at RI' ⊢
  have HD := hidOf hD
  have HDS := hidOf hd
  generalize fG c g s.f = G at *
  generalize fC c cs g s.f = CC at *
  generalize fA c cs g s.f a = AA at *
  have HRI := hidOf RI'
  have HPH := hidOf PH
  clear h hD RI' nm1 nm2 nm3 nf ng PH hd nx
  go_enter Tryd.func60, Tryd.ntmps60
  go_wp2_with fail
  refine SP.out.mono ?_
  rintro e w1 ⟨rfl, Z, K1⟩
  have B1 : RtB w1 b fb (phT s b) s.la s.h s.bi s.er := K1.blk HB.out (by decide) HN.out
  have q01 := cell_of_blk B1 (i := 0) rfl
  have q11 := cell_of_blk B1 (i := 1) rfl
  have qf := free_of_blk B1
  have ql := lt_of_blk B1
  have HZ := hidOf (And.intro B1 (And.intro Z (show FK base [b, fb, gb, p, r] w w1 from K1.weaken (by simp))))
  clear B1 Z K1 SP q0
  have DN := hidOf (HZ.out.2.1.st.done)
  rw [HD.out] at DN
  go_wp2_with fail
  refine DN.out.mono ?_
  rintro e w2 ⟨rfl, rfl⟩
  cases D with
  | false =>
    go_wp2
    go_end0
    obtain ⟨B1, Z, K1⟩ := HZ.out
    refine ⟨rfl, ⟨?_, Z, HRI.out, HOB.out⟩, K1⟩
    have e : phT { s with f := F', nx := 1 } b = phT s b := by
      rw [HPH.out]; unfold phT
      rw [if_neg (by show ¬ s.d = true; rw [HDS.out]; decide)]; rfl
    rw [e]; exact B1
  | true =>
    go_wp2
    go_end0
    obtain ⟨B1, Z, K1⟩ := HZ.out
    have ks := (Kept.refl [b] w2).setCell (p := ⟨b, 1, none⟩) (Or.inl (by simp)) (ffV 74 b)
    have e : phT { s with f := F', nx := 2 } b = ffV 74 b := by
      unfold phT
      rw [if_neg (by show ¬ s.d = true; rw [HDS.out]; decide)]; rfl
    refine ⟨rfl, ⟨?_, Z.rm B1 HOB.out (Z.st.mm.kept ks (by have := blk_ne (T1 := 72) Z.st.mm.st B1 (by decide); simp; omega) (by have := blk_ne (T1 := 87) Z.st.mm.bk.st B1 (by decide); simp; omega) (by have := blk_ne (T1 := 26) Z.st.mm.bk.row B1 (by decide); simp; omega)) (ks.weaken (by simp)) Z.st.wd Z.n0, HRI.out, HOB.out⟩, K1.then (FK.of (ks.weaken (by simp)))⟩
    rw [e]; exact B1.set1 _
set_option maxHeartbeats 4000000 in
/-- When was it born? -/
theorem rtbirth_any (h : RtW base w0 w b fb gb m p r c g s cs cnt a) (hd : s.d = false) (nx : s.nx = 2) (c1 : cnt < 4611686018427387904) (V : Value) :
    Calls Tryd.prog 74 #[.pointer (some ⟨b, 0, none⟩), .pointer (some ⟨m, 0, none⟩), V] w fun e w' => e = .returned (.tuple #[]) ∧ RtR base w0 w w' b fb gb m p r c (rtG c g s) (rtF c cs cnt g s) (rtC c cs g s) (rtN cnt s) (rtA c cs g s a) := by
  obtain ⟨e1, e2, e3⟩ := rtF_2 (c := c) (cs := cs) (cnt := cnt) (g := g) hd nx
  have e4 : rtN cnt s = cnt + 1 := rtN_no hd
  have e5 : rtA c cs g s a = acV cs 1 (clV' c (ixV s.h) 3) (plainV s.h) 0 0 := by unfold rtA; rw [if_neg (by rw [hd]; decide), nx]; rfl
  have RI' := h.ri.step h.fw.st.R h.fw.st.wd cnt g
  have wd := h.fw.st.wd
  have hW := h.ri.hW
  have c0 := h.fw.n0
  have LD := hidOf (fun (W : World) (k : Kept [] w W) => (mload_any m p r c cs cnt a s.h 3 W (h.fw.st.mm.new k) (h.fw.st.tb.kept k) hW.1 hW.2 c0 c1).mono fun _ _ z => And.intro z.1 (And.intro z.2.1 ((k.weaken (m := [p, r]) (by simp)).trans z.2.2)))
  have eo : (acV cs 1 (clV' c (ixV s.h) 3) (plainV s.h) 0 0).o = fd c cs (ixV s.h) 3 := ld_o cs _ _
  rw [eo, clk_load] at LD
  obtain ⟨⟨nm1, nm2, nm3⟩, nf, ng⟩ := h.nm
  have HNM := hidOf (And.intro nm1 (And.intro nm2 nm3))
  have HBB := hidOf h.rb
  have q3 := cell_of_blk h.rb (i := 3) rfl
  rw [e1] at RI' ⊢
  rw [e2, e3, e4, e5]
  have MM := hidOf (fun (w' : World) (M : Mm w' m p r c cs (cnt + 1) (acV cs 1 (clV' c (ixV s.h) 3) (plainV s.h) 0 0)) (K : Kept [b, p, r] w w') => h.fw.rm h.rb h.ob M K wd (by omega))
  clear e1 e2 e3 e4 e5 eo
  generalize acV cs 1 (clV' c (ixV s.h) 3) (plainV s.h) 0 0 = A at *
  generalize fd c cs (ixV s.h) 3 = X at *
  have HD := hidOf hd
  have HRI := hidOf RI'
  have HOB := hidOf h.ob
  clear h RI' wd nm1 nm2 nm3 nf ng hd nx hW c0 c1
  go_enter Tryd.func74, Tryd.ntmps74
  go_wp2_with fail
  refine (LD.out _ (Kept.refl _ _)).mono ?_
  rintro e w7 ⟨rfl, M7, K7⟩
  have Z := HBB.out.kept K7 (by have := HNM.out; simp; omega)
  have z1 := cell_of_blk Z (i := 1) rfl
  have z4 := cell_of_blk Z (i := 4) rfl
  have zf := free_of_blk Z
  have zl := lt_of_blk Z
  have HX := hidOf (And.intro Z (And.intro M7 K7))
  clear M7 Z K7 LD HBB
  go_wp2
  go_end0
  obtain ⟨Z, M7, K7⟩ := HX.out
  have ks := ((Kept.refl [b] w7).setCell (p := ⟨b, 4, none⟩) (Or.inl (by simp)) (.int .u64 X)).setCell (p := ⟨b, 1, none⟩) (Or.inl (by simp)) (ffV 82 b)
  have hn := HNM.out
  have K8 : Kept [b, p, r] w ((w7.setCell ⟨b, 4, none⟩ (.int .u64 X)).setCell ⟨b, 1, none⟩ (ffV 82 b)) := (K7.weaken (m := [b, p, r]) (by simp)).then ks (by simp)
  have M8 := M7.kept ks (by simp; omega) (by simp; omega) (by simp; omega)
  refine ⟨rfl, ⟨?_, MM.out _ M8 K8, HRI.out, HOB.out⟩, FK.of (K8.weaken (by simp))⟩
  rw [show phT { s with bi := X, nx := 3 } b = ffV 82 b from by unfold phT; rw [if_neg (by show ¬ s.d = true; rw [HD.out]; decide)]; rfl]
  exact (Z.set4 X).set1 _
set_option maxHeartbeats 4000000 in
/-- Which era is it? -/
theorem rtnow_any (h : RtW base w0 w b fb gb m p r c g s cs cnt a) (hd : s.d = false) (nx : s.nx = 3) (c1 : cnt < 4611686018427387904) (V : Value) :
    Calls Tryd.prog 82 #[.pointer (some ⟨b, 0, none⟩), .pointer (some ⟨m, 0, none⟩), V] w fun e w' => e = .returned (.tuple #[]) ∧ RtR base w0 w w' b fb gb m p r c (rtG c g s) (rtF c cs cnt g s) (rtC c cs g s) (rtN cnt s) (rtA c cs g s a) := by
  obtain ⟨e1, e2, e3⟩ := rtF_3 (c := c) (cs := cs) (cnt := cnt) (g := g) hd nx
  have e4 : rtN cnt s = cnt + 1 := rtN_no hd
  have e5 : rtA c cs g s a = acV cs 1 0 0 0 0 := by unfold rtA; rw [if_neg (by rw [hd]; decide), nx]; rfl
  have RI' := h.ri.step h.fw.st.R h.fw.st.wd cnt g
  have wd := h.fw.st.wd
  have c0 := h.fw.n0
  have LD := hidOf (fun (W : World) (k : Kept [] w W) => (mclock_any m p r c cs cnt a W (h.fw.st.mm.new k) c0 c1).mono fun _ _ z => And.intro z.1 (And.intro z.2.1 ((k.weaken (m := [p, r]) (by simp)).trans z.2.2)))
  have eo : (acV cs 1 0 0 0 0).o = rdG cs 0 := ld_o cs _ _
  rw [eo, clk_load] at LD
  obtain ⟨⟨nm1, nm2, nm3⟩, nf, ng⟩ := h.nm
  have HNM := hidOf (And.intro nm1 (And.intro nm2 nm3))
  have HBB := hidOf h.rb
  rw [e1] at RI' ⊢
  rw [e2, e3, e4, e5]
  have MM := hidOf (fun (w' : World) (M : Mm w' m p r c cs (cnt + 1) (acV cs 1 0 0 0 0)) (K : Kept [b, p, r] w w') => h.fw.rm h.rb h.ob M K wd (by omega))
  clear e1 e2 e3 e4 e5 eo
  generalize acV cs 1 0 0 0 0 = A at *
  generalize rdG cs 0 = X at *
  have HRI := hidOf RI'
  have HOB := hidOf h.ob
  clear h RI' wd nm1 nm2 nm3 nf ng hd nx c0 c1
  go_enter Tryd.func82, Tryd.ntmps82
  go_wp2_with fail
  refine (LD.out _ (Kept.refl _ _)).mono ?_
  rintro e w7 ⟨rfl, M7, K7⟩
  have Z := HBB.out.kept K7 (by have := HNM.out; simp; omega)
  have z1 := cell_of_blk Z (i := 1) rfl
  have z5 := cell_of_blk Z (i := 5) rfl
  have zf := free_of_blk Z
  have zl := lt_of_blk Z
  have HX := hidOf (And.intro Z (And.intro M7 K7))
  clear M7 Z K7 LD HBB
  go_wp2
  go_end0
  obtain ⟨Z, M7, K7⟩ := HX.out
  have ks := ((Kept.refl [b] w7).setCell (p := ⟨b, 5, none⟩) (Or.inl (by simp)) (.int .u64 X)).setCell (p := ⟨b, 1, none⟩) (Or.inl (by simp)) .nilFunc
  have hn := HNM.out
  have K8 : Kept [b, p, r] w ((w7.setCell ⟨b, 5, none⟩ (.int .u64 X)).setCell ⟨b, 1, none⟩ .nilFunc) := (K7.weaken (m := [b, p, r]) (by simp)).then ks (by simp)
  have M8 := M7.kept ks (by simp; omega) (by simp; omega) (by simp; omega)
  refine ⟨rfl, ⟨?_, MM.out _ M8 K8, HRI.out, HOB.out⟩, FK.of (K8.weaken (by simp))⟩
  rw [show phT { s with er := X, d := true } b = .nilFunc from if_pos rfl]
  exact (Z.set5 X).set1 _
set_option maxHeartbeats 4000000 in
/-- A step of a retire whose machine says what comes next. -/
theorem rtstep_leave (h : RtW base w0 w b fb gb m p r c g s cs cnt a) (hd : s.d = false) (ph : phT s b = ffV 34 b) (R : World → Prop)
    (hc : ∀ W, W = w → Calls Tryd.prog 34 #[.pointer (some ⟨b, 0, none⟩), .pointer (some ⟨m, 0, none⟩), .pointer (some ⟨gb, 0, none⟩)] W fun e w' => e = .returned (.tuple #[]) ∧ R w') :
    Calls Tryd.prog 22 #[.pointer (some ⟨b, 0, none⟩), .pointer (some ⟨m, 0, none⟩), .pointer (some ⟨gb, 0, none⟩)] w fun e w' => e = .returned (.tuple #[]) ∧ R w' := by
  have DN := hidOf (rtdone_any b fb s s.la s.h s.bi s.er w h.rb)
  rw [hd] at DN
  have B := h.rb
  rw [ph] at B
  have q4 := cell_of_blk B (i := 1) rfl
  unfold ffV at q4
  have HC := hidOf (hc w rfl)
  clear hc B h hd ph
  go_enter Tryd.func22, Tryd.ntmps22
  go_wp2_with fail
  refine DN.out.mono ?_
  rintro e w1 ⟨rfl, rfl⟩
  go_wp2_with fail
  refine HC.out.mono ?_
  rintro e w2 ⟨rfl, X⟩
  have HX := hidOf X
  clear HC DN X q4
  go_wp2
  go_end0
  exact ⟨rfl, HX.out⟩
set_option maxHeartbeats 4000000 in
/-- A step of a retire whose machine says what comes next. -/
theorem rtstep_find (h : RtW base w0 w b fb gb m p r c g s cs cnt a) (hd : s.d = false) (ph : phT s b = ffV 60 b) (R : World → Prop)
    (hc : ∀ W, W = w → Calls Tryd.prog 60 #[.pointer (some ⟨b, 0, none⟩), .pointer (some ⟨m, 0, none⟩), .pointer (some ⟨gb, 0, none⟩)] W fun e w' => e = .returned (.tuple #[]) ∧ R w') :
    Calls Tryd.prog 22 #[.pointer (some ⟨b, 0, none⟩), .pointer (some ⟨m, 0, none⟩), .pointer (some ⟨gb, 0, none⟩)] w fun e w' => e = .returned (.tuple #[]) ∧ R w' := by
  have DN := hidOf (rtdone_any b fb s s.la s.h s.bi s.er w h.rb)
  rw [hd] at DN
  have B := h.rb
  rw [ph] at B
  have q4 := cell_of_blk B (i := 1) rfl
  unfold ffV at q4
  have HC := hidOf (hc w rfl)
  clear hc B h hd ph
  go_enter Tryd.func22, Tryd.ntmps22
  go_wp2_with fail
  refine DN.out.mono ?_
  rintro e w1 ⟨rfl, rfl⟩
  go_wp2_with fail
  refine HC.out.mono ?_
  rintro e w2 ⟨rfl, X⟩
  have HX := hidOf X
  clear HC DN X q4
  go_wp2
  go_end0
  exact ⟨rfl, HX.out⟩
set_option maxHeartbeats 4000000 in
/-- A step of a retire whose machine says what comes next. -/
theorem rtstep_birth (h : RtW base w0 w b fb gb m p r c g s cs cnt a) (hd : s.d = false) (ph : phT s b = ffV 74 b) (R : World → Prop)
    (hc : ∀ W, W = w → Calls Tryd.prog 74 #[.pointer (some ⟨b, 0, none⟩), .pointer (some ⟨m, 0, none⟩), .pointer (some ⟨gb, 0, none⟩)] W fun e w' => e = .returned (.tuple #[]) ∧ R w') :
    Calls Tryd.prog 22 #[.pointer (some ⟨b, 0, none⟩), .pointer (some ⟨m, 0, none⟩), .pointer (some ⟨gb, 0, none⟩)] w fun e w' => e = .returned (.tuple #[]) ∧ R w' := by
  have DN := hidOf (rtdone_any b fb s s.la s.h s.bi s.er w h.rb)
  rw [hd] at DN
  have B := h.rb
  rw [ph] at B
  have q4 := cell_of_blk B (i := 1) rfl
  unfold ffV at q4
  have HC := hidOf (hc w rfl)
  clear hc B h hd ph
  go_enter Tryd.func22, Tryd.ntmps22
  go_wp2_with fail
  refine DN.out.mono ?_
  rintro e w1 ⟨rfl, rfl⟩
  go_wp2_with fail
  refine HC.out.mono ?_
  rintro e w2 ⟨rfl, X⟩
  have HX := hidOf X
  clear HC DN X q4
  go_wp2
  go_end0
  exact ⟨rfl, HX.out⟩
set_option maxHeartbeats 4000000 in
/-- A step of a retire whose machine says what comes next. -/
theorem rtstep_now (h : RtW base w0 w b fb gb m p r c g s cs cnt a) (hd : s.d = false) (ph : phT s b = ffV 82 b) (R : World → Prop)
    (hc : ∀ W, W = w → Calls Tryd.prog 82 #[.pointer (some ⟨b, 0, none⟩), .pointer (some ⟨m, 0, none⟩), .pointer (some ⟨gb, 0, none⟩)] W fun e w' => e = .returned (.tuple #[]) ∧ R w') :
    Calls Tryd.prog 22 #[.pointer (some ⟨b, 0, none⟩), .pointer (some ⟨m, 0, none⟩), .pointer (some ⟨gb, 0, none⟩)] w fun e w' => e = .returned (.tuple #[]) ∧ R w' := by
  have DN := hidOf (rtdone_any b fb s s.la s.h s.bi s.er w h.rb)
  rw [hd] at DN
  have B := h.rb
  rw [ph] at B
  have q4 := cell_of_blk B (i := 1) rfl
  unfold ffV at q4
  have HC := hidOf (hc w rfl)
  clear hc B h hd ph
  go_enter Tryd.func22, Tryd.ntmps22
  go_wp2_with fail
  refine DN.out.mono ?_
  rintro e w1 ⟨rfl, rfl⟩
  go_wp2_with fail
  refine HC.out.mono ?_
  rintro e w2 ⟨rfl, X⟩
  have HX := hidOf X
  clear HC DN X q4
  go_wp2
  go_end0
  exact ⟨rfl, HX.out⟩
set_option maxHeartbeats 2000000 in
theorem rtstep_d (V1 V2 : Value) (hB : RtB w b fb (phT s b) s.la s.h s.bi s.er) (hd : s.d = true) :
    Calls Tryd.prog 22 #[.pointer (some ⟨b, 0, none⟩), V1, V2] w fun e w' => e = .returned (.tuple #[]) ∧ w' = w := by
  have DN := hidOf (rtdone_any b fb s s.la s.h s.bi s.er w hB)
  rw [hd] at DN
  clear hB hd
  go_enter Tryd.func22, Tryd.ntmps22
  go_wp2_with fail
  refine DN.out.mono ?_
  rintro e w1 ⟨rfl, rfl⟩
  clear DN
  go_wp2
  go_end0
  exact ⟨rfl, rfl⟩
theorem rtstep0_any (h : RtW base w0 w b fb gb m p r c g s cs cnt a) (hd : s.d = false) (nx : s.nx = 0) (c1 : cnt < 4611686018427387904) :
    Calls Tryd.prog 22 #[.pointer (some ⟨b, 0, none⟩), .pointer (some ⟨m, 0, none⟩), .pointer (some ⟨gb, 0, none⟩)] w fun e w' => e = .returned (.tuple #[]) ∧ RtW base w0 w' b fb gb m p r c (rtG c g s) (rtF c cs cnt g s) (rtC c cs g s) (rtN cnt s) (rtA c cs g s a) ∧ Kept [b, p, r] w w' :=
  rtstep_leave h hd (by unfold phT; rw [if_neg (by rw [hd]; decide), nx]; rfl) _ (fun W hW => by rw [hW]; exact rtleave_any h hd nx c1 _)
theorem rtstep_any (h : RtW base w0 w b fb gb m p r c g s cs cnt a) (c1 : cnt < 4611686018427387904) :
    Calls Tryd.prog 22 #[.pointer (some ⟨b, 0, none⟩), .pointer (some ⟨m, 0, none⟩), .pointer (some ⟨gb, 0, none⟩)] w fun e w' => e = .returned (.tuple #[]) ∧ RtR base w0 w w' b fb gb m p r c (rtG c g s) (rtF c cs cnt g s) (rtC c cs g s) (rtN cnt s) (rtA c cs g s a) := by
  cases hd : s.d with
  | true =>
    obtain ⟨e1, e2, e3, e4⟩ := rtF_done (c := c) (cs := cs) (cnt := cnt) (g := g) hd
    have e5 : rtA c cs g s a = a := if_pos hd
    rw [e1, e2, e3, e4, e5]
    exact (rtstep_d _ _ h.rb hd).mono fun _ _ hh => ⟨hh.1, by rw [hh.2]; exact ⟨h, FK.of (Kept.refl _ _)⟩⟩
  | false =>
    rcases (by have := h.ri.nx; omega : s.nx = 0 ∨ s.nx = 1 ∨ s.nx = 2 ∨ s.nx = 3) with e | e | e | e
    · exact (rtstep0_any h hd e c1).mono fun _ _ hh => ⟨hh.1, hh.2.1, FK.of (hh.2.2.weaken (by simp))⟩
    · exact rtstep_find h hd (by unfold phT; rw [if_neg (by rw [hd]; decide), e]; rfl) _ (fun W hW => by rw [hW]; exact rtfind_any h hd e c1)
    · exact rtstep_birth h hd (by unfold phT; rw [if_neg (by rw [hd]; decide), e]; rfl) _ (fun W hW => by rw [hW]; exact rtbirth_any h hd e c1 _)
    · exact rtstep_now h hd (by unfold phT; rw [if_neg (by rw [hd]; decide), e]; rfl) _ (fun W hW => by rw [hW]; exact rtnow_any h hd e c1 _)
end
end K
end Go.Proofs.YtgafmklfpiipcaaDoor
namespace Go.Proofs.YtgafmklfpiipcaaDoor
open Go.RowKit (Grown Hid Below intOf)
open Go.Deep
namespace K
set_option maxRecDepth 100000
/-- Where a walk of a level is. -/
def At (c : Cfg) (l : Nd) (z : Nat) (cs : List Int) (L : Nat) (V : Int) : Prop := Unl c l z cs → ∃ P : Nat → Prop, (∀ j, P j → ¬ j = z) ∧ (∀ i, P i → ∃ j b, fd c cs i (6 + L : Nat) = nw l.n j b ∧ (j ≤ l.n → P j)) ∧ ∃ j b, V = nw l.n j b ∧ (j ≤ l.n → P j)
theorem At.head {c : Cfg} {l : Nd} {z : Nat} {cs : List Int} {L : Nat} (hL : L < HN c) : At c l z cs L (fd c cs 0 (6 + L : Nat)) := fun U => by
  obtain ⟨P, p1, ⟨j, e, _, _, q⟩, p2⟩ := U L hL
  exact ⟨P, p1, p2, j, false, e, q⟩
theorem At.next {c : Cfg} {l : Nd} {z : Nat} {cs : List Int} {L : Nat} {V : Int} (hn : l.n < 4294967296) (h : At c l z cs L V) (v : vlB V = true) : At c l z cs L (fd c cs (ixV V) (6 + L : Nat)) := fun U => by
  obtain ⟨P, p1, p2, j, b, e, q⟩ := h U
  have hj : j ≤ l.n := by rw [e, nw_vl2 hn] at v; simpa using v
  obtain ⟨j2, b2, e2, q2⟩ := p2 j (q hj)
  rw [e, nw_ix hn hj]; exact ⟨P, p1, p2, j2, b2, e2, q2⟩
theorem At.no {c : Cfg} {l : Nd} {z : Nat} {cs : List Int} {L : Nat} {V : Int} (hn : l.n < 4294967296) (h : At c l z cs L V) (v : vlB V = true) (ez : ixV V = z) : ¬ Unl c l z cs := fun U => by
  obtain ⟨P, p1, p2, j, b, e, q⟩ := h U
  have hj : j ≤ l.n := by rw [e, nw_vl2 hn] at v; simpa using v
  rw [e, nw_ix hn hj] at ez
  exact p1 j (q hj) (by omega)
theorem rw_pr {T : TypeId} {w w' : World} {q m p r : Nat} {A : Array Value} {c : Cfg} {cs : List Int} {cnt : Int} {a : Acc} (h : RW T w q A) (M : Mm w m p r c cs cnt a) (h1 : T ≠ 87) (h2 : T ≠ 26) (k : Kept [p, r] w w') : RW T w' q A :=
  h.kept k (nin2 (fun e => blk_ne h M.bk.st h1 e) (fun e => blk_ne h M.bk.row h2 e))
def LkR (c : Cfg) (l : Nd) (z : Nat) (cs : List Int) (cnt : Int) (m p r : Nat) (w : World) (e : Ending) (w' : World) : Prop := ∃ B cnt' a', e = .returned (.bool B) ∧ (Unl c l z cs → B = false) ∧ Mm w' m p r c cs cnt' a' ∧ cnt ≤ cnt' ∧ cnt' ≤ cnt + 500 ∧ Kept [p, r] w w'
set_option maxHeartbeats 8000000 in
theorem linked14_any (w : World) (m p r : Nat) (c : Cfg) (cs : List Int) (cnt : Int) (a : Acc) (l : Nd) (z : Nat) (hM : Mm w m p r c cs cnt a) (hT : Tab w) (R : Rt c) (hp : 0 < p) (hr : 0 < r) (wd : Wds cs) (hn : l.n < 4294967296) (c0 : 0 ≤ cnt) (c1 : cnt < 4000000000000000000) :
    Calls Tryd.prog 15 #[.pointer (some ⟨m, 0, none⟩), .int .i64 z] w fun e w' => LkR c l z cs cnt m p r w e w' := by
  have hh := HN_eq R
  have h1 := R.h1
  have h0 := R.h0
  have cc1 := R.c1
  have cc0 := R.c0
  have HPR := hidOf (And.intro hp hr)
  have HT := hidOf (fun (W : World) (k : Kept [p, r] w W) => hT.keptL k (by have := HPR.out; simp; omega))
  have LD := hidOf (fun (W : World) (x L : Int) (cnt' : Int) (a' : Acc) (M : Mm W m p r c cs cnt' a') (k : Kept [p, r] w W) (hx : isW x) (h0 : 0 ≤ cnt') (h1 : cnt' < 4600000000000000000) => (mload_any m p r c cs cnt' a' x (6 + L) W M (HT.out W k) hx.1 hx.2 h0 (by omega)).mono fun _ _ z => And.intro z.1 (And.intro z.2.1 (And.intro (k.trans z.2.2) z.2.2)))
  simp only [ld_o, clk_load] at LD
  have HM := hidOf hM
  have HWD := hidOf (fun (i f : Int) => fd_word (c := c) wd i f)
  have HNL := hidOf hn
  have HC := hidOf (And.intro c0 c1)
  have HN6 := hidOf (And.intro hh (And.intro h0 (And.intro h1 (And.intro cc0 cc1))))
  have HD := hidOf (fun (W : World) (k : Kept [p, r] w W) => (head_any W (HT.out W k)).mono fun _ _ z => And.intro z.1 z.2)
  obtain ⟨q, hq⟩ : ∃ q, q = w.heap.size := ⟨_, rfl⟩
  have CF := hidOf (config_any c w)
  simp only [Cfg.val] at CF
  have q0 := cell_of_blk hM.st (i := 0) rfl
  have q1 := cell_of_blk hM.st (i := 1) rfl
  have q2 := cell_of_blk hM.st (i := 2) rfl
  have q3 := cell_of_blk hM.st (i := 3) rfl
  have q4 := cell_of_blk hM.st (i := 4) rfl
  have q5 := cell_of_blk hM.st (i := 5) rfl
  have q6 := cell_of_blk hM.st (i := 6) rfl
  clear hM hT R hp hr wd hn hh h0 h1 cc1 cc0 c0 c1
  go_enter Tryd.func15, Tryd.ntmps15
  go_wp2_with fail
  refine CF.out.mono ?_
  rintro e w1 ⟨rfl, K1⟩
  clear CF q0 q1 q2 q3 q4 q5 q6 hq q
  obtain ⟨q, hq⟩ : ∃ q, q = w1.heap.size := ⟨_, rfl⟩
  have BX : Hid (RW 23 (w1.alloc (.cells #[.int .i64 c.t, .int .i64 c.s, .int .i64 c.c, .int .i64 c.h, .int .i64 c.k, .int .i64 c.e, .int .i64 c.l] 23)) q #[.int .i64 c.t, .int .i64 c.s, .int .i64 c.c, .int .i64 c.h, .int .i64 c.k, .int .i64 c.e, .int .i64 c.l] ∧ Kept [] w (w1.alloc (.cells #[.int .i64 c.t, .int .i64 c.s, .int .i64 c.c, .int .i64 c.h, .int .i64 c.k, .int .i64 c.e, .int .i64 c.l] 23))) := by rw [hq]; exact ⟨RW.new _ _ _, K1.alloc _⟩
  go_upto_region 2 with (fail)
  rw [← hq]
  refine gen_world (fun W => RW 23 W q #[.int .i64 c.t, .int .i64 c.s, .int .i64 c.c, .int .i64 c.h, .int .i64 c.k, .int .i64 c.e, .int .i64 c.l] ∧ Kept [] w W) BX.out ?_
  clear BX hq K1
  rintro W ⟨CB, K0⟩
  have y3 := cell_of_blk CB (i := 3) rfl
  have HX := hidOf (And.intro CB K0)
  clear CB K0
  go_wp2
  clear y3
  go_loopw [15, 6, 7] (fun s15 _ _ wr => ∃ L : Nat, (L : Int) ≤ c.h ∧ s15 = .int .i64 L ∧ ∃ cnt' a', Mm wr m p r c cs cnt' a' ∧ RW 23 wr q #[.int .i64 c.t, .int .i64 c.s, .int .i64 c.c, .int .i64 c.h, .int .i64 c.k, .int .i64 c.e, .int .i64 c.l] ∧ Kept [p, r] w wr ∧ cnt ≤ cnt' ∧ cnt' ≤ cnt + 66 * L) (fun s15 _ _ _ => (c.h - intOf s15).toNat)
  case atStart => exact ⟨0, by have := HN6.out; omega, by first | rfl | go_num, cnt, a, HM.out.new HX.out.2, HX.out.1, HX.out.2.weaken (by simp), by omega, by omega⟩
  case round =>
    clear HX
    obtain ⟨L, hL, rfl, cnt', a', M, CB, KK, z0, z1⟩ := hrel
    have HZ := hidOf (And.intro M (And.intro CB (And.intro KK (And.intro z0 z1))))
    have y2 := cell_of_blk CB (i := 2) (v := .int .i64 c.c) rfl
    have ql := lt_of_blk CB
    clear M CB KK z0 z1
    by_cases hlt : (L : Int) < c.h
    · have hLH : L < HN c := by have := HN6.out; omega
      have hL5 : (L : Int) ≤ 5 := by have := HN6.out; omega
      have HHL := hidOf hLH
      clear hLH
      go_wp2_with fail
      refine (HD.out _ HZ.out.2.2.1).mono ?_
      rintro e w3 ⟨rfl, K3⟩
      have HZ3 := hidOf (And.intro (HZ.out.1.new K3) (And.intro (HZ.out.2.1.kept K3 (by simp)) (HZ.out.2.2.1.trans (K3.weaken (by simp)))))
      have HC3 := hidOf HZ.out.2.2.2
      clear K3 HZ y2 ql
      have LDH := hidOf (LD.out w3 9223372036854775808 L cnt' a' HZ3.out.1 HZ3.out.2.2 (by unfold isW; omega) (by have := HC3.out; have := HC.out; omega) (by have := HC3.out; have := HC.out; omega))
      rw [show ixV 9223372036854775808 = 0 by decide] at LDH
      have AT0 := At.head (c := c) (l := l) (z := z) (cs := cs) HHL.out
      have W0 := HWD.out 0 (6 + (L : Int))
      rw [show ((6 + L : Nat) : Int) = 6 + (L : Int) by omega] at AT0
      rw [show rdG cs (clV' c 0 (6 + (L : Int))) = fd c cs 0 (6 + (L : Int)) from rfl] at LDH
      obtain ⟨V0, hV0⟩ : ∃ V0, V0 = fd c cs 0 (6 + (L : Int)) := ⟨_, rfl⟩
      rw [← hV0] at LDH AT0 W0
      have HA0 := hidOf (And.intro AT0 W0)
      clear AT0 W0 hV0
      go_wp2_with fail
      refine LDH.out.mono ?_
      rintro e w4 ⟨rfl, M4, K4, KP⟩
      have HZ4 : Hid (Mm w4 m p r c cs (cnt' + 1) _ ∧ RW 23 w4 q #[.int .i64 c.t, .int .i64 c.s, .int .i64 c.c, .int .i64 c.h, .int .i64 c.k, .int .i64 c.e, .int .i64 c.l] ∧ Kept [p, r] w w4) := hidOf ⟨M4, rw_pr HZ3.out.2.1 HZ3.out.1 (by decide) (by decide) KP, K4⟩
      clear M4 K4 KP HZ3 LDH
      have y2 := cell_of_blk HZ4.out.2.1 (i := 2) (v := .int .i64 c.c) rfl
      have cb : 1 ≤ c.c ∧ c.c ≤ 64 := by have := HN6.out; omega
      have cb1 := cb.1
      have cb2 := cb.2
      clear cb
      go_wp2
      clear y2
      go_loopw [26, 7] (fun s26 s7 wr2 => ∃ (j : Nat) (V : Int), (j : Int) ≤ c.c + 1 ∧ s26 = .int .i64 j ∧ s7 = .int .u64 V ∧ Hid (At c l z cs L V ∧ isW V) ∧ ∃ cnt2 a2, Mm wr2 m p r c cs cnt2 a2 ∧ RW 23 wr2 q #[.int .i64 c.t, .int .i64 c.s, .int .i64 c.c, .int .i64 c.h, .int .i64 c.k, .int .i64 c.e, .int .i64 c.l] ∧ Kept [p, r] w wr2 ∧ cnt ≤ cnt2 ∧ cnt2 ≤ cnt + 66 * L + 1 + j) (fun s26 _ _ => (c.c + 1 - intOf s26).toNat)
      case atStart => exact ⟨0, V0, by omega, by first | rfl | go_num, rfl, HA0, cnt' + 1, _, HZ4.out.1, HZ4.out.2.1, HZ4.out.2.2, by have := HC3.out; omega, by have := HC3.out; omega⟩
      case round =>
        clear HZ4 HA0
        obtain ⟨j, V, hj, rfl, rfl, HA, cnt2, a2, M, CB, KK, z0, z1⟩ := hrel
        have HZ := hidOf (And.intro M (And.intro CB KK))
        have HC2 := hidOf (And.intro z0 z1)
        clear M CB KK z0 z1
        by_cases hltj : (j : Int) < c.c + 1
        · have VL := hidOf (fun (Y : World) (k : Kept [p, r] w Y) => valid_any V Y (HT.out Y k) HA.out.2.1 HA.out.2.2)
          obtain ⟨B, hB⟩ : ∃ B, vlB V = B := ⟨_, rfl⟩
          rw [hB] at VL
          have HB := hidOf hB
          clear hB
          cases B with
          | true =>
            have IX := hidOf (fun (Y : World) (k : Kept [p, r] w Y) => index_any V Y (HT.out Y k) HA.out.2.1 HA.out.2.2)
            go_wp2_with fail
            refine (VL.out _ HZ.out.2.2).mono ?_
            rintro e w5 ⟨rfl, K5⟩
            have HZ5 := hidOf (And.intro (HZ.out.1.new K5) (And.intro (HZ.out.2.1.kept K5 (by simp)) (HZ.out.2.2.trans (K5.weaken (by simp)))))
            clear K5 HZ
            obtain ⟨I, hI⟩ : ∃ I, ixV V = I := ⟨_, rfl⟩
            rw [hI] at IX
            have HI := hidOf hI
            clear hI
            go_wp2_with fail
            refine (IX.out _ HZ5.out.2.2).mono ?_
            rintro e w6 ⟨rfl, K6⟩
            have HZ6 := hidOf (And.intro (HZ5.out.1.new K6) (And.intro (HZ5.out.2.1.kept K6 (by simp)) (HZ5.out.2.2.trans (K6.weaken (by simp)))))
            clear K6 HZ5 IX
            by_cases hiz : I = (z : Int)
            · subst hiz
              go_wp2
              go_ret
              exact ⟨true, cnt2, a2, rfl, fun U => absurd U (HA.out.1.no HNL.out HB.out HI.out), HZ6.out.1, HC2.out.1, by have := HC2.out.2; have := HN6.out; omega, HZ6.out.2.2⟩
            · have hizb : (I == (z : Int)) = false := by simpa using hiz
              have hizd : decide (I = (z : Int)) = false := by simpa using hiz
              go_wp2_with fail
              refine (VL.out _ HZ6.out.2.2).mono ?_
              rintro e w7 ⟨rfl, K7⟩
              have HZ7 := hidOf (And.intro (HZ6.out.1.new K7) (And.intro (HZ6.out.2.1.kept K7 (by simp)) (HZ6.out.2.2.trans (K7.weaken (by simp)))))
              clear K7 HZ6 VL hiz hizb hizd
              have LDN := hidOf (LD.out w7 V L cnt2 a2 HZ7.out.1 HZ7.out.2.2 HA.out.2 (by have := HC2.out; have := HC.out; omega) (by have := HC2.out; have := HC.out; have := HN6.out; omega))
              have AT1 := At.next HNL.out HA.out.1 HB.out
              have W1 := HWD.out (ixV V) (6 + (L : Int))
              rw [show ((6 + L : Nat) : Int) = 6 + (L : Int) by omega] at AT1
              rw [show rdG cs (clV' c (ixV V) (6 + (L : Int))) = fd c cs (ixV V) (6 + (L : Int)) from rfl] at LDN
              obtain ⟨V1, hV1⟩ : ∃ V1, V1 = fd c cs (ixV V) (6 + (L : Int)) := ⟨_, rfl⟩
              rw [← hV1] at LDN AT1 W1
              have HA1 := hidOf (And.intro AT1 W1)
              clear AT1 W1 hV1
              go_wp2_with fail
              refine LDN.out.mono ?_
              rintro e w8 ⟨rfl, M8, K8, KP⟩
              have HZ8 := hidOf (And.intro M8 (And.intro (rw_pr HZ7.out.2.1 HZ7.out.1 (by decide) (by decide) KP) K8))
              clear LDN M8 K8 KP
              go_wp2
              go_roundw
              case rel =>
                exact ⟨j + 1, V1, by omega, by go_num, rfl, HA1, cnt2 + 1, _, HZ8.out.1, HZ8.out.2.1, HZ8.out.2.2, by have := HC2.out; omega, by have := HC2.out; omega⟩
              case measure => simp [intOf]; omega
          | false =>
            go_wp2_with fail
            refine (VL.out _ HZ.out.2.2).mono ?_
            rintro e w5 ⟨rfl, K5⟩
            have HZ5 := hidOf (And.intro (HZ.out.1.new K5) (And.intro (HZ.out.2.1.kept K5 (by simp)) (HZ.out.2.2.trans (K5.weaken (by simp)))))
            clear K5 HZ
            go_wp2_with fail
            refine (VL.out _ HZ5.out.2.2).mono ?_
            rintro e w7 ⟨rfl, K7⟩
            have HZ7 := hidOf (And.intro (HZ5.out.1.new K7) (And.intro (HZ5.out.2.1.kept K7 (by simp)) (HZ5.out.2.2.trans (K7.weaken (by simp)))))
            clear K7 HZ5 VL
            go_wp2
            go_roundw
            case rel => exact ⟨j + 1, V, by omega, by go_num, rfl, HA, cnt2, a2, HZ7.out.1, HZ7.out.2.1, HZ7.out.2.2, HC2.out.1, by have := HC2.out.2; omega⟩
            case measure => simp [intOf]; omega
        · have hje : (j : Int) = c.c + 1 := by omega
          go_wp2
          go_roundw
          case rel => exact ⟨L + 1, by omega, by go_num, cnt2, a2, HZ.out.1, HZ.out.2.1, HZ.out.2.2, HC2.out.1, by have := HC2.out.2; omega⟩
          case measure => simp [intOf]; omega
    · go_wp2
      go_ret
      exact ⟨false, cnt', a', rfl, fun _ => rfl, HZ.out.1, HZ.out.2.2.2.1, by have := HZ.out.2.2.2.2; have := HN6.out; omega, HZ.out.2.2.1⟩
/-- All that is made behind a world. -/
def Bhr (w : World) : Nat → Prop := fun z => w.heap.size ≤ z
theorem FK.drop {base : Nat → Prop} {bs bs' : List Nat} {w w' : World} (h : FK base bs w w') (d : ∀ z ∈ bs, z ∈ bs' ∨ w.heap.size ≤ z) : FK base bs' w w' := by
  obtain ⟨l, k, q⟩ := h
  refine ⟨l, k, fun z hz => ?_⟩
  rcases q z hz with e | e | e
  · rcases d z e with e | e
    · exact Or.inl e
    · exact Or.inr (Or.inl e)
  · exact Or.inr (Or.inl e)
  · exact Or.inr (Or.inr e)
/-- A new retire over a world's words. -/
structure Rp (w0 w : World) (b fb m p r : Nat) (c : Cfg) (h k : Int) (cs : List Int) (cnt : Int) (a : Acc) : Prop where
  rb : RtB w b fb (ffV 34 b) false (plainV h) 0 0
  ff : FB w fb (ffV 58 fb) k 0 0 0 0 0 none 0 0
  mm : Mm w m p r c cs cnt a
  kp : Kept [] w0 w
  t0 : Tab w0
  ob : w0.heap.size ≤ b
  of : w0.heap.size ≤ fb
  op : w0.heap.size ≤ p
  ow : w0.heap.size ≤ r
  hr : riB c = true
  wd : Wds cs
  n0 : 0 ≤ cnt
  hW : isW h
theorem Rp.start {w0 w : World} {b fb gb m p r : Nat} {c : Cfg} {h k t : Int} {cs : List Int} {cnt : Int} {a : Acc} (x : Rp w0 w b fb m p r c h k cs cnt a) (G : GB w gb ⟨0, 0, t⟩) (og : w0.heap.size ≤ gb) : RtW (Bhr w0) w0 w b fb gb m p r c ⟨0, 0, t⟩ (rtS h k) cs cnt a :=
  ⟨x.rb, Fw.start x.hr x.kp x.t0 x.op x.ow (fun _ h => h) (fun _ hz => Nat.le_trans x.kp.size hz) x.mm x.ff G x.of og x.wd x.n0, RtI.start (riB_true.1 x.hr) k x.hW, x.ob⟩
theorem Rp.new {w0 w w' : World} {b fb m p r : Nat} {c : Cfg} {h k : Int} {cs : List Int} {cnt : Int} {a : Acc} (x : Rp w0 w b fb m p r c h k cs cnt a) (kk : Kept [] w w') : Rp w0 w' b fb m p r c h k cs cnt a :=
  ⟨x.rb.kept kk (by simp), x.ff.kept kk (by simp), x.mm.new kk, x.kp.trans kk, x.t0, x.ob, x.of, x.op, x.ow, x.hr, x.wd, x.n0, x.hW⟩
/-- A retire that goes on: so many steps were done, so many are left. -/
structure Rg (I : List Int → Gs → Rtm → Int → Prop) (w0 w wr : World) (b fb gb m p r : Nat) (c : Cfg) (cnt left : Int) (i : Nat) : Prop where
  go : ∃ g s cs cnt' a, RtW (Bhr w0) w0 wr b fb gb m p r c g s cs cnt' a ∧ I cs g s (left - i) ∧ cnt ≤ cnt' ∧ cnt' ≤ cnt + i
  fk : FK (Bhr w0) [b, fb, gb, p, r] w wr
  le : (i : Int) ≤ left
/-- At its end. -/
structure Re (I : List Int → Gs → Rtm → Int → Prop) (w0 w wr : World) (b fb m p r : Nat) (c : Cfg) (cnt left : Int) (n : Nat) : Prop where
  fin : ∃ gb g s cs cnt' a, RtW (Bhr w0) w0 wr b fb gb m p r c g s cs cnt' a ∧ I cs g s (left - n) ∧ s.d = true ∧ cnt ≤ cnt' ∧ cnt' ≤ cnt + left ∧ w.heap.size ≤ gb
  fk : FK (Bhr w0) [b, fb, p, r] w wr
  le : (n : Int) ≤ left
set_option maxHeartbeats 4000000 in
theorem ends14_any (I : List Int → Gs → Rtm → Int → Prop) (w0 w : World) (b fb m p r : Nat) (c : Cfg) (h k : Int) (cs : List Int) (cnt : Int) (a : Acc) (most : Nat) (left : Int) (x : Rp w0 w b fb m p r c h k cs cnt a) (hl : 0 ≤ left ∧ left < most) (hm : most ≤ 3000) (c1 : cnt < 1000000000)
    (h0 : I cs ⟨0, 0, 0⟩ (rtS h k) left) (hs : ∀ cs g s lf cnt', I cs g s lf → s.d = false → I (rtC c cs g s) (rtG c g s) (rtF c cs cnt' g s) (lf - 1)) (hd : ∀ cs g s lf, I cs g s lf → lf ≤ 0 → s.d = true) :
    Calls Tryd.prog 12 #[.pointer (some ⟨b, 0, none⟩), .pointer (some ⟨m, 0, none⟩), .int .i64 most] w fun e w' => ∃ n : Nat, e = .returned (.int .i64 n) ∧ (n : Int) < most ∧ Re I w0 w w' b fb m p r c cnt left n := by
  have HX := hidOf x
  have HS := hidOf hs
  have HD := hidOf hd
  have H0 := hidOf h0
  clear x hs hd h0
  go_enter Tryd.func12, Tryd.ntmps12
  go_wp2_with fail
  refine (gnew_any 0 _).mono ?_
  rintro e w1 ⟨gb, rfl, hgb, G, K⟩
  have HZ0 : Hid (Rg I w0 w w1 b fb gb m p r c cnt left 0) := hidOf ⟨⟨_, _, cs, cnt, a, (HX.out.new K).start G (by have := HX.out.kp.size; omega), by have z := H0.out; simpa using z, Int.le_refl _, by omega⟩, FK.of (K.weaken (by simp)), hl.1⟩
  have HGB := hidOf hgb
  clear HX H0 hgb G K
  have hm2 : (most : Int) ≤ 3000 := by omega
  go_wp2
  go_loopw [11, 8] (fun s _ wr => ∃ i : Nat, i ≤ most ∧ s = .int .i64 i ∧ Rg I w0 w wr b fb gb m p r c cnt left i) (fun s _ _ => most - (intOf s).toNat)
  case atStart => exact ⟨0, by omega, by first | rfl | go_num, HZ0.out⟩
  case round =>
    clear HZ0
    obtain ⟨i, hi, rfl, Z⟩ := hrel
    obtain ⟨g, s, cs, cnt', a, B, II, z1, z2⟩ := Z.go
    have HZ := hidOf (And.intro B (And.intro II (And.intro z1 z2)))
    have HLE := hidOf (And.intro Z.le Z.fk)
    clear Z B II z1 z2
    by_cases hlt : i < most
    · have hltz : (i : Int) < (most : Int) := by omega
      have DN := hidOf (rtdone_any b fb s _ _ _ _ wr HZ.out.1.rb)
      obtain ⟨D, hD⟩ : ∃ D, s.d = D := ⟨_, rfl⟩
      rw [hD] at DN
      have HDD := hidOf hD
      clear hD
      go_wp2_with fail
      refine DN.out.mono ?_
      rintro e w2 ⟨rfl, rfl⟩
      clear DN
      cases D with
      | true =>
        go_wp2
        go_ret
        refine ⟨i, rfl, hltz, ⟨gb, g, s, cs, cnt', a, HZ.out.1, HZ.out.2.1, HDD.out, HZ.out.2.2.1, ?_, HGB.out⟩, HLE.out.2.drop (fun z hz => ?_), HLE.out.1⟩
        · have := HZ.out.2.2.2
          have := HLE.out.1
          omega
        · have := HGB.out
          simp at hz ⊢
          rcases hz with e | e | e | e | e
          · simp [e]
          · simp [e]
          · right; omega
          · simp [e]
          · simp [e]
      | false =>
        have SP := hidOf (rtstep_any HZ.out.1 (by have := HZ.out.2.2.2; omega))
        go_wp2_with fail
        refine SP.out.mono ?_
        rintro e w3 ⟨rfl, R⟩
        have HR := hidOf R
        clear SP R
        go_wp2
        go_roundw
        case rel =>
          obtain ⟨B2, K2⟩ := HR.out
          have N := HS.out _ _ _ _ cnt' HZ.out.2.1 HDD.out
          have hlf : ¬ left - (i : Int) ≤ 0 := fun q => by
            have z := HD.out _ _ _ _ HZ.out.2.1 q
            rw [HDD.out] at z; cases z
          have e := rtN_no (cnt := cnt') HDD.out
          refine ⟨i + 1, by omega, by go_num, ⟨⟨_, _, _, _, _, B2, by have z := N; rwa [show left - (i : Int) - 1 = left - ((i + 1 : Nat) : Int) by omega] at z, ?_, ?_⟩, HLE.out.2.then K2, by omega⟩⟩
          · have := HZ.out.2.2.1; omega
          · have := HZ.out.2.2.2; omega
        case measure => simp [intOf]; omega
    · exfalso
      have := HLE.out.1
      omega
end K
end Go.Proofs.YtgafmklfpiipcaaDoor
namespace Go.Proofs.YtgafmklfpiipcaaDoor
open Go.RowKit (Grown Hid Below)
open Go.Deep
namespace K
set_option maxRecDepth 100000
theorem getD_put {α : Type} (l : List α) (k i : Nat) (x d : α) (hk : k < l.length) : (l.set k x).getD i d = if i = k then x else l.getD i d := by
  rw [List.getD_eq_getElem?_getD, List.getD_eq_getElem?_getD, List.getElem?_set]
  by_cases h : k = i
  · subst h; simp [hk]
  · rw [if_neg h, if_neg (fun e => h e.symm)]
/-- Deleted on all its levels. -/
def del1 (x : Nn) : Nn := { x with m := x.t, d := true }
def delN (ns : List Nn) (k : Nat) : List Nn := ns.set k (del1 (ns.getD k nn0))
theorem delN_len (ns : List Nn) (k : Nat) : (delN ns k).length = ns.length := by simp [delN]
theorem delN_get {ns : List Nn} {k : Nat} (hk : k < ns.length) (i : Nat) : (delN ns k).getD i nn0 = if i = k then del1 (ns.getD k nn0) else ns.getD i nn0 := getD_put _ _ _ _ _ hk
theorem del_b {c : Cfg} {x : Nn} (h : nnB c x) : nnB c (del1 x) := by
  obtain ⟨a, b, d, e, f, g⟩ := h
  exact ⟨a, b, by show 0 ≤ x.t; omega, by show x.t ≤ x.t; omega, fun _ => rfl, g⟩
theorem RightN.del {c : Cfg} {ns : List Nn} {k : Nat} (h : RightN c ns) (hk : k < ns.length) : RightN c (delN ns k) := by
  refine ⟨h.r, by rw [delN_len]; exact h.n, fun i hi => ?_, fun i hi => ?_⟩
  · rw [delN_len] at hi
    rw [delN_get hk]
    split
    · exact del_b (h.b k hk)
    · exact h.b i hi
  · rw [delN_len] at hi
    have z := h.up i hi
    have e : ∀ j, ((delN ns k).getD j nn0).k = (ns.getD j nn0).k := fun j => by
      rw [delN_get hk]; split
      · rename_i q; rw [q]; rfl
      · rfl
    rw [e, e]; exact z
theorem wf_del {ns : List Nn} {k : Nat} (hw : ∀ x ∈ ns, x.wf) (hk : k < ns.length) : ∀ x ∈ delN ns k, x.wf := by
  intro x hx
  rcases List.mem_or_eq_of_mem_set hx with hx | rfl
  · exact hw x hx
  · have e : ns.getD k nn0 = ns[k] := by simp [hk]
    have z : (ns.getD k nn0).wf := by rw [e]; exact hw _ (List.getElem_mem _)
    exact z
/-- A node is born in the first era. -/
theorem lay_birth {c : Cfg} {ns : List Nn} (h : RightN c ns) {i : Nat} (i1 : 1 ≤ i) (hi : i ≤ ns.length) : ∀ j, j ≤ ns.length → i ≤ j → fd c (lyAll c ns j) i (3 : Nat) = 1
  | 0, _, h0 => by omega
  | j + 1, hj, hij => by
    have hn := h.n
    have hz : ((j + 1 : Nat) : Int) ≤ c.c := by omega
    have htj : (ndOf c ns).tl (j + 1) ≤ HN c := h.ok.tl (j + 1) hj
    have ihl : ((lyAll c ns j).length : Int) = lnV c := by rw [lyAll_len, lnN_eq]
    have l6 : ((lySix c (ns.getD j nn0) (j + 1) (lyAll c ns j)).length : Int) = lnV c := by rw [lySix_len]; exact ihl
    show fd c (lyLv c (ndOf c ns) (j + 1) (lySix c (ns.getD j nn0) (j + 1) (lyAll c ns j)) ((ndOf c ns).tl (j + 1))) i (3 : Nat) = 1
    rw [lyLv_fd h.r l6 hz _ htj, lySix_fd h.r ihl hz, if_neg (by omega)]
    by_cases e : i = j + 1
    · rw [if_pos (by omega), if_neg (by omega), if_neg (by omega), if_neg (by omega), if_pos rfl]
    · rw [if_neg (by omega)]; exact lay_birth h i1 hi j (by omega) (by omega)
/-- A word is stored: the same as it is written. -/
theorem st_stW {c : Cfg} {cs : List Int} (hl : (cs.length : Int) = lnV c) {i f : Int} (h : inF c i f) (v : Int) : clV cs 2 (clV' c i f) 0 v = stW c cs i f v := by
  have hx := cl_has hl h
  unfold Go.Proofs.YtgafmklfpiipcaaDoor.clV stW
  rw [if_pos hx]; simp [bhV]
/-- The words of a world in which a node is deleted on all its levels, and has so many owners. -/
structure LdR (c : Cfg) (ns : List Nn) (k : Nat) (ow : Int) (cs : List Int) : Prop where
  ok : (ndOf c (delN ns k)).ok c
  nn : (ndOf c (delN ns k)).n = ns.length
  kz : (ndOf c (delN ns k)).K (k + 1) = (ns.getD k nn0).k
  uz : (ndOf c (delN ns k)).um (k + 1) = 0
  ln : (cs.length : Int) = lnV c
  wd : Wds cs
  rep : Rep c (ndOf c (delN ns k)) cs (N0 (ndOf c (delN ns k)))
  sk : Sk (ndOf c (delN ns k)) (N0 (ndOf c (delN ns k)))
  bi : fd c cs ((k + 1 : Nat) : Int) 3 = 1
  own : fd c cs ((k + 1 : Nat) : Int) 5 = ow
  ck : rdG cs 0 = 1
def ownV (c : Cfg) (ns : List Nn) (k : Nat) (ow : Int) : List Int := clV (layV c (delN ns k)) 2 (clV' c ((k : Int) + 1) 5) 0 ow
theorem ldr_is {c : Cfg} {ns : List Nn} {k : Nat} (h : RightN c ns) (hw : ∀ x ∈ ns, x.wf) (hk : k < ns.length) {ow : Int} (how : isW ow) : LdR c ns k ow (ownV c ns k ow) := by
  have R := riB_true.1 h.r
  have hh := HN_eq R
  have hn := h.n
  have h0 := R.h0
  have hL := h.del hk
  have ok := hL.ok
  have nn : (ndOf c (delN ns k)).n = ns.length := delN_len _ _
  have ge : (delN ns k).getD k nn0 = del1 (ns.getD k nn0) := by rw [delN_get hk, if_pos rfl]
  have L := Ld.laid hL
  have ll : ((layV c (delN ns k)).length : Int) = lnV c := L.len
  have i5 : inF c ((k : Int) + 1) 5 := ⟨h.r, by omega, by omega, by omega, by omega⟩
  have e1 : ownV c ns k ow = stW c (layV c (delN ns k)) ((k : Int) + 1) 5 ow := st_stW ll i5 ow
  have f5 := fun (i' f' : Int) => fd_stW ll i5 ow i' f'
  have rp := L.rep ok
  rw [e1]
  refine ⟨ok, nn, ?_, ?_, by rw [stW_len]; exact ll, wds_stW (wds_all hL (wf_del hw hk) _ (Nat.le_refl _)) _ _ how, ⟨fun M i hi => ?_, fun i a b => ?_⟩, Sk.laid ok, ?_, ?_, (clk_stW i5 _).trans L.clk⟩
  · show ((delN ns k).getD (k + 1 - 1) nn0).k = _
    rw [show k + 1 - 1 = k by omega, ge]; rfl
  · show (if k + 1 = 0 then HN c else (((delN ns k).getD (k + 1 - 1) nn0).t - ((delN ns k).getD (k + 1 - 1) nn0).m).toNat) = 0
    rw [if_neg (by omega), show k + 1 - 1 = k by omega, ge]
    show ((ns.getD k nn0).t - (ns.getD k nn0).t).toNat = 0
    omega
  · rw [f5, if_neg (by omega)]; exact rp.nx M i hi
  · rw [f5, if_neg (by omega)]; exact rp.ky i a b
  · rw [f5, if_neg (by omega)]
    exact lay_birth hL (i := k + 1) (by omega) (by rw [delN_len]; omega) _ (Nat.le_refl _) (by rw [delN_len]; omega)
  · rw [f5, if_pos (by omega)]
/-- The node's birth is written. -/
theorem LdR.birth {c : Cfg} {ns : List Nn} {k : Nat} {ow : Int} {cs : List Int} (h : LdR c ns k ow cs) (hr : riB c = true) (hk : k < ns.length) (hn : (ns.length : Int) ≤ c.c) {B : Int} (hB : isW B) :
    (let ds := clV cs 2 (clV' c ((k : Int) + 1) 3) 0 B; (ds.length : Int) = lnV c ∧ Wds ds ∧ Rep c (ndOf c (delN ns k)) ds (N0 (ndOf c (delN ns k))) ∧ fd c ds ((k + 1 : Nat) : Int) 3 = B ∧ fd c ds ((k + 1 : Nat) : Int) 5 = ow ∧ rdG ds 0 = 1) := by
  have R := riB_true.1 hr
  have h0 := R.h0
  have i3 : inF c ((k : Int) + 1) 3 := ⟨hr, by omega, by omega, by omega, by omega⟩
  have e1 := st_stW h.ln i3 B
  have f3 := fun (i' f' : Int) => fd_stW h.ln i3 B i' f'
  intro ds
  show (((clV cs 2 (clV' c ((k : Int) + 1) 3) 0 B).length : Nat) : Int) = lnV c ∧ Wds (clV cs 2 (clV' c ((k : Int) + 1) 3) 0 B) ∧ Rep c (ndOf c (delN ns k)) (clV cs 2 (clV' c ((k : Int) + 1) 3) 0 B) (N0 (ndOf c (delN ns k))) ∧ fd c (clV cs 2 (clV' c ((k : Int) + 1) 3) 0 B) ((k + 1 : Nat) : Int) 3 = B ∧ fd c (clV cs 2 (clV' c ((k : Int) + 1) 3) 0 B) ((k + 1 : Nat) : Int) 5 = ow ∧ rdG (clV cs 2 (clV' c ((k : Int) + 1) 3) 0 B) 0 = 1
  rw [e1]
  refine ⟨by rw [stW_len]; exact h.ln, wds_stW h.wd _ _ hB, ⟨fun M i hi => ?_, fun i a b => ?_⟩, ?_, ?_, (clk_stW i3 _).trans h.ck⟩
  · rw [f3, if_neg (by omega)]; exact h.rep.nx M i hi
  · rw [f3, if_neg (by omega)]; exact h.rep.ky i a b
  · rw [f3, if_pos (by omega)]
  · rw [f3, if_neg (by omega)]; exact h.own
/-- One owner goes, that is not the last one. -/
theorem LdR.less {c : Cfg} {ns : List Nn} {k : Nat} {ow : Int} {cs : List Int} (h : LdR c ns k ow cs) (hr : riB c = true) (hk : k < ns.length) (hn : (ns.length : Int) ≤ c.c) (h2 : 2 ≤ ow) (h3 : isW ow) : LdR c ns k (ow - 1) (clV cs 4 (clV' c ((k : Int) + 1) 5) 0 oneL) := by
  have R := riB_true.1 hr
  have h0 := R.h0
  have i5 : inF c ((k : Int) + 1) 5 := ⟨hr, by omega, by omega, by omega, by omega⟩
  have ad := fun (i' f' : Int) => fd_add h.ln i5 oneL i' f'
  refine ⟨h.ok, h.nn, h.kz, h.uz, by rw [clV_len]; exact h.ln, wds_add h.wd _ _, ⟨fun M i hi => ?_, fun i a b => ?_⟩, h.sk, ?_, ?_, (clk_add h.ln i5 _).trans h.ck⟩
  · rw [ad, if_neg (by omega)]; exact h.rep.nx M i hi
  · rw [ad, if_neg (by omega)]; exact h.rep.ky i a b
  · rw [ad, if_neg (by omega)]; exact h.bi
  · have e : fd c cs ((k : Int) + 1) 5 = ow := by
      have z := h.own
      rw [show ((k + 1 : Nat) : Int) = (k : Int) + 1 by omega] at z; exact z
    rw [ad, if_pos (by omega), e]; exact add_less (by omega) h3.2
/-- A new retire of the node, alone. -/
theorem LdR.rv {c : Cfg} {ns : List Nn} {k : Nat} {cs : List Int} (h : LdR c ns k 1 cs) (hr : riB c = true) (hk : k < ns.length) (g : Gs) {left : Int} (hl : full c (ndOf c (delN ns k)) + HN c + 9 ≤ left) : Rv c (ndOf c (delN ns k)) (k + 1) cs g (rtS (hw (k + 1)) (ns.getD k nn0).k) 1 left := by
  have R := riB_true.1 hr
  have hn := n_lt R h.ok
  rw [h.nn] at hn
  have pl : plainV (hw (k + 1)) = hw (k + 1) := by
    have z := plainV_of (hw (k + 1))
    exact z.2 (hw_mk (by omega))
  exact ⟨h.ok, hr, by omega, by rw [h.nn]; omega, h.uz, pl, h.ln, h.bi, by have := full_nn c (ndOf c (delN ns k)); omega, Or.inl ⟨rfl, rfl, by show fmS _ = fmS _; rw [h.kz], h.own, ⟨_, h.rep, h.sk⟩, hl⟩⟩
/-- Nodes in a row of their own. -/
def NRow (w : World) (g : Nat) (ns : List Nn) : Prop := ∃ A, w.heap[g]? = some (.cells A 34 (0, 0)) ∧ ∀ i, i < ns.length → A[i * 5]? = some (.int .u64 (ns.getD i nn0).k) ∧ A[i * 5 + 1]? = some (.int .u64 (ns.getD i nn0).v) ∧ A[i * 5 + 2]? = some (.int .i64 (ns.getD i nn0).t) ∧ A[i * 5 + 3]? = some (.int .i64 (ns.getD i nn0).m) ∧ A[i * 5 + 4]? = some (.bool (ns.getD i nn0).d)
theorem NRow.kept {l : List Nat} {w w' : World} {g : Nat} {ns : List Nn} (h : NRow w g ns) (k : Kept l w w') (hg : g ∉ l) : NRow w' g ns := by
  obtain ⟨A, z, q⟩ := h; exact ⟨A, k.blk z hg, q⟩
theorem NRow.lt {w : World} {g : Nat} {ns : List Nn} (h : NRow w g ns) : g < w.heap.size := by obtain ⟨A, z, _⟩ := h; exact lt_of_blk z
theorem NRow.sl {w : World} {g : Nat} {ns : List Nn} (h : NRow w g ns) : SlOf 5 nnL w (some ⟨g, 0, none⟩) ns := by
  obtain ⟨A, z, q⟩ := h
  intro _
  refine ⟨g, 0, rfl, lt_of_blk z, fun i hi j v hv => ?_⟩
  obtain ⟨a0, a1, a2, a3, a4⟩ := q i hi
  have e : ns.getD i nn0 = ns[i] := by simp [hi]
  rw [e] at a0 a1 a2 a3 a4
  rw [Nat.zero_add]
  rcases j with _ | _ | _ | _ | _ | j
  · exact (cell_of_blk z a0).trans hv
  · exact (cell_of_blk z a1).trans hv
  · exact (cell_of_blk z a2).trans hv
  · exact (cell_of_blk z a3).trans hv
  · exact (cell_of_blk z a4).trans hv
  · simp [nnL] at hv
theorem NRow.set {w : World} {g : Nat} {ns : List Nn} (h : NRow w g ns) {k : Nat} (hk : k < ns.length) (x : Nn) (o : Nat) (v : Value) (ho : o < 5) (hx : ∀ j, j < 5 → (nnL x)[j]? = if j = o then some v else (nnL (ns.getD k nn0))[j]?) : NRow (w.setCell ⟨g, k * 5 + o, none⟩ v) g (ns.set k x) := by
  obtain ⟨A, z, q⟩ := h
  refine ⟨A.setIfInBounds (k * 5 + o) v, blk_set z _ _, fun i hi => ?_⟩
  have hi' : i < ns.length := by simpa using hi
  rw [getD_put _ _ _ _ _ hk]
  have qk := q k hk
  have sz : k * 5 + o < A.size := by
    have : k * 5 + 4 < A.size := (Array.getElem?_eq_some_iff.1 qk.2.2.2.2).1
    omega
  have key : ∀ j, j < 5 → (A.setIfInBounds (k * 5 + o) v)[i * 5 + j]? = if i = k ∧ j = o then some v else A[i * 5 + j]? := fun j hj => by
    rw [Array.getElem?_setIfInBounds]
    by_cases e : i = k ∧ j = o
    · obtain ⟨rfl, rfl⟩ := e
      rw [if_pos rfl, if_pos sz, if_pos ⟨rfl, rfl⟩]
    · rw [if_neg (by omega), if_neg e]
  have k0 := key 0 (by omega)
  have k1 := key 1 (by omega)
  have k2 := key 2 (by omega)
  have k3 := key 3 (by omega)
  have k4 := key 4 (by omega)
  rw [Nat.add_zero] at k0
  rw [k0, k1, k2, k3, k4]
  by_cases e : i = k
  · subst e
    have x0 := hx 0 (by omega)
    have x1 := hx 1 (by omega)
    have x2 := hx 2 (by omega)
    have x3 := hx 3 (by omega)
    have x4 := hx 4 (by omega)
    rw [if_pos rfl, qk.1, qk.2.1, qk.2.2.1, qk.2.2.2.1, qk.2.2.2.2]
    have E : ∀ j, (if i = i ∧ j = o then some v else (nnL (ns.getD i nn0))[j]?) = if j = o then some v else (nnL (ns.getD i nn0))[j]? := fun j => by simp
    refine ⟨(E 0).trans x0.symm, (E 1).trans x1.symm, (E 2).trans x2.symm, (E 3).trans x3.symm, (E 4).trans x4.symm⟩
  · simp only [e, false_and, if_false]
    exact q i hi'
theorem nnL_len (x : Nn) : (nnL x).length = 5 := rfl
theorem nnL_one (x : Nn) : ∀ u ∈ nnL x, u.oneCell' = true := by
  intro u hu; simp [nnL] at hu; rcases hu with rfl | rfl | rfl | rfl | rfl <;> rfl
theorem info_nn : (Tryd.prog.info? 34).map (fun i => (i.zero, i.size, i.bytes)) = some (some (.agg #[.int .u64 0, .int .u64 0, .int .i64 0, .int .i64 0, .bool false]), 5, 40) := by kernel_rfl
/-- 'append' of nodes to an empty literal. -/
theorem append_nn (ty : TypeId) (w : World) (xs : List Nn) (ao : Option Addr) (n cap : Nat) (hn : n = xs.length) (hs : SlOf 5 nnL w ao xs) (hc : ao = none → cap = 0) (hm : xs.length ≤ 100000) :
    ∃ g c' w1, (Builtin.append_ #[24, 24] ty #[.slice (some ⟨w.heap.size, 0, none⟩) 0 0, .slice ao n cap]).run Tryd.prog (w.alloc (.cells #[] 34)) = .ok (.slice (some ⟨g, 0, none⟩) n c') w1 ∧ w.heap.size ≤ g ∧ NRow w1 g xs ∧ Kept [] w w1 := by
  subst hn
  obtain ⟨i, hi, hz0, hz1, hz2⟩ := info_parts' info_nn
  have K0 : Kept [] w (w.alloc (.cells #[] 34)) := (Kept.refl [] w).alloc _
  have hown : (w.alloc (.cells #[] 34)).ownsRow w.heap.size 34 5 (.slice (some ⟨w.heap.size, 0, none⟩) 0 0) 0 [] := World.ownsRow_made w #[] 0 (Nat.le_refl _) (by decide) rfl
  cases ao with
  | none =>
    have hx : xs = [] := by
      cases xs with
      | nil => rfl
      | cons a r => obtain ⟨b, off, h, _⟩ := hs (by simp); cases h
    subst hx
    obtain rfl := hc rfl
    exact ⟨_, _, _, run_append_owned_none (P := Tryd.prog) (w := w.alloc (.cells #[] 34)) w.heap.size 24 ty 34 i 5 Tryd.underlying24 hi _ 0 [] hown, Nat.le_refl _, ⟨#[], blk_alloc_new w _, fun i hi => absurd hi (by simp)⟩, K0⟩
  | some ad =>
    have hs1 := hs.new K0
    have hcells : ∀ j u, (xs.flatMap nnL)[j]? = some u → (w.alloc (.cells #[] 34)).cell? (ad.add j) = some u := by
      intro j u hu
      have hj : j < xs.length * 5 := by
        have := (List.getElem?_eq_some_iff.1 hu).1
        rwa [fm_len nnL_len] at this
      obtain ⟨b, off, e, _, hc2⟩ := hs1 (by omega)
      cases e
      have hq : j / 5 < xs.length := by omega
      obtain ⟨v, hv⟩ : ∃ v, (nnL xs[j / 5])[j % 5]? = some v := ⟨_, List.getElem?_eq_getElem (l := nnL xs[j / 5]) (i := j % 5) (by rw [nnL_len]; omega)⟩
      have z := fm_get nnL_len xs (j / 5) hq (j % 5) v hv
      rw [show j / 5 * 5 + j % 5 = j by omega, hu] at z
      cases z
      have y := hc2 (j / 5) hq (j % 5) _ hv
      rw [show (⟨b, off, none⟩ : Addr).add j = ⟨b, off + j, none⟩ by unfold Addr.add; split <;> simp_all]
      have e5 : off + j / 5 * 5 + j % 5 = off + j := by omega
      rw [e5] at y
      exact y
    obtain ⟨v', w1, hrun, hown', hg, hne⟩ := run_append_own (P := Tryd.prog) (w.alloc (.cells #[] 34)) w.heap.size 24 ty 34 i _ 5 40 Tryd.underlying24 hi hz0 hz1 hz2 rfl (by decide) _ 0 [] hown ad xs.length cap (xs.flatMap nnL) (by rw [fm_len nnL_len]) hcells
      (by intro u hu; obtain ⟨x, _, hx⟩ := List.mem_flatMap.1 hu; exact nnL_one x u hx) (by unfold maxLen; omega) (by omega) (by rw [nblk_alloc]; omega)
    rw [Nat.zero_add, List.nil_append] at hown'
    obtain ⟨h1, h2 | ⟨g, cp, cur, rfl, hb, hgb, hnc, hcm, hsz, htk⟩⟩ := hown'
    · have := (hne.1 h2.1).1; cases this
    · refine ⟨g, cp, w1, hrun, hb, ⟨cur, hgb, fun q hq => ?_⟩, (kept_ob hg |> fun z => K0.then z (fun y hy => by simp [Value.ownBlock] at hy; subst hy; exact Or.inr (Nat.le_refl _)))⟩
      have e : xs.getD q nn0 = xs[q] := by simp [hq]
      have key : ∀ j v, (nnL xs[q])[j]? = some v → cur[q * 5 + j]? = some v := fun j v hv => by
        have z := fm_get nnL_len xs q hq j v hv
        rw [← htk, List.getElem?_take] at z
        split at z
        · rw [← Array.getElem?_toList]; exact z
        · cases z
      rw [e]
      exact ⟨key 0 _ rfl, key 1 _ rfl, key 2 _ rfl, key 3 _ rfl, key 4 _ rfl⟩
section
variable {H : Type} {enc : TypeId × Value → H} {w : World}
theorem open_nodes2 {r : Reach} {b0 : Nat} {v : Value} {d : DataW H} {p : List MemPlace} (hv : Value.okWide Tryd.prog w r b0 24 v) (h : DataW.Trod enc Tryd.prog w 0 (fun _ => true) true 24 v d p) :
    ∃ (ao : Option Addr) (cap : Nat) (ns : List Nn), v = .slice ao (List.length ns) cap ∧ SlOf 5 nnL w ao ns ∧ (∀ x ∈ ns, x.wf) ∧ (ao = none → cap = 0) := by
  have : Inhabited Nn := ⟨nn0⟩
  obtain ⟨ao, cap, xs, e, S, G, _, hc⟩ := open_slice_of (ks := [.int .u64, .int .u64, .int .i64, .int .i64, .bool]) nnL Nn.wf Tryd.underlying24 flat_nn cells_nn (by decide) (fun cs hF => nn_cells hF) hv h
  exact ⟨ao, cap, xs, e, S, G, hc⟩
end
end K
end Go.Proofs.YtgafmklfpiipcaaDoor
namespace Go.Proofs.YtgafmklfpiipcaaDoor
open Go.RowKit (Grown Hid Below intOf)
open Go.Deep
namespace K
set_option maxRecDepth 100000
theorem rpart_u64 (xs : Array Value) (n : Nat) (v : Value) (h : xs[n]? = some v) (w : World) : Sem.run Tryd.prog (part 26 xs n) w = .ok v w := by
  have ha : ∀ w, Sem.run Tryd.prog (isAgg 26) w = .ok false w := fun _ => by kernel_rfl
  unfold part
  simp [Sem.run_bind, ha, h]
theorem rfields3e {l : List Field} {x y z : String × TypeId × Nat} (h : l.map (fun f => (f.name, f.type, f.offset)) = [x, y, z]) : ∃ a b c, l = [a, b, c] ∧ (a.name = x.1 ∧ a.type = x.2.1 ∧ a.offset = x.2.2) ∧ (b.name = y.1 ∧ b.type = y.2.1 ∧ b.offset = y.2.2) ∧ (c.name = z.1 ∧ c.type = z.2.1 ∧ c.offset = z.2.2) := by
  match l, h with
  | [a, b, c], h =>
    simp only [List.map_cons, List.map_nil, List.cons.injEq, and_true] at h
    obtain ⟨h1, h2, h3⟩ := h
    subst h1 h2 h3
    exact ⟨a, b, c, rfl, ⟨rfl, rfl, rfl⟩, ⟨rfl, rfl, rfl⟩, ⟨rfl, rfl, rfl⟩⟩
theorem req_cent (a0 a1 a2 b0 b1 b2 : Int) (w : World) :
    Sem.run Tryd.prog (Op.equalIn 10000 37 (.agg #[.int .u64 a0, .int .u64 a1, .int .u64 a2]) (.agg #[.int .u64 b0, .int .u64 b1, .int .u64 b2])) w = .ok (a0 == b0 && a1 == b1 && a2 == b2) w := by
  rw [show (10000 : Nat) = 9999 + 1 from rfl, run_equalIn_struct w 9999 37 _ _ Tryd.underlying37 (by kernel_rfl)]
  have hf : (Tryd.prog.fieldsOf 37).toList.map (fun f => (f.name, f.type, f.offset)) = [("Node", 26, 0), ("Birth", 26, 1), ("Retired", 26, 2)] := by kernel_rfl
  obtain ⟨f0, f1, f2, hl, g0, g1, g2⟩ := rfields3e hf
  have he := fun (a b : Int) w => run_equalIn_int (P := Tryd.prog) w 9998 26 .u64 .u64 a b Tryd.underlying26
  have ha0 : ∀ w, Sem.run Tryd.prog (part 26 #[Value.int IntKind.u64 a0, Value.int IntKind.u64 a1, Value.int IntKind.u64 a2] 0) w = .ok (.int .u64 a0) w := fun w => rpart_u64 _ 0 _ rfl w
  have ha1 : ∀ w, Sem.run Tryd.prog (part 26 #[Value.int IntKind.u64 a0, Value.int IntKind.u64 a1, Value.int IntKind.u64 a2] 1) w = .ok (.int .u64 a1) w := fun w => rpart_u64 _ 1 _ rfl w
  have ha2 : ∀ w, Sem.run Tryd.prog (part 26 #[Value.int IntKind.u64 a0, Value.int IntKind.u64 a1, Value.int IntKind.u64 a2] 2) w = .ok (.int .u64 a2) w := fun w => rpart_u64 _ 2 _ rfl w
  have hb0 : ∀ w, Sem.run Tryd.prog (part 26 #[Value.int IntKind.u64 b0, Value.int IntKind.u64 b1, Value.int IntKind.u64 b2] 0) w = .ok (.int .u64 b0) w := fun w => rpart_u64 _ 0 _ rfl w
  have hb1 : ∀ w, Sem.run Tryd.prog (part 26 #[Value.int IntKind.u64 b0, Value.int IntKind.u64 b1, Value.int IntKind.u64 b2] 1) w = .ok (.int .u64 b1) w := fun w => rpart_u64 _ 1 _ rfl w
  have hb2 : ∀ w, Sem.run Tryd.prog (part 26 #[Value.int IntKind.u64 b0, Value.int IntKind.u64 b1, Value.int IntKind.u64 b2] 2) w = .ok (.int .u64 b2) w := fun w => rpart_u64 _ 2 _ rfl w
  rw [hl]
  simp only at g0 g1 g2
  cases e0 : (a0 == b0) <;> cases e1 : (a1 == b1) <;> cases e2 : (a2 == b2) <;>
    simp [Op.eqFields, Sem.run_bind, ha0, ha1, ha2, hb0, hb1, hb2, he, e0, e1, e2, g0, g1, g2]
theorem isT_en : IsT 37 3 := ⟨by kernel_rfl, _, Tryd.underlying37⟩
/-- One step, and it is done: an owner that is not the last one. -/
def I1 (c : Cfg) (cs0 : List Int) (s0 : Rtm) (cs : List Int) (_g : Gs) (s : Rtm) (lf : Int) : Prop := (lf = 1 ∧ s = s0 ∧ cs = cs0) ∨ (lf = 0 ∧ s = { s0 with la := false, nx := 1, d := true } ∧ cs = clV cs0 4 (clV' c (ixV s0.h) 5) 0 oneL)
theorem I1.step {c : Cfg} {cs0 : List Int} {s0 : Rtm} (hd0 : s0.d = false) (n0 : s0.nx = 0) (ow : s0.ow c cs0 ≠ 1) {cs : List Int} {g : Gs} {s : Rtm} {lf : Int} (h : I1 c cs0 s0 cs g s lf) (hd : s.d = false) (cnt : Int) : I1 c cs0 s0 (rtC c cs g s) (rtG c g s) (rtF c cs cnt g s) (lf - 1) := by
  rcases h with ⟨e1, e2, e3⟩ | ⟨_, e2, _⟩
  · subst e2 e3
    obtain ⟨f1, f2, f3⟩ := rtF_0 (c := c) (cs := cs) (cnt := cnt) (g := g) hd0 n0
    rw [decide_eq_false ow] at f1
    exact Or.inr ⟨by omega, f1, f2⟩
  · rw [e2] at hd; cases hd
theorem I1.done {c : Cfg} {cs0 : List Int} {s0 : Rtm} {cs : List Int} {g : Gs} {s : Rtm} {lf : Int} (h : I1 c cs0 s0 cs g s lf) (hl : lf ≤ 0) : s.d = true := by
  rcases h with ⟨e1, _⟩ | ⟨_, e2, _⟩
  · omega
  · rw [e2]
/-- At its end. -/
theorem I1.fin {c : Cfg} {cs0 : List Int} {s0 : Rtm} (hd0 : s0.d = false) {cs : List Int} {g : Gs} {s : Rtm} {n : Nat} (h : I1 c cs0 s0 cs g s (1 - (n : Int))) (hd : s.d = true) : n = 1 ∧ s.la = false ∧ s.ent = entV 0 0 0 ∧ s.told = false ∧ cs = clV cs0 4 (clV' c (ixV s0.h) 5) 0 oneL := by
  rcases h with ⟨_, e2, _⟩ | ⟨e1, e2, e3⟩
  · rw [e2, hd0] at hd; cases hd
  · refine ⟨by omega, by rw [e2], ?_, ?_, e3⟩
    · unfold Rtm.ent; rw [e2, if_neg (fun z => by have := z.2; cases this)]
    · unfold Rtm.told; rw [e2]; rfl
/-- The last owner, alone, while the clock stands. -/
def IV (c : Cfg) (l : Nd) (z : Nat) (B T : Int) (cs : List Int) (g : Gs) (s : Rtm) (lf : Int) : Prop := Rv c l z cs g s B lf ∧ rdG cs 0 = T ∧ (s.d = true → s.er = T)
theorem IV.step {c : Cfg} {l : Nd} {z : Nat} {B T : Int} {cs : List Int} {g : Gs} {s : Rtm} {lf : Int} (h : IV c l z B T cs g s lf) (hd : s.d = false) (cnt : Int) : IV c l z B T (rtC c cs g s) (rtG c g s) (rtF c cs cnt g s) (lf - 1) := by
  obtain ⟨V, ck, er⟩ := h
  obtain ⟨V', ck', er'⟩ := V.step cnt
  have l0 : ¬ lf = 0 := fun e => by
    have z := (V.fin e).1
    rw [hd] at z; cases z
  rw [if_neg l0] at V'
  refine ⟨V', ck'.trans ck, fun q => ?_⟩
  rw [er' q, hd, ← ck]; rfl
theorem IV.done {c : Cfg} {l : Nd} {z : Nat} {B T : Int} {cs : List Int} {g : Gs} {s : Rtm} {lf : Int} (h : IV c l z B T cs g s lf) (hl : lf ≤ 0) : s.d = true := (h.1.fin (by have := h.1.l0; omega)).1
theorem IV.fin {c : Cfg} {l : Nd} {z : Nat} {B T : Int} {cs : List Int} {g : Gs} {s : Rtm} {lf : Int} (h : IV c l z B T cs g s lf) (hd : s.d = true) : s.ent = entV (hw z) B T ∧ s.told = true ∧ Unl c l z cs ∧ fd c cs z 5 = 0 := by
  obtain ⟨f1, la, eb, o0⟩ := h.1.done hd
  refine ⟨?_, ?_, h.1.unl f1, o0⟩
  · unfold Rtm.ent; rw [if_pos ⟨hd, la⟩, h.1.sh, eb, h.2.2 hd]
  · unfold Rtm.told; rw [hd, la]; rfl
theorem Rp.acc {w0 w w' : World} {b fb m p r : Nat} {c : Cfg} {h k : Int} {cs cs' : List Int} {cnt cnt' : Int} {a a' : Acc} (x : Rp w0 w b fb m p r c h k cs cnt a) (M : Mm w' m p r c cs' cnt' a') (K : Kept [p, r] w w') (wd : Wds cs') (n0 : 0 ≤ cnt') : Rp w0 w' b fb m p r c h k cs' cnt' a' := by
  have n1 : ¬ b = p := blk_ne (T1 := 77) x.rb x.mm.bk.st (by decide)
  have n2 : ¬ b = r := blk_ne (T1 := 77) x.rb x.mm.bk.row (by decide)
  have n3 : ¬ fb = p := blk_ne (T1 := 113) x.ff x.mm.bk.st (by decide)
  have n4 : ¬ fb = r := blk_ne (T1 := 113) x.ff x.mm.bk.row (by decide)
  exact ⟨x.rb.kept K (by simp; omega), x.ff.kept K (by simp; omega), M, x.kp.then K (by have := x.op; have := x.ow; simp; omega), x.t0, x.ob, x.of, x.op, x.ow, x.hr, wd, n0, x.hW⟩
end K
end Go.Proofs.YtgafmklfpiipcaaDoor
namespace Go.Proofs.YtgafmklfpiipcaaDoor
open Go.RowKit (Grown Hid Below intOf)
open Go.Deep
namespace K
set_option maxRecDepth 100000
theorem rpack_hw1 (k : Nat) : packV ((k : Int) + 1) 0 false = hw (k + 1) := by
  unfold packV hw; simp; omega
theorem rhw_isW {k : Nat} (hk : k < 1000) : isW (hw k) := by unfold isW hw; omega
/-- The answer: none, or a world. -/
def NdR (c : Cfg) (ns : List Nn) (kz ow : Int) (e : Ending) (w w' : World) : Prop := Kept [] w w' ∧ ((e = .returned (.tuple #[.pointer none, .int .u64 0, .bool false]) ∧ ¬ (RightN c ns ∧ 0 ≤ kz ∧ kz < ns.length)) ∨ (∃ k : Nat, kz = k ∧ k < ns.length ∧ RightN c ns ∧ ∃ m p r a, e = .returned (.tuple #[.pointer (some ⟨m, 0, none⟩), .int .u64 (hw (k + 1)), .bool true]) ∧ (w.heap.size ≤ m ∧ w.heap.size ≤ p ∧ w.heap.size ≤ r) ∧ Mm w' m p r c (ownV c ns k ow) 1 a))
theorem NdR.no {c : Cfg} {ns : List Nn} {kz ow : Int} {e : Ending} {w w' : World} (he : e = .returned (.tuple #[.pointer none, .int .u64 0, .bool false])) (h : ¬ (RightN c ns ∧ 0 ≤ kz ∧ kz < ns.length)) (k : Kept [] w w') : NdR c ns kz ow e w w' := ⟨k, Or.inl ⟨he, h⟩⟩
set_option maxHeartbeats 8000000 in
theorem node_any (c : Cfg) (ns : List Nn) (ao : Option Addr) (n cap : Nat) (kz ow : Int) (w : World) (hT : Tab w) (hw : ∀ x ∈ ns, x.wf) (hs : SlOf 5 nnL w ao ns) (hn : n = ns.length) (hc : ao = none → cap = 0) :
    Calls Tryd.prog 8 #[.agg #[.int .i64 c.t, .int .i64 c.s, .int .i64 c.c, .int .i64 c.h, .int .i64 c.k, .int .i64 c.e, .int .i64 c.l], .slice ao n cap, .int .i64 kz, .int .u64 ow] w fun e w' => NdR c ns kz ow e w w' := by
  have HT := hidOf hT
  have HS := hidOf hs
  have HW := hidOf hw
  have HNN := hidOf hn
  have HC := hidOf hc
  obtain ⟨q, hq⟩ : ∃ q, q = w.heap.size := ⟨_, rfl⟩
  have BX : Hid (RW 23 (w.alloc (.cells #[.int .i64 c.t, .int .i64 c.s, .int .i64 c.c, .int .i64 c.h, .int .i64 c.k, .int .i64 c.e, .int .i64 c.l] 23)) q #[.int .i64 c.t, .int .i64 c.s, .int .i64 c.c, .int .i64 c.h, .int .i64 c.k, .int .i64 c.e, .int .i64 c.l] ∧ Kept [] w (w.alloc (.cells #[.int .i64 c.t, .int .i64 c.s, .int .i64 c.c, .int .i64 c.h, .int .i64 c.k, .int .i64 c.e, .int .i64 c.l] 23))) := by rw [hq]; exact ⟨RW.new _ _ _, (Kept.refl [] w).alloc _⟩
  clear hs hw hn hc hT
  go_enter Tryd.func8, Tryd.ntmps8
  go_upto_region 1 with (fail)
  rw [← hq]
  refine gen_world (fun W => RW 23 W q #[.int .i64 c.t, .int .i64 c.s, .int .i64 c.c, .int .i64 c.h, .int .i64 c.k, .int .i64 c.e, .int .i64 c.l] ∧ Kept [] w W) BX.out ?_
  have hqw : w.heap.size ≤ q := by omega
  clear BX hq
  rintro W ⟨CB0, K0⟩
  have HX := hidOf (And.intro CB0 K0)
  clear CB0 K0
  go_wp2_with (first | ((with_reducible change wpList _ _ _ (Oper.mk _ (Op.load 23 (Operand.tmp 4)) _ _ _ _ :: _) _ _); refine wpList_load_rw 23 isT_cf rfl (.tmp 4) rfl q rfl #[.int .i64 c.t, .int .i64 c.s, .int .i64 c.c, .int .i64 c.h, .int .i64 c.k, .int .i64 c.e, .int .i64 c.l] rfl HX.out.1 ?_))
  refine (right11_any c ns ao n cap W (HS.out.new HX.out.2) HNN.out).mono ?_
  rintro e w1 ⟨B, rfl, hB, K1⟩
  have HX1 := hidOf (And.intro (HX.out.1.kept K1 (by simp)) (HX.out.2.trans K1))
  clear HX K1
  have HX := HX1
  clear HX1
  cases B with
  | false =>
    go_wp2
    go_ret3
    exact NdR.no rfl (fun z => by have := hB.2 z.1; cases this) HX.out.2
  | true =>
    have HR := hidOf (hB.1 rfl)
    have RR := hidOf (riB_true.1 HR.out.r)
    clear hB
    by_cases hk0 : kz < 0
    · go_wp2
      go_ret3
      exact NdR.no rfl (fun z => by omega) HX.out.2
    by_cases hk1 : (n : Int) ≤ kz
    · go_wp2
      go_ret3
      exact NdR.no rfl (fun z => by have := HNN.out; omega) HX.out.2
    obtain ⟨k, rfl⟩ : ∃ k : Nat, kz = k := ⟨kz.toNat, by omega⟩
    have hkn : (k : Int) < n := by omega
    have hkz : ¬ (k : Int) < 0 := by omega
    have hknl : k < n := by omega
    have n64 : (n : Int) ≤ 64 := by have := HR.out.n; have := HNN.out; have := RR.out.c1; omega
    have HK := hidOf (show k < ns.length by have := HNN.out; omega)
    obtain ⟨g, c', w2, hap, hg, NR, K2⟩ := append_nn 24 w1 ns ao n cap HNN.out (HS.out.new HX.out.2) HC.out (by have := HNN.out; omega)
    obtain ⟨x, hx⟩ : ∃ x, x = ns.getD k nn0 := ⟨_, rfl⟩
    have HXE := hidOf hx
    have HGQ := hidOf (show ¬ g = q ∧ w.heap.size ≤ g by have := lt_of_blk HX.out.1; have := HX.out.2.size; omega)
    have KS : Hid (∀ (Y : World), Y = (w2.setCell ⟨g, k * 5 + 3, none⟩ (.int .i64 x.t)).setCell ⟨g, k * 5 + 4, none⟩ (.bool true) → RW 23 Y q #[.int .i64 c.t, .int .i64 c.s, .int .i64 c.c, .int .i64 c.h, .int .i64 c.k, .int .i64 c.e, .int .i64 c.l] ∧ Kept [] w Y ∧ NRow Y g (delN ns k)) := hidOf (fun Y e => by
      subst e
      have ks := ((Kept.refl [g] w2).setCell (p := ⟨g, k * 5 + 3, none⟩) (Or.inl (by simp)) (.int .i64 x.t)).setCell (p := ⟨g, k * 5 + 4, none⟩) (Or.inl (by simp)) (.bool true)
      have z := (NR.set HK.out { x with m := x.t } 3 (.int .i64 x.t) (by omega) (fun j hj => by rw [← HXE.out]; rcases (by omega : j = 0 ∨ j = 1 ∨ j = 2 ∨ j = 3 ∨ j = 4) with e | e | e | e | e <;> subst e <;> rfl)).set (k := k) (by simpa using HK.out) { x with m := x.t, d := true } 4 (.bool true) (by omega) (fun j hj => by rw [getD_put _ _ _ _ _ HK.out, if_pos rfl]; rcases (by omega : j = 0 ∨ j = 1 ∨ j = 2 ∨ j = 3 ∨ j = 4) with e | e | e | e | e <;> subst e <;> rfl)
      rw [List.set_set] at z
      have e : delN ns k = ns.set k { x with m := x.t, d := true } := by unfold delN del1; rw [← HXE.out]
      rw [← e] at z
      exact ⟨(HX.out.1.kept K2 (by simp)).kept ks (by simp; have := HGQ.out; omega), (HX.out.2.trans K2).then ks (fun y hy => by simp at hy; subst hy; exact Or.inr HGQ.out.2), z⟩)
    obtain ⟨A, zA, qA⟩ := NR
    have n2 := cell_of_blk zA (qA k HK.out).2.2.1
    have n3 := cell_of_blk zA (qA k HK.out).2.2.2.1
    have n4 := cell_of_blk zA (qA k HK.out).2.2.2.2
    rw [← hx] at n2 n3 n4
    have nf := free_of_blk zA
    have nl := lt_of_blk zA
    clear zA qA hg K2 hk0 hk1 hx
    go_upto_region 5 with (first | (at_builtin; refine wpList_append_run rfl (.tmp 29) (.tmp 30) 24 rfl rfl rfl hap ?_))
    refine gen_world (fun U => RW 23 U q #[.int .i64 c.t, .int .i64 c.s, .int .i64 c.c, .int .i64 c.h, .int .i64 c.k, .int .i64 c.e, .int .i64 c.l] ∧ Kept [] w U ∧ NRow U g (delN ns k)) (KS.out _ rfl) ?_
    clear KS hap nf nl n2 n3 n4
    rintro U ⟨UC, UK, UN⟩
    have HU := hidOf (And.intro UC (And.intro UK UN))
    clear UC UK UN HX
    have SX : Hid (∀ W' : World, Kept [] U W' → W'.cell? ⟨q, 0, none⟩ = some (.int .i64 c.t) ∧ W'.cell? ⟨q, 1, none⟩ = some (.int .i64 c.s) ∧ W'.cell? ⟨q, 2, none⟩ = some (.int .i64 c.c) ∧ W'.cell? ⟨q, 3, none⟩ = some (.int .i64 c.h) ∧ W'.cell? ⟨q, 4, none⟩ = some (.int .i64 c.k) ∧ W'.cell? ⟨q, 5, none⟩ = some (.int .i64 c.e) ∧ W'.cell? ⟨q, 6, none⟩ = some (.int .i64 c.l)) := hidOf (by
      intro W' kk
      have y := HU.out.1.kept kk (by simp)
      exact ⟨cell_of_blk y (i := 0) rfl, cell_of_blk y (i := 1) rfl, cell_of_blk y (i := 2) rfl, cell_of_blk y (i := 3) rfl, cell_of_blk y (i := 4) rfl, cell_of_blk y (i := 5) rfl, cell_of_blk y (i := 6) rfl⟩)
    have HRD := hidOf (HR.out.del HK.out)
    have LY : Hid (∀ (W' : World), Kept [] U W' → Calls Tryd.prog 27 #[.agg #[.int .i64 c.t, .int .i64 c.s, .int .i64 c.c, .int .i64 c.h, .int .i64 c.k, .int .i64 c.e, .int .i64 c.l], .slice (some ⟨g, 0, none⟩) n c'] W' fun e w' => ∃ g3 c3, e = .returned (.slice (some ⟨g3, 0, none⟩) (lnN c) c3) ∧ RowR w' g3 (layV c (delN ns k)) c3 ∧ Kept [] U w') := hidOf (fun W' kk => (lay_any c (delN ns k) (some ⟨g, 0, none⟩) n c' W' HRD.out (wf_del HW.out HK.out) (HU.out.2.2.kept kk (by simp)).sl (by rw [delN_len]; exact HNN.out)).mono fun e w' hh => by
      obtain ⟨g, c', e1, _, R, K⟩ := hh
      exact ⟨g, c', e1, R, kk.trans K⟩)
    have OF : Hid (∀ (W' : World) (g3 c3 : Nat), Kept [] U W' → RowR W' g3 (layV c (delN ns k)) c3 → Calls Tryd.prog 26 #[.agg #[.int .i64 c.t, .int .i64 c.s, .int .i64 c.c, .int .i64 c.h, .int .i64 c.k, .int .i64 c.e, .int .i64 c.l], .slice (some ⟨g3, 0, none⟩) (lnN c) c3] W' fun e w' => ∃ m p r, e = .returned (.tuple #[.pointer (some ⟨m, 0, none⟩), .int .i64 0]) ∧ (U.heap.size ≤ m ∧ U.heap.size ≤ p ∧ U.heap.size ≤ r) ∧ Mm w' m p r c (layV c (delN ns k)) 0 Acc.zero ∧ Kept [] U w') := hidOf (fun W' g c' kk R => (mof_yes c (some ⟨g, 0, none⟩) (layV c (delN ns k)) (lnN c) c' W' HR.out.r (lnN_eq c) (by have z := (Ld.laid HRD.out).len; have y := lnN_eq c; omega) R.sl).mono fun e w' hh => by
      obtain ⟨m, p, r, e1, ⟨h0, h1, h2⟩, M, K⟩ := hh
      have := kk.size
      exact ⟨m, p, r, e1, ⟨by omega, by omega, by omega⟩, M, kk.trans K⟩)
    obtain ⟨LN, hLN⟩ : ∃ LN, LN = lnN c := ⟨_, rfl⟩
    rw [← hLN] at LY OF
    obtain ⟨LV, hLV⟩ : ∃ LV, LV = layV c (delN ns k) := ⟨_, rfl⟩
    rw [← hLV] at LY OF
    have HLV := hidOf hLV
    clear hLN hLV
    go_wp2_with fail
    go_region_held3 (fun W' => W'.cell? ⟨q, 0, none⟩ = some (.int .i64 c.t) ∧ W'.cell? ⟨q, 1, none⟩ = some (.int .i64 c.s) ∧ W'.cell? ⟨q, 2, none⟩ = some (.int .i64 c.c) ∧ W'.cell? ⟨q, 3, none⟩ = some (.int .i64 c.h) ∧ W'.cell? ⟨q, 4, none⟩ = some (.int .i64 c.k) ∧ W'.cell? ⟨q, 5, none⟩ = some (.int .i64 c.e) ∧ W'.cell? ⟨q, 6, none⟩ = some (.int .i64 c.l))
      (exact SX.out _ (by first | assumption | exact (Kept.refl _ _).drew | exact Kept.refl _ _))
      (first
        | (go_at_call 27; with_reducible refine (LY.out _ (Kept.refl _ _).drew).mono ?_; rintro e w5 ⟨g3, c3, rfl, R5, K5⟩)
        | (go_at_call 26; with_reducible refine (OF.out _ _ _ (by assumption) (by assumption)).mono ?_; rintro e w6 ⟨m, p, r, rfl, hpr, M6, K6⟩))
    have HY := hidOf (And.intro hpr (And.intro M6 (And.intro K6 (HU.out.2.1.trans K6))))
    have HSZ := hidOf HU.out.2.1.size
    clear R5 K5 hpr M6 K6 SX LY OF HU
    have OF1 : Hid (∀ (Y : World), Calls Tryd.prog 28 #[.int .i64 ((k : Int) + 1), .int .i64 0] Y fun e w' => e = .returned (.int .u64 (hw (k + 1))) ∧ Kept [] Y w') := hidOf (fun Y => by
      have z := rof1_any ((k : Int) + 1) 0 Y (by omega) (by omega)
      rw [rpack_hw1] at z
      exact z)
    have HWI := hidOf (rhw_isW (k := k + 1) (by omega))
    have HWX := hidOf (show ixV (hw (k + 1)) = (k : Int) + 1 by rw [hw_ix (by omega)]; omega)
    obtain ⟨HWK, hHWK⟩ : ∃ z, z = hw (k + 1) := ⟨_, rfl⟩
    rw [← hHWK] at OF1 HWI HWX
    have HHW := hidOf hHWK
    clear hHWK
    go_wp2_with fail
    with_reducible refine (OF1.out _).mono ?_
    rintro e w7 ⟨rfl, K7⟩
    have HY7 := hidOf (And.intro HY.out.1 (And.intro (HY.out.2.1.new K7) (HY.out.2.2.2.trans K7)))
    clear K7 OF1 HY
    have ST := hidOf (mstore_any m p r c LV 0 Acc.zero HWK 5 ow w7 HY7.out.2.1 (HT.out.kept HY7.out.2.2) HWI.out.1 HWI.out.2 (Int.le_refl _) (by omega))
    rw [HWX.out] at ST
    go_wp2_with fail
    refine ST.out.mono ?_
    rintro e w8 ⟨rfl, M8, K8⟩
    have HZ := hidOf (And.intro M8 K8)
    clear M8 K8 ST
    go_wp2
    go_ret3
    obtain ⟨M8, K8⟩ := HZ.out
    obtain ⟨hpr, _, K7⟩ := HY7.out
    have sz := HSZ.out
    refine ⟨K7.then K8 (by simp; omega), Or.inr ⟨k, rfl, HK.out, HR.out, m, p, r, acV LV 2 (clV' c ((k : Int) + 1) 5) (plainV HWK) 0 ow, by rw [← HHW.out]; rfl, ⟨by omega, by omega, by omega⟩, ?_⟩⟩
    have e : ownV c ns k ow = clV LV 2 (clV' c ((k : Int) + 1) 5) 0 ow := by unfold ownV; rw [← HLV.out]
    rw [e]; exact M8
end K
end Go.Proofs.YtgafmklfpiipcaaDoor
namespace Go.Proofs.YtgafmklfpiipcaaDoor
open Go.RowKit (Grown Hid Below intOf)
open Go.Deep
namespace K
set_option maxRecDepth 100000
def c14 : Cfg := ⟨1, 1, 1, 1, 1, 1, 9⟩
def n14 : List Nn := [⟨7, 0, 1, 1, true⟩]
theorem right14 : RightN c14 n14 := by
  refine ⟨by decide +kernel, by decide, fun i hi => ?_, fun i hi => ?_⟩
  · have hi' : i < 1 := hi
    rcases (by omega : i = 0) with e; subst e; exact ⟨by decide, by decide, by decide, by decide, by decide, by decide⟩
  · have hi' : i + 1 < 1 := hi
    omega
theorem wf14 : ∀ x ∈ n14, x.wf := by
  intro x hx
  simp [n14] at hx
  subst hx; exact ⟨by decide, by decide⟩
theorem del14 : delN n14 0 = n14 := rfl
theorem blk_alloc_drew (w : World) (o : Obj) : (w.alloc o).drew.heap[w.heap.size]? = some o := blk_alloc_new w o
theorem slOf14 {w : World} {b : Nat} (h : w.heap[b]? = some (.cells #[.int .u64 7, .int .u64 0, .int .i64 1, .int .i64 1, .bool true] 34 (0, 0))) : SlOf 5 nnL w (some ⟨b, 0, none⟩) n14 := by
  intro _
  refine ⟨b, 0, rfl, lt_of_blk h, fun k hk j v hv => ?_⟩
  have hk' : k < 1 := hk
  rcases (by omega : k = 0) with e; subst e
  rcases j with _ | _ | _ | _ | _ | j
  all_goals first | (refine cell_of_blk h ?_; exact hv) | simp [n14, nnL] at hv
theorem laid14 : LdR c14 n14 0 2 (ownV c14 n14 0 2) := ldr_is right14 wf14 (by decide) (by unfold isW; omega)
theorem fd14 {cs : List Int} (h : Unl c14 (ndOf c14 (delN n14 0)) 1 cs) : fd c14 cs 0 6 = 0 := by
  obtain ⟨P, p1, ⟨j, e, j1, j2, q⟩, _⟩ := h 0 (by decide)
  have n1 : (ndOf c14 (delN n14 0)).n = 1 := rfl
  rw [n1] at e j2 q
  have hj : j = 2 := by
    by_cases e1 : j = 1
    · exact absurd e1 (p1 j (q (by omega)))
    · omega
  subst hj
  exact e
set_option maxHeartbeats 8000000 in
theorem alive_any (w : World) (hT : Tab w) : Calls Tryd.prog 9 #[] w fun e w' => e = .returned (.bool true) ∧ Kept [] w w' := by
  have HT := hidOf hT
  clear hT
  obtain ⟨q, hq⟩ : ∃ q, q = w.heap.size := ⟨_, rfl⟩
  have BX : Hid (RW 23 (w.alloc (.cells #[.int .i64 1, .int .i64 1, .int .i64 1, .int .i64 1, .int .i64 1, .int .i64 1, .int .i64 9] 23)) q #[.int .i64 1, .int .i64 1, .int .i64 1, .int .i64 1, .int .i64 1, .int .i64 1, .int .i64 9] ∧ Kept [] w (w.alloc (.cells #[.int .i64 1, .int .i64 1, .int .i64 1, .int .i64 1, .int .i64 1, .int .i64 1, .int .i64 9] 23))) := by rw [hq]; exact ⟨RW.new _ _ _, (Kept.refl [] w).alloc _⟩
  go_enter Tryd.func9, Tryd.ntmps9
  go_upto_region 2 with (fail)
  rw [← hq]
  refine gen_world (fun W => RW 23 W q #[.int .i64 1, .int .i64 1, .int .i64 1, .int .i64 1, .int .i64 1, .int .i64 1, .int .i64 9] ∧ Kept [] w W) BX.out ?_
  clear BX hq
  rintro W ⟨CB0, K0⟩
  have HX := hidOf (And.intro CB0 K0)
  clear CB0 K0
  have SX : Hid (∀ W' : World, Kept [] W W' → W'.cell? ⟨q, 0, none⟩ = some (.int .i64 1) ∧ W'.cell? ⟨q, 1, none⟩ = some (.int .i64 1) ∧ W'.cell? ⟨q, 2, none⟩ = some (.int .i64 1) ∧ W'.cell? ⟨q, 3, none⟩ = some (.int .i64 1) ∧ W'.cell? ⟨q, 4, none⟩ = some (.int .i64 1) ∧ W'.cell? ⟨q, 5, none⟩ = some (.int .i64 1) ∧ W'.cell? ⟨q, 6, none⟩ = some (.int .i64 9)) := hidOf (by
    intro W' kk
    have y := HX.out.1.kept kk (by simp)
    exact ⟨cell_of_blk y (i := 0) rfl, cell_of_blk y (i := 1) rfl, cell_of_blk y (i := 2) rfl, cell_of_blk y (i := 3) rfl, cell_of_blk y (i := 4) rfl, cell_of_blk y (i := 5) rfl, cell_of_blk y (i := 6) rfl⟩)
  have LY : Hid (∀ (W' : World) (b : Nat), Kept [] W W' → W'.heap[b]? = some (.cells #[.int .u64 7, .int .u64 0, .int .i64 1, .int .i64 1, .bool true] 34 (0, 0)) → Calls Tryd.prog 27 #[.agg #[.int .i64 1, .int .i64 1, .int .i64 1, .int .i64 1, .int .i64 1, .int .i64 1, .int .i64 9], .slice (some ⟨b, 0, none⟩) 1 1] W' fun e w' => ∃ g3 c3, e = .returned (.slice (some ⟨g3, 0, none⟩) (lnN c14) c3) ∧ RowR w' g3 (layV c14 (delN n14 0)) c3 ∧ Kept [] W w') := hidOf (fun W' b kk hb => (lay_any c14 (delN n14 0) (some ⟨b, 0, none⟩) 1 1 W' (right14.del (by decide)) (wf_del wf14 (by decide)) (slOf14 hb) rfl).mono fun e w' hh => by
    obtain ⟨g, c', e1, _, R, K⟩ := hh
    exact ⟨g, c', e1, R, kk.trans K⟩)
  have OF : Hid (∀ (W' : World) (g3 c3 : Nat), Kept [] W W' → RowR W' g3 (layV c14 (delN n14 0)) c3 → Calls Tryd.prog 26 #[.agg #[.int .i64 1, .int .i64 1, .int .i64 1, .int .i64 1, .int .i64 1, .int .i64 1, .int .i64 9], .slice (some ⟨g3, 0, none⟩) (lnN c14) c3] W' fun e w' => ∃ m p r, e = .returned (.tuple #[.pointer (some ⟨m, 0, none⟩), .int .i64 0]) ∧ (W.heap.size ≤ m ∧ W.heap.size ≤ p ∧ W.heap.size ≤ r) ∧ Mm w' m p r c14 (layV c14 (delN n14 0)) 0 Acc.zero ∧ Kept [] W w') := hidOf (fun W' g c' kk R => (mof_yes c14 (some ⟨g, 0, none⟩) (layV c14 (delN n14 0)) (lnN c14) c' W' right14.r (lnN_eq c14) (by have z := (Ld.laid (right14.del (k := 0) (by decide))).len; have y := lnN_eq c14; omega) R.sl).mono fun e w' hh => by
    obtain ⟨m, p, r, e1, ⟨h0, h1, h2⟩, M, K⟩ := hh
    have := kk.size
    exact ⟨m, p, r, e1, ⟨by omega, by omega, by omega⟩, M, kk.trans K⟩)
  obtain ⟨LN, hLN⟩ : ∃ LN, LN = lnN c14 := ⟨_, rfl⟩
  rw [← hLN] at LY OF
  obtain ⟨LV, hLV⟩ : ∃ LV, LV = layV c14 (delN n14 0) := ⟨_, rfl⟩
  rw [← hLV] at LY OF
  have HLV := hidOf hLV
  clear hLN hLV
  go_region_held3 (fun W' => W'.cell? ⟨q, 0, none⟩ = some (.int .i64 1) ∧ W'.cell? ⟨q, 1, none⟩ = some (.int .i64 1) ∧ W'.cell? ⟨q, 2, none⟩ = some (.int .i64 1) ∧ W'.cell? ⟨q, 3, none⟩ = some (.int .i64 1) ∧ W'.cell? ⟨q, 4, none⟩ = some (.int .i64 1) ∧ W'.cell? ⟨q, 5, none⟩ = some (.int .i64 1) ∧ W'.cell? ⟨q, 6, none⟩ = some (.int .i64 9))
    (exact SX.out _ (by first | assumption | exact (Kept.refl _ _).drew | exact ((Kept.refl _ _).alloc _).drew | exact Kept.refl _ _))
    (first
      | (go_at_call 27; with_reducible refine (LY.out _ _ (by exact ((Kept.refl _ _).alloc _).drew) (blk_alloc_drew _ _)).mono ?_; rintro e w5 ⟨g3, c3, rfl, R5, K5⟩)
      | (go_at_call 26; with_reducible refine (OF.out _ _ _ (by assumption) (by assumption)).mono ?_; rintro e w6 ⟨m, p, r, rfl, hpr, M6, K6⟩))
  have HY := hidOf (And.intro hpr (And.intro M6 (And.intro K6 (HX.out.2.trans K6))))
  have HSZ := hidOf HX.out.2.size
  clear R5 K5 hpr M6 K6 SX LY OF HX
  have OF1 := hidOf (fun (Y : World) => rof1_any 1 0 Y (by omega) (by omega))
  rw [show packV 1 0 false = 9223372036854775809 by decide] at OF1
  go_wp2_with fail
  with_reducible refine (OF1.out _).mono ?_
  rintro e w7 ⟨rfl, K7⟩
  have HY7 := hidOf (And.intro (show w.heap.size ≤ p ∧ w.heap.size ≤ r by have := HY.out.1; have := HSZ.out; omega) (And.intro (HY.out.2.1.new K7) (HY.out.2.2.2.trans K7)))
  clear K7 OF1 HY HSZ
  have W0 : isW 9223372036854775809 := by unfold isW; omega
  have NA := hidOf (rtnew_any 9223372036854775809 7 w7 (HT.out.kept HY7.out.2.2) W0.1 W0.2)
  go_wp2_with fail
  with_reducible refine NA.out.mono ?_
  rintro e w8 ⟨a, fa, rfl, ha, hfa, RA, FA, K8⟩
  have WD : Wds LV := by rw [HLV.out]; exact wds_all (right14.del (k := 0) (by decide)) (wf_del wf14 (by decide)) _ (Nat.le_refl _)
  have PA : Rp w w8 a fa m p r c14 9223372036854775809 7 LV 0 Acc.zero := by
    have sz := HY7.out.2.2.size
    exact ⟨RA, FA, HY7.out.2.1.new K8, HY7.out.2.2.trans K8, HT.out, by omega, by omega, HY7.out.1.1, HY7.out.1.2, right14.r, WD, Int.le_refl _, W0⟩
  have HPA := hidOf PA
  have HAA := hidOf (And.intro (lt_of_blk RA) (lt_of_blk FA))
  clear ha hfa RA FA K8 PA NA
  have NB := hidOf (rtnew_any 9223372036854775809 7 w8 (HT.out.kept HPA.out.kp) W0.1 W0.2)
  go_wp2_with fail
  with_reducible refine NB.out.mono ?_
  rintro e w9 ⟨b, fb, rfl, hb, hfb, RB, FB9, K9⟩
  have PB : Rp w w9 b fb m p r c14 9223372036854775809 7 LV 0 Acc.zero := by
    have sz := HPA.out.kp.size
    exact ⟨RB, FB9, HPA.out.mm.new K9, HPA.out.kp.trans K9, HT.out, by omega, by omega, HY7.out.1.1, HY7.out.1.2, right14.r, WD, Int.le_refl _, W0⟩
  have HP := hidOf (And.intro (HPA.out.new K9) (And.intro PB (show ¬ b = a ∧ ¬ b = fa ∧ ¬ fb = a ∧ ¬ fb = fa by have := HAA.out; omega)))
  clear hb hfb RB FB9 K9 PB NB HPA HAA HY7
  have L14 := laid14
  have eo : ownV c14 n14 0 2 = clV LV 2 (clV' c14 1 5) 0 2 := by unfold ownV; rw [← HLV.out]; rfl
  rw [eo] at L14
  have ST := hidOf (mstore_any m p r c14 LV 0 Acc.zero 9223372036854775809 5 2 w9 HP.out.1.mm (HT.out.kept HP.out.1.kp) W0.1 W0.2 (Int.le_refl _) (by omega))
  rw [show ixV 9223372036854775809 = 1 by decide] at ST
  generalize acV LV 2 (clV' c14 1 5) (plainV 9223372036854775809) 0 2 = A1 at ST
  obtain ⟨C2, hC2⟩ : ∃ C2, C2 = clV LV 2 (clV' c14 1 5) 0 2 := ⟨_, rfl⟩
  rw [← hC2] at L14 ST
  have HL14 := hidOf L14
  clear eo hC2 L14 WD
  go_wp2_with fail
  with_reducible refine ST.out.mono ?_
  rintro e w10 ⟨rfl, M10, K10⟩
  have HQ := hidOf (And.intro (HP.out.1.acc M10 K10 HL14.out.wd (by omega)) (And.intro (HP.out.2.1.acc M10 K10 HL14.out.wd (by omega)) HP.out.2.2))
  clear M10 K10 ST HP
  have EA := hidOf (ends14_any (I1 c14 C2 (rtS 9223372036854775809 7)) w w10 a fa m p r c14 9223372036854775809 7 C2 (0 + 1) A1 100 1 HQ.out.1 (by omega) (by omega) (by omega) (Or.inl ⟨rfl, rfl, rfl⟩)
    (fun cs g s lf cnt' h hd => I1.step rfl rfl (by have z := HL14.out.own; have e : (rtS 9223372036854775809 7).ow c14 C2 = 2 := z; rw [e]; decide) h hd cnt') (fun cs g s lf h hl => h.done hl))
  go_wp2_with fail
  refine EA.out.mono ?_
  rintro e w11 ⟨n1, rfl, -, E1⟩
  obtain ⟨ga, g1, s1, cs1, cnt1, acc1, W1, II1, hd1, z1, z2, -⟩ := E1.fin
  obtain ⟨rfl, la1, en1, to1, ec1⟩ := II1.fin rfl hd1
  have L2 : LdR c14 n14 0 1 cs1 := by
    rw [ec1]
    have z := HL14.out.less right14.r (by decide) (by decide) (by omega) (by unfold isW; omega)
    exact z
  have PB11 : Rp w w11 b fb m p r c14 9223372036854775809 7 cs1 cnt1 acc1 := by
    have x := HQ.out.2.1
    have nn := HQ.out.2.2
    have np : ¬ b = p ∧ ¬ b = r ∧ ¬ fb = p ∧ ¬ fb = r := ⟨blk_ne (T1 := 77) x.rb x.mm.bk.st (by decide), blk_ne (T1 := 77) x.rb x.mm.bk.row (by decide), blk_ne (T1 := 113) x.ff x.mm.bk.st (by decide), blk_ne (T1 := 113) x.ff x.mm.bk.row (by decide)⟩
    exact ⟨E1.fk.blk x.rb (by decide) (by simp; omega), E1.fk.blk x.ff (by decide) (by simp; omega), W1.fw.st.mm, W1.fw.kp, HT.out, x.ob, x.of, x.op, x.ow, x.hr, L2.wd, by omega, W0⟩
  have HW1 := hidOf (And.intro W1 (And.intro hd1 (And.intro la1 (show b ≠ a ∧ fb ≠ a from ⟨HQ.out.2.2.1, HQ.out.2.2.2.2.1⟩))))
  have HE1 := hidOf (And.intro en1 to1)
  have HPB := hidOf PB11
  have HL2 := hidOf (And.intro L2 (show 0 ≤ cnt1 ∧ cnt1 ≤ 2 by omega))
  clear E1 W1 II1 hd1 z1 z2 la1 en1 to1 ec1 L2 PB11 EA HQ HL14
  have ET := hidOf (rtentry_any a fa s1 w11 HW1.out.1.rb)
  rw [HE1.out.1, HE1.out.2] at ET
  unfold entV at ET
  go_wp2_with fail
  with_reducible refine ET.out.mono ?_
  rintro e w12 ⟨rfl, K12⟩
  obtain ⟨x8, hx8⟩ : ∃ x, x = w12.heap.size := ⟨_, rfl⟩
  have BX : Hid (RW 37 (w12.alloc (.cells #[.int .u64 0, .int .u64 0, .int .u64 0] 37)) x8 #[.int .u64 0, .int .u64 0, .int .u64 0] ∧ Kept [] w11 (w12.alloc (.cells #[.int .u64 0, .int .u64 0, .int .u64 0] 37))) := by rw [hx8]; exact ⟨RW.new _ _ _, K12.alloc _⟩
  have HX8 := hidOf (show w.heap.size ≤ x8 by have := HW1.out.1.fw.kp.size; have := K12.size; omega)
  clear ET K12
  go_upto_region 10 with (fail)
  rw [← hx8]
  refine gen_world (fun Y => RW 37 Y x8 #[.int .u64 0, .int .u64 0, .int .u64 0] ∧ Kept [] w11 Y) BX.out ?_
  clear BX hx8
  rintro Y ⟨R8, K13⟩
  have HR8 := hidOf (And.intro R8 K13)
  clear R8 K13
  have EB := hidOf (ends14_any (IV c14 (ndOf c14 (delN n14 0)) 1 1 1) w Y b fb m p r c14 9223372036854775809 7 cs1 cnt1 acc1 100 15 (HPB.out.new HR8.out.2) (by omega) (by omega) (by have := HL2.out.2; omega)
    ⟨HL2.out.1.rv (left := 15) right14.r (by decide) _ (by decide), HL2.out.1.ck, fun q => by cases q⟩
    (fun cs g s lf cnt' h hd => h.step hd cnt') (fun cs g s lf h hl => h.done hl))
  go_wp2_with fail
  refine EB.out.mono ?_
  rintro e w14 ⟨n2, rfl, hn2, E2⟩
  obtain ⟨gb, g2, s2, cs2, cnt2, acc2, W2, II2, hd2, z1, z2, -⟩ := E2.fin
  obtain ⟨en2, to2, un2, -⟩ := II2.fin hd2
  have F0 := fd14 un2
  have RA2 : RtB w14 a fa (phT s1 a) s1.la s1.h s1.bi s1.er := by
    have x := HW1.out.1.rb.kept HR8.out.2 (by simp)
    have MM := HW1.out.1.fw.st.mm.new HR8.out.2
    exact E2.fk.blk x (by decide) (by
      have n1 : ¬ a = p := blk_ne (T1 := 77) x MM.bk.st (by decide)
      have n2 : ¬ a = r := blk_ne (T1 := 77) x MM.bk.row (by decide)
      have := HW1.out.2.2.2
      simp; omega)
  have R82 : RW 37 w14 x8 #[.int .u64 0, .int .u64 0, .int .u64 0] := E2.fk.blk HR8.out.1 (by decide) (by
    have x := HPB.out.new HR8.out.2
    have n1 : ¬ x8 = p := blk_ne (T1 := 37) HR8.out.1 x.mm.bk.st (by decide)
    have n2 : ¬ x8 = r := blk_ne (T1 := 37) HR8.out.1 x.mm.bk.row (by decide)
    have n3 : ¬ x8 = b := blk_ne (T1 := 37) HR8.out.1 x.rb (by decide)
    have n4 : ¬ x8 = fb := blk_ne (T1 := 37) HR8.out.1 x.ff (by decide)
    simp; omega)
  have HZ := hidOf (And.intro W2 (And.intro RA2 (And.intro R82 (And.intro hd2 (And.intro HW1.out.2.1 (And.intro F0 (show 0 ≤ cnt2 ∧ cnt2 ≤ 20 by have := HL2.out.2; omega)))))))
  have HE2 := hidOf (And.intro en2 to2)
  have hn2z : (n2 : Int) < 100 := hn2
  clear E2 W2 II2 hd2 z1 z2 en2 to2 un2 F0 RA2 R82 EB HR8 HPB HL2 HW1 HE1 hn2
  have ET := hidOf (rtentry_any b fb s2 w14 HZ.out.1.rb)
  rw [HE2.out.1, HE2.out.2, show hw 1 = 9223372036854775809 by decide] at ET
  unfold entV at ET
  go_wp2_with fail
  with_reducible refine ET.out.mono ?_
  rintro e w15 ⟨rfl, K15⟩
  obtain ⟨x11, hx11⟩ : ∃ x, x = w15.heap.size := ⟨_, rfl⟩
  have BX : Hid (RW 37 (w15.alloc (.cells #[.int .u64 9223372036854775809, .int .u64 1, .int .u64 1] 37)) x11 #[.int .u64 9223372036854775809, .int .u64 1, .int .u64 1] ∧ Kept [] w14 (w15.alloc (.cells #[.int .u64 9223372036854775809, .int .u64 1, .int .u64 1] 37))) := by rw [hx11]; exact ⟨RW.new _ _ _, K15.alloc _⟩
  clear ET K15 HE2
  go_upto_region 12 with (fail)
  rw [← hx11]
  refine gen_world (fun Y => RW 37 Y x11 #[.int .u64 9223372036854775809, .int .u64 1, .int .u64 1] ∧ Kept [] w14 Y) BX.out ?_
  clear BX hx11
  rintro Y2 ⟨R11, K16⟩
  have HR := hidOf (And.intro R11 (And.intro (HZ.out.2.2.1.kept K16 (by simp)) K16))
  clear R11 K16
  have DA := hidOf (rtdone_any a fa s1 _ _ _ _ Y2 (HZ.out.2.1.kept HR.out.2.2 (by simp)))
  have DB := hidOf (rtdone_any b fb s2 _ _ _ _ Y2 (HZ.out.1.new HR.out.2.2).rb)
  rw [HZ.out.2.2.2.2.1] at DA
  rw [HZ.out.2.2.2.1] at DB
  have heq0 : ∀ w, Sem.run Tryd.prog (Op.equalIn 10000 37 (.agg #[.int .u64 0, .int .u64 0, .int .u64 0]) (.agg #[.int .u64 0, .int .u64 0, .int .u64 0])) w = .ok true w := fun w => req_cent 0 0 0 0 0 0 w
  have heq1 : ∀ w, Sem.run Tryd.prog (Op.equalIn 10000 37 (.agg #[.int .u64 9223372036854775809, .int .u64 1, .int .u64 1]) (.agg #[.int .u64 9223372036854775809, .int .u64 1, .int .u64 1])) w = .ok true w := fun w => req_cent 9223372036854775809 1 1 9223372036854775809 1 1 w
  have HDW := hidOf (HZ.out.1.new HR.out.2.2)
  have HHD := hidOf (head_any Y2 HDW.out.fw.st.tb)
  have LD := hidOf (fun (Y : World) (kk : Kept [] Y2 Y) => (HDW.out.fw.new kk).load 9223372036854775808 6 (by unfold isW; omega) (by have := HZ.out.2.2.2.2.2.2; omega))
  rw [show ixV 9223372036854775808 = 0 by decide, HZ.out.2.2.2.2.2.1] at LD
  have c80 := cell_of_blk HR.out.2.1 (i := 0) rfl
  have c81 := cell_of_blk HR.out.2.1 (i := 1) rfl
  have c82 := cell_of_blk HR.out.2.1 (i := 2) rfl
  have c110 := cell_of_blk HR.out.1 (i := 0) rfl
  have c111 := cell_of_blk HR.out.1 (i := 1) rfl
  have c112 := cell_of_blk HR.out.1 (i := 2) rfl
  go_wp2_with fail
  with_reducible refine DA.out.mono ?_
  rintro e w16 ⟨rfl, rfl⟩
  go_wp2_with fail
  with_reducible refine DB.out.mono ?_
  rintro e w17 ⟨rfl, rfl⟩
  go_wp2_with fail
  with_reducible refine HHD.out.mono ?_
  rintro e w18 ⟨rfl, K18⟩
  have LD2 := hidOf (LD.out _ K18)
  clear LD
  go_wp2_with fail
  with_reducible refine LD2.out.mono ?_
  rintro e w19 ⟨a9, rfl, F9, -⟩
  have KF := hidOf F9.kp
  clear F9
  go_wp2
  go_ret
  exact ⟨rfl, KF.out⟩
end K
end Go.Proofs.YtgafmklfpiipcaaDoor
