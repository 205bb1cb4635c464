/-
  The plain mathematics of a retire: a machine that embeds a find, over a world's words; how many steps are left while the clock stands; what holds at each step, alone.
  The contracts of package retire: a retire's block, its find, its guard and a world's words; what its calls make of them.
  The law's own words: is a node linked on any level; a retire that goes on to its end, alone.
-/
import Derived.Test.YtgafmklfpiipcaaGreatDoorRZFind
import Derived.Test.YtgafmklfpiipcaaGreatDoorRZLay
import Derived.Test.YtgafmklfpiipcaaGreatDoorHWords2
import Derived.Deep.RegionHeld3
namespace Go.Proofs.YtgafmklfpiipcaaGreatDoor
open Go.RowKit (Grown Hid Below)
open Go.Deep
namespace K
set_option maxRecDepth 100000
/-- A retire: its node; what comes next (0 leave, 1 find, 2 birth, 3 now); its find; was this owner the last one; when the node was born, and retired; is it done? -/
structure Rtm where
  h : Int
  nx : Nat
  f : Fm
  la : Bool
  bi : Int
  er : Int
  d : Bool
def rtS (h k : Int) : Rtm := ⟨plainV h, 0, fmS k, false, 0, 0, false⟩
def oneL : Int := 18446744073709551615
def Rtm.ow (s : Rtm) (c : Cfg) (cs : List Int) : Int := fd c cs (ixV s.h) 5
/-- The machine behind a step; the cells; the guard; how many accesses there were; the last one. -/
def rtF (c : Cfg) (cs : List Int) (cnt : Int) (g : Gs) (s : Rtm) : Rtm :=
  if s.d = true then s else
  match s.nx with
  | 0 => { s with la := decide (s.ow c cs = 1), nx := 1, d := !decide (s.ow c cs = 1) }
  | 1 => { s with f := fF c cs cnt g s.f, nx := if (fF c cs cnt g s.f).d = true then 2 else 1 }
  | 2 => { s with bi := fd c cs (ixV s.h) 3, nx := 3 }
  | _ => { s with er := rdG cs 0, d := true }
def rtC (c : Cfg) (cs : List Int) (g : Gs) (s : Rtm) : List Int :=
  if s.d = true then cs else
  match s.nx with
  | 0 => clV cs 4 (clV' c (ixV s.h) 5) 0 oneL
  | 1 => fC c cs g s.f
  | _ => cs
def rtG (c : Cfg) (g : Gs) (s : Rtm) : Gs := if s.d = true then g else if s.nx = 1 then fG c g s.f else g
def rtN (cnt : Int) (s : Rtm) : Int := if s.d = true then cnt else cnt + 1
def rtA (c : Cfg) (cs : List Int) (g : Gs) (s : Rtm) (a : Acc) : Acc :=
  if s.d = true then a else
  match s.nx with
  | 0 => acV cs 4 (clV' c (ixV s.h) 5) (plainV s.h) 0 oneL
  | 1 => fA c cs g s.f a
  | 2 => acV cs 1 (clV' c (ixV s.h) 3) (plainV s.h) 0 0
  | _ => acV cs 1 0 0 0 0
/-- A machine's numbers. -/
structure RtI (c : Cfg) (s : Rtm) : Prop where
  hW : isW s.h
  bW : isW s.bi
  eW : isW s.er
  nx : s.nx ≤ 3
  fi : FI c s.f
  pl : plainV s.h = s.h
  f0 : s.d = false → s.nx ≤ 1 → s.f.d = false
theorem pl_pl (x : Int) : plainV (plainV x) = plainV x := by unfold plainV; omega
theorem ix_pl (x : Int) : ixV (plainV x) = ixV x := by unfold ixV plainV; omega
theorem RtI.start {c : Cfg} (R : Rt c) {h : Int} (k : Int) (hh : isW h) : RtI c (rtS h k) :=
  ⟨pl_word hh, by show isW 0; unfold isW; omega, by show isW 0; unfold isW; omega, by show 0 ≤ 3; omega, FI.of_anew R 0, pl_pl h, fun _ _ => rfl⟩
section
variable {c : Cfg} {cs : List Int} {cnt : Int} {g : Gs} {s : Rtm}
theorem rtF_0 (hd : s.d = false) (e : s.nx = 0) : rtF c cs cnt g s = { s with la := decide (s.ow c cs = 1), nx := 1, d := !decide (s.ow c cs = 1) } ∧ rtC c cs g s = clV cs 4 (clV' c (ixV s.h) 5) 0 oneL ∧ rtG c g s = g := by
  have h : ¬ s.d = true := by rw [hd]; decide
  unfold rtF rtC rtG
  rw [if_neg h, if_neg h, if_neg h, if_neg (show ¬ s.nx = 1 by omega), e]
  exact ⟨rfl, rfl, rfl⟩
theorem rtF_1 (hd : s.d = false) (e : s.nx = 1) : rtF c cs cnt g s = { s with f := fF c cs cnt g s.f, nx := if (fF c cs cnt g s.f).d = true then 2 else 1 } ∧ rtC c cs g s = fC c cs g s.f ∧ rtG c g s = fG c g s.f := by
  have h : ¬ s.d = true := by rw [hd]; decide
  unfold rtF rtC rtG
  rw [if_neg h, if_neg h, if_neg h, if_pos e, e]
  exact ⟨rfl, rfl, rfl⟩
theorem rtF_2 (hd : s.d = false) (e : s.nx = 2) : rtF c cs cnt g s = { s with bi := fd c cs (ixV s.h) 3, nx := 3 } ∧ rtC c cs g s = cs ∧ rtG c g s = g := by
  have h : ¬ s.d = true := by rw [hd]; decide
  unfold rtF rtC rtG
  rw [if_neg h, if_neg h, if_neg h, if_neg (show ¬ s.nx = 1 by omega), e]
  exact ⟨rfl, rfl, rfl⟩
theorem rtF_3 (hd : s.d = false) (e : s.nx = 3) : rtF c cs cnt g s = { s with er := rdG cs 0, d := true } ∧ rtC c cs g s = cs ∧ rtG c g s = g := by
  have h : ¬ s.d = true := by rw [hd]; decide
  unfold rtF rtC rtG
  rw [if_neg h, if_neg h, if_neg h, if_neg (show ¬ s.nx = 1 by omega), e]
  exact ⟨rfl, rfl, rfl⟩
theorem rtF_done (hd : s.d = true) : rtF c cs cnt g s = s ∧ rtC c cs g s = cs ∧ rtG c g s = g ∧ rtN cnt s = cnt := by
  unfold rtF rtC rtG rtN
  rw [if_pos hd, if_pos hd, if_pos hd, if_pos hd]; exact ⟨rfl, rfl, rfl, rfl⟩
theorem rtN_no (hd : s.d = false) : rtN cnt s = cnt + 1 := if_neg (by rw [hd]; decide)
theorem RtI.step (R : Rt c) (h : RtI c s) (hw : Wds cs) (cnt : Int) (g : Gs) : RtI c (rtF c cs cnt g s) := by
  cases hd : s.d with
  | true => rw [(rtF_done (c := c) (cs := cs) (cnt := cnt) (g := g) hd).1]; exact h
  | false =>
    rcases (by have := h.nx; omega : s.nx = 0 ∨ s.nx = 1 ∨ s.nx = 2 ∨ s.nx = 3) with e | e | e | e
    · rw [(rtF_0 (c := c) (cs := cs) (cnt := cnt) (g := g) hd e).1]
      exact ⟨h.hW, h.bW, h.eW, by show 1 ≤ 3; omega, h.fi, h.pl, fun _ _ => h.f0 hd (by omega)⟩
    · rw [(rtF_1 (c := c) (cs := cs) (cnt := cnt) (g := g) hd e).1]
      refine ⟨h.hW, h.bW, h.eW, by show (if (fF c cs cnt g s.f).d = true then 2 else 1) ≤ 3; split <;> omega, h.fi.step R hw cnt g, h.pl, fun _ z => ?_⟩
      have z' : (if (fF c cs cnt g s.f).d = true then 2 else 1) ≤ 1 := z
      show (fF c cs cnt g s.f).d = false
      split at z'
      · omega
      · rename_i q; simpa using q
    · rw [(rtF_2 (c := c) (cs := cs) (cnt := cnt) (g := g) hd e).1]
      exact ⟨h.hW, fd_word hw _ _, h.eW, by show 3 ≤ 3; omega, h.fi, h.pl, fun _ z => absurd z (by show ¬ 3 ≤ 1; omega)⟩
    · rw [(rtF_3 (c := c) (cs := cs) (cnt := cnt) (g := g) hd e).1]
      exact ⟨h.hW, h.bW, rd_word hw _, h.nx, h.fi, h.pl, fun z _ => absurd z (by show ¬ true = false; decide)⟩
theorem wds_add {cs : List Int} (h : Wds cs) (x v : Int) : Wds (clV cs 4 x 0 v) := by
  unfold Go.Proofs.YtgafmklfpiipcaaGreatDoor.clV; split
  · refine wds_set h _ ?_
    unfold bhV isW
    simp only [add64, IntKind.wrap_u64]
    simp
    omega
  · exact h
theorem rtC_wds (h : RtI c s) (hw : Wds cs) : Wds (rtC c cs g s) := by
  unfold rtC
  split
  · exact hw
  · split
    · exact wds_add hw _ _
    · exact fC_wds hw h.fi
    · exact hw
theorem rtC_len (c : Cfg) (cs : List Int) (g : Gs) (s : Rtm) : (rtC c cs g s).length = cs.length := by
  unfold rtC
  split
  · rfl
  · split
    · exact clV_len _ _ _ _ _
    · exact fC_len _ _ _ _
    · rfl
end
theorem add_o (cs : List Int) (x via old v : Int) : (acV cs 4 x via old v).o = rdG cs x := by unfold rdG acV; split <;> rfl
/-- What a field tells behind adding to one that there is. -/
theorem fd_add {c : Cfg} {cs : List Int} (hl : (cs.length : Int) = lnV c) {i f : Int} (h : inF c i f) (v i' f' : Int) : fd c (clV cs 4 (clV' c i f) 0 v) i' f' = if i' = i ∧ f' = f then add64 (fd c cs i f) v else fd c cs i' f' := by
  have hx := cl_has hl h
  have e0 : fd c cs i f = cs.getD (clV' c i f).toNat 0 := by unfold fd; rw [rdG_eq, if_pos hx]
  unfold fd
  rw [rd_set cs 4 (clV' c i f) (clV' c i' f') v hx (add64 (fd c cs i f) v) (by rw [e0]; simp [bhV])]
  by_cases he : i' = i ∧ f' = f
  · obtain ⟨rfl, rfl⟩ := he
    rw [if_pos rfl, if_pos ⟨rfl, rfl⟩]; rfl
  · rw [if_neg he]
    by_cases e : clV' c i' f' = clV' c i f
    · exfalso
      have h' : inF c i' f' := by
        by_cases h' : inF c i' f'
        · exact h'
        · have e2 : clV' c i' f' = -1 := if_neg h'
          have := hx.1; omega
      exact he (cl_inj h' h e)
    · rw [if_neg e]
theorem clk_add {c : Cfg} {cs : List Int} (hl : (cs.length : Int) = lnV c) {i f : Int} (h : inF c i f) (v : Int) : rdG (clV cs 4 (clV' c i f) 0 v) 0 = rdG cs 0 := by
  have hx := cl_has hl h
  have e2 : clV' c i f = 1 + c.t * c.s + i * (6 + c.h) + f := if_pos h
  have z := (fld_wh h).2.1
  have := ts_bd (riB_true.1 h.1)
  rw [rd_set cs 4 (clV' c i f) 0 v hx _ rfl, if_neg (by omega)]
theorem add_less {x : Int} (h : 1 ≤ x) (h2 : x < 18446744073709551616) : add64 x oneL = x - 1 := by
  unfold add64 oneL; rw [IntKind.wrap_u64]; omega
theorem clk_tick {c : Cfg} {cs : List Int} (hr : riB c = true) (hl : (cs.length : Int) = lnV c) {T : Int} (e : rdG cs 0 = T) (h : 0 ≤ T ∧ T < 18446744073709551615) : rdG (clV cs 4 0 0 1) 0 = T + 1 := by
  have R := riB_true.1 hr
  have c0 := R.c0
  have h0 := R.h0
  have i0 : inF c 0 0 := ⟨hr, by omega, by omega, by omega, by omega⟩
  have hx := cl_has hl i0
  have h2 : hasC cs 0 := by
    unfold hasC at hx ⊢
    omega
  rw [rd_tick cs h2, e]
  unfold add64; rw [IntKind.wrap_u64]; omega
/-- What a step of a find, alone, leaves as it was: all but one word, that of a node that is not deleted on the level. -/
theorem Iv.keep {c : Cfg} {l : Nd} {k : Int} {cs : List Int} {f : Fm} {N : Nat → Nat → Nat} {rp rs : Nat → Nat} {p : Nat} (hr : riB c = true) (ok : l.ok c) (hl : (cs.length : Int) = lnV c) (h : Iv c l k cs f N rp rs p) (hd : f.d = false) (g : Gs) {i F : Nat} (hi : i ≤ l.n) (hF : F < 6) : fd c (fC c cs g f) i F = fd c cs i F := by
  have R := riB_true.1 hr
  have hdn : f.dn < HN c := by
    have z := h.d; rw [hd] at z
    have := of_decide_eq_false z.symm; omega
  have r := h.run hdn
  unfold fC
  rw [if_neg (by rw [hd]; decide)]
  by_cases e2 : f.nx = 2
  · rw [if_pos e2]; exact fd_pub _ _ _ _ _ _ _
  · rw [if_neg e2]
    by_cases e4 : f.nx = 4
    · rw [if_pos e4]
      have px : ixV f.pr = p := by rw [r.pr]; exact hw_ix (by have := r.pl.1; have := n_lt R ok; omega)
      have hc := inF_of hr ok (i := p) (f := 6 + (HN c - 1 - f.dn)) r.pl.1 (by omega)
      have op := r.pl.on ok
      have hx := r.xn (by omega)
      have hw0 : rdG cs (clV' c p (6 + (HN c - 1 - f.dn) : Nat)) = f.x := by
        have z := h.rep.nx _ p op
        rw [live_um r.pl, nw_hw hx, ← r.x (by omega) (by omega)] at z
        exact z
      have hi' := inF_of hr ok (i := i) (f := F) hi (by omega)
      unfold fd
      rw [px, lv_eq R hdn, (rd_swap cs _ _ _ _ (cl_has hl hc) hw0).1, if_neg]
      intro z
      have q := cl_inj hi' hc z
      omega
    · rw [if_neg e4]
/-! How many steps are left while the clock stands. -/
def nu (c : Cfg) (l : Nd) (cs : List Int) (g : Gs) (f : Fm) (N : Nat → Nat → Nat) (p : Nat) : Int :=
  if f.nx = 2 then (if f.era = rdG cs 0 then full c l + 1 else full c l + 4 + HN c)
  else if g.l = rdG cs 0 then bs c l f N p
  else if f.nx = 0 then full c l + 3 + ((HN c : Int) - f.dn)
  else if f.nx = 1 then full c l + 2
  else if f.nx = 3 then full c l + 5 + ((HN c : Int) - f.dn)
  else full c l + 4 + ((HN c : Int) - f.dn)
theorem dn_lt {c : Cfg} {l : Nd} {k : Int} {cs : List Int} {f : Fm} {N : Nat → Nat → Nat} {rp rs : Nat → Nat} {p : Nat} (h : Iv c l k cs f N rp rs p) (hd : f.d = false) : f.dn < HN c := by
  have z := h.d; rw [hd] at z
  have := of_decide_eq_false z.symm; omega
theorem bs_full {c : Cfg} {l : Nd} {k : Int} {cs : List Int} {f : Fm} {N : Nat → Nat → Nat} {rp rs : Nat → Nat} {p : Nat} (ok : l.ok c) (h : Iv c l k cs f N rp rs p) (hd : f.d = false) : bs c l f N p ≤ full c l := by
  have hdn := dn_lt h hd
  have r := h.run hdn
  have lt := h.sk.lt _ p (r.pl.on ok)
  unfold bs full
  obtain ⟨M, hM⟩ : ∃ M, HN c - 1 - f.dn = M := ⟨_, rfl⟩
  rw [hM] at lt ⊢
  have hz : bsL l f.nx (N M p) ≤ 4 * l.n + 1 := by
    have z := bsL_nx l (N M p : Nat)
    rcases (by have := r.nx; omega : f.nx = 0 ∨ f.nx = 1 ∨ f.nx = 2 ∨ f.nx = 3 ∨ f.nx = 4 ∨ f.nx = 5) with e | e | e | e | e | e <;> rw [e] <;> omega
  have hm : ((M : Nat) : Int) * (4 * (l.n : Int) + 1) + (4 * l.n + 1) = (((M + 1 : Nat) : Int)) * (4 * (l.n : Int) + 1) := by
    rw [Int.natCast_add, Int.natCast_one, Int.add_mul, Int.one_mul]
  have hq : (((M + 1 : Nat) : Int)) * (4 * (l.n : Int) + 1) ≤ ((HN c : Nat) : Int) * (4 * (l.n : Int) + 1) := Int.mul_le_mul_of_nonneg_right (by omega) (by omega)
  omega
theorem nu_pos {c : Cfg} {l : Nd} {k : Int} {cs : List Int} {g : Gs} {f : Fm} {N : Nat → Nat → Nat} {rp rs : Nat → Nat} {p : Nat} (ok : l.ok c) (h : Iv c l k cs f N rp rs p) (hd : f.d = false) : 1 ≤ nu c l cs g f N p := by
  have h1 := bs_pos ok h hd
  have h2 := full_nn c l
  have hdn := dn_lt h hd
  unfold nu
  split
  · split <;> omega
  · split
    · exact h1
    · split
      · omega
      · split
        · omega
        · split <;> omega
theorem nu_le {c : Cfg} {l : Nd} {k : Int} {cs : List Int} {g : Gs} {f : Fm} {N : Nat → Nat → Nat} {rp rs : Nat → Nat} {p : Nat} (ok : l.ok c) (h : Iv c l k cs f N rp rs p) (hd : f.d = false) : nu c l cs g f N p ≤ full c l + HN c + 5 := by
  have h1 := bs_full ok h hd
  unfold nu
  split
  · split <;> omega
  · split
    · omega
    · split
      · omega
      · split
        · omega
        · split <;> omega
/-- A step: fewer are left, or it is done. -/
theorem nu_step {c : Cfg} {l : Nd} {k : Int} {cs : List Int} {f : Fm} {N : Nat → Nat → Nat} {rp rs : Nat → Nat} {p : Nat} (hr : riB c = true) (ok : l.ok c) (hl : (cs.length : Int) = lnV c) (h : Iv c l k cs f N rp rs p) (hd : f.d = false) (cnt : Int) (g : Gs) :
    ∃ N' rp' rs' p', Iv c l k (fC c cs g f) (fF c cs cnt g f) N' rp' rs' p' ∧ ((fF c cs cnt g f).d = true ∨ nu c l (fC c cs g f) (fG c g f) (fF c cs cnt g f) N' p' ≤ nu c l cs g f N p - 1) := by
  obtain ⟨N', rp', rs', p', I, le, _⟩ := h.step hr ok hl hd cnt g
  refine ⟨N', rp', rs', p', I, ?_⟩
  have ck := clock_step hr ok hl h hd g
  have R := riB_true.1 hr
  have hn := n_lt R ok
  rcases le with dn | le
  · exact Or.inl dn
  cases hdd : (fF c cs cnt g f).d with
  | true => exact Or.inl rfl
  | false =>
  right
  have hdn := dn_lt h hd
  have hdn' := dn_lt I hdd
  have bf := bs_full ok I hdd
  have r := h.run hdn
  have nd : ¬ f.d = true := by rw [hd]; decide
  by_cases e2 : f.nx = 2
  · have eg : fG c g f = pubG c g f.era := by unfold fG; rw [if_neg nd, if_pos e2]
    have ef : fF c cs cnt g f = if g.u < c.s then { f with nx := 0 } else f.anew f.at_ := by
      unfold fF; rw [if_neg nd, e2]; rfl
    have hnx : (fF c cs cnt g f).nx = 0 := by rw [ef]; split <;> rfl
    unfold nu
    rw [if_pos e2, if_neg (show ¬ (fF c cs cnt g f).nx = 2 by omega), ck, eg]
    show (if f.era = rdG cs 0 then _ else _) ≤ (if f.era = rdG cs 0 then _ else _) - 1
    by_cases q : f.era = rdG cs 0
    · rw [if_pos q, if_pos q]; omega
    · rw [if_neg q, if_neg q, if_pos hnx]; omega
  · rw [if_neg e2] at le
    have eg : fG c g f = g := by unfold fG; rw [if_neg nd, if_neg e2]
    unfold nu
    rw [eg, ck, if_neg e2]
    rcases (by have := r.nx; omega : f.nx = 0 ∨ f.nx = 1 ∨ f.nx = 3 ∨ f.nx = 4 ∨ f.nx = 5) with e | e | e | e | e
    · have ef : fF c cs cnt g f = if mkB (rdW c cs f) = true then f.anew (atF c cnt f) else if vlB (rdW c cs f) = false then f.ended c (atF c cnt f) 0 0 else { f with x := rdW c cs f, nx := 1, at_ := atF c cnt f } := by unfold fF; rw [if_neg nd, e]; rfl
      have px : ixV f.pr = p := by rw [r.pr]; exact hw_ix (by have := r.pl.1; omega)
      have op := r.pl.on ok
      have w0 : rdW c cs f = nw l.n (N (HN c - 1 - f.dn) p) false := by
        unfold rdW; rw [px, lv_eq R hdn, h.rep.nx _ p op, live_um r.pl]
      rw [w0, nw_mk hn, if_neg (by decide)] at ef
      by_cases hx : vlB (nw l.n (N (HN c - 1 - f.dn) p) false) = false
      · rw [if_pos hx] at ef
        have n0 : (fF c cs cnt g f).nx = 0 := by rw [ef]; rfl
        have n1 : (fF c cs cnt g f).dn = f.dn + 1 := by rw [ef]; rfl
        rw [n0, n1, if_neg (by decide), if_pos e]
        split
        · exact le
        · rw [if_pos rfl]; omega
      · rw [if_neg hx] at ef
        have n0 : (fF c cs cnt g f).nx = 1 := by rw [ef]
        rw [n0, if_neg (by decide), if_pos e]
        split
        · exact le
        · rw [if_neg (by decide), if_pos rfl]; omega
    · have ef : fF c cs cnt g f = { f with era := rdG cs 0, nx := if rdG cs 0 = g.l then 3 else 2 } := by unfold fF; rw [if_neg nd, e]; rfl
      by_cases q : g.l = rdG cs 0
      · have n0 : (fF c cs cnt g f).nx = 3 := by rw [ef]; show (if rdG cs 0 = g.l then 3 else 2) = 3; rw [if_pos q.symm]
        rw [n0, if_neg (by decide), if_pos q, if_pos q]; exact le
      · have n0 : (fF c cs cnt g f).nx = 2 := by rw [ef]; show (if rdG cs 0 = g.l then 3 else 2) = 2; rw [if_neg (fun z => q z.symm)]
        have n1 : (fF c cs cnt g f).era = rdG cs 0 := by rw [ef]
        rw [n0, n1, if_pos rfl, if_pos rfl, if_neg q, if_neg (by omega), if_pos e]; omega
    · have ef : fF c cs cnt g f = { f with s := fd c cs (ixV f.x) (6 + lv c f), nx := if mkB (fd c cs (ixV f.x) (6 + lv c f)) = true then 4 else 5 } := by unfold fF; rw [if_neg nd, e]; rfl
      have n1 : (fF c cs cnt g f).dn = f.dn := by rw [ef]
      have n0 : (fF c cs cnt g f).nx = 4 ∨ (fF c cs cnt g f).nx = 5 := by
        rw [ef]
        show (if mkB (fd c cs (ixV f.x) (6 + lv c f)) = true then 4 else 5) = 4 ∨ (if mkB (fd c cs (ixV f.x) (6 + lv c f)) = true then 4 else 5) = 5
        split
        · exact Or.inl rfl
        · exact Or.inr rfl
      rw [n1, if_neg (by omega)]
      split
      · exact le
      · rw [if_neg (by omega), if_neg (by omega), if_neg (by omega), if_neg (by omega), if_neg (by omega)]; omega
    · have hx := r.xn (by omega)
      obtain ⟨dx, es⟩ := r.s4 e
      have ex := r.x (by omega) (by omega)
      have px : ixV f.pr = p := by rw [r.pr]; exact hw_ix (by have := r.pl.1; omega)
      have rp2 := Rep.unl hr ok hl h.rep (show HN c - 1 - f.dn < HN c by omega) r.pl hx
      have eS : plainV f.s = nw l.n (N (HN c - 1 - f.dn) (N (HN c - 1 - f.dn) p)) false := by rw [es]; exact nw_pl hn true
      have ef : fF c cs cnt g f = if (acV cs 3 (clV' c (ixV f.pr) (6 + lv c f)) (plainV f.pr) f.x (plainV f.s)).d = true then { f with nx := 0 } else f.anew f.at_ := by unfold fF; rw [if_neg nd, e]; rfl
      have hcond : (acV cs 3 (clV' c (ixV f.pr) (6 + lv c f)) (plainV f.pr) f.x (plainV f.s)).d = true := by rw [px, lv_eq R hdn, ex, eS]; exact rp2.2 _
      rw [if_pos hcond] at ef
      have n0 : (fF c cs cnt g f).nx = 0 := by rw [ef]
      have n1 : (fF c cs cnt g f).dn = f.dn := by rw [ef]
      rw [n0, n1, if_neg (by decide)]
      split
      · exact le
      · rw [if_pos rfl, if_neg (by omega), if_neg (by omega), if_neg (by omega)]; omega
    · have ef : fF c cs cnt g f = if f.k ≤ fd c cs (ixV f.x) 1 then f.ended c f.at_ f.x (fd c cs (ixV f.x) 1) else { f with pr := f.x, nx := 0 } := by unfold fF; rw [if_neg nd, e]; rfl
      have n0 : (fF c cs cnt g f).nx = 0 := by rw [ef]; split <;> rfl
      have n1 : f.dn ≤ (fF c cs cnt g f).dn := by
        rw [ef]; split
        · show f.dn ≤ f.dn + 1; omega
        · exact Nat.le_refl _
      rw [n0, if_neg (by decide)]
      split
      · exact le
      · rw [if_pos rfl, if_neg (by omega), if_neg (by omega), if_neg (by omega)]; omega
/-- The clock goes on. -/
theorem Iv.tick {c : Cfg} {l : Nd} {k : Int} {cs : List Int} {f : Fm} {N : Nat → Nat → Nat} {rp rs : Nat → Nat} {p : Nat} (h : Iv c l k cs f N rp rs p) : Iv c l k (clV cs 4 0 0 1) f N rp rs p :=
  ⟨h.rep.same (fun i f' => fd_tick c cs i f'), h.sk, h.fk, h.dn, h.d, h.ps, h.ss, h.ks, h.res, h.run⟩
theorem full_bd {c : Cfg} {l : Nd} (R : Rt c) (ok : l.ok c) : full c l + HN c + 9 ≤ 1560 := by
  have hh := HN_eq R
  have := R.h1
  have := R.c1
  have n := ok.n
  have z : ((HN c : Nat) : Int) * (4 * (l.n : Int) + 1) ≤ 6 * 257 := Int.mul_le_mul (by omega) (by omega) (by omega) (by omega)
  unfold full; omega
/-! A retire, alone, of a node that is deleted on all its levels. -/
structure Rv (c : Cfg) (l : Nd) (z : Nat) (cs : List Int) (g : Gs) (s : Rtm) (B left : Int) : Prop where
  ok : l.ok c
  hr : riB c = true
  z1 : 1 ≤ z
  zn : z ≤ l.n
  uz : l.um z = 0
  sh : s.h = hw z
  ln : (cs.length : Int) = lnV c
  b : fd c cs z 3 = B
  l0 : 0 ≤ left
  ph : (s.d = false ∧ s.nx = 0 ∧ s.f = fmS (l.K z) ∧ fd c cs z 5 = 1 ∧ (∃ N, Rep c l cs N ∧ Sk l N) ∧ full c l + HN c + 9 ≤ left)
    ∨ (s.d = false ∧ s.la = true ∧ s.nx = 1 ∧ s.f.d = false ∧ fd c cs z 5 = 0 ∧ ∃ N rp rs p, Iv c l (l.K z) cs s.f N rp rs p ∧ nu c l cs g s.f N p + 2 ≤ left)
    ∨ (s.d = false ∧ s.la = true ∧ s.nx = 2 ∧ s.f.d = true ∧ fd c cs z 5 = 0 ∧ (∃ N rp rs p, Iv c l (l.K z) cs s.f N rp rs p) ∧ 2 ≤ left)
    ∨ (s.d = false ∧ s.la = true ∧ s.nx = 3 ∧ s.f.d = true ∧ s.bi = B ∧ fd c cs z 5 = 0 ∧ (∃ N rp rs p, Iv c l (l.K z) cs s.f N rp rs p) ∧ 1 ≤ left)
    ∨ (s.d = true ∧ s.la = true ∧ s.f.d = true ∧ s.bi = B ∧ fd c cs z 5 = 0 ∧ ∃ N rp rs p, Iv c l (l.K z) cs s.f N rp rs p)
theorem z_lt {c : Cfg} {l : Nd} {z : Nat} {cs : List Int} {g : Gs} {s : Rtm} {B left : Int} (h : Rv c l z cs g s B left) : z < 4294967296 := by
  have := n_lt (riB_true.1 h.hr) h.ok
  have := h.zn
  omega
theorem Rep.anew {c : Cfg} {l : Nd} {cs : List Int} {N : Nat → Nat → Nat} (R : Rt c) (ok : l.ok c) (rep : Rep c l cs N) (sk : Sk l N) (k : Int) : Iv c l k cs (fmS k) N (fun _ => 0) (fun _ => 0) 0 :=
  Iv.of_anew (f := ⟨k, 0, 0, 0, 0, 0, 0, [], [], [], 0, false⟩) R ok rep sk rfl 0 _ _
theorem Rv.step {c : Cfg} {l : Nd} {z : Nat} {cs : List Int} {g : Gs} {s : Rtm} {B left : Int} (h : Rv c l z cs g s B left) (cnt : Int) :
    Rv c l z (rtC c cs g s) (rtG c g s) (rtF c cs cnt g s) B (if left = 0 then 0 else left - 1) ∧ rdG (rtC c cs g s) 0 = rdG cs 0 ∧ ((rtF c cs cnt g s).d = true → (rtF c cs cnt g s).er = if s.d = true then s.er else rdG cs 0) := by
  have R := riB_true.1 h.hr
  have zx : ixV s.h = z := by rw [h.sh]; exact hw_ix (z_lt h)
  have l0 := h.l0
  have i5 := inF_of h.hr h.ok (i := z) (f := 5) h.zn (by omega)
  rcases h.ph with ⟨hd, nx, ef, ow, ⟨N, rep, sk⟩, le⟩ | ⟨hd, la, nx, fd0, o0, N, rp, rs, p, I, le⟩ | ⟨hd, la, nx, fd1, o0, I, le⟩ | ⟨hd, la, nx, fd1, eb, o0, I, le⟩ | ⟨hd, la, fd1, eb, o0, I⟩
  · obtain ⟨e1, e2, e3⟩ := rtF_0 (c := c) (cs := cs) (cnt := cnt) (g := g) hd nx
    have eo : s.ow c cs = 1 := by unfold Rtm.ow; rw [zx]; exact ow
    rw [eo] at e1
    rw [zx] at e2
    rw [e1, e2, e3]
    have i5' : inF c (z : Int) (5 : Int) := i5
    have ad := fun (i' f' : Int) => fd_add h.ln i5' oneL i' f'
    have fn := full_nn c l
    have rep' : Rep c l (clV cs 4 (clV' c z 5) 0 oneL) N := by
      refine ⟨fun L i hi => ?_, fun i a b => ?_⟩
      · rw [ad, if_neg (by omega)]; exact rep.nx L i hi
      · rw [ad, if_neg (by omega)]; exact rep.ky i a b
    have I := Rep.anew R h.ok rep' sk (l.K z)
    refine ⟨⟨h.ok, h.hr, h.z1, h.zn, h.uz, h.sh, by rw [clV_len]; exact h.ln, by rw [ad, if_neg (by omega)]; exact h.b, by split <;> omega, ?_⟩, clk_add h.ln i5' _, fun q => absurd q (by simp)⟩
    refine Or.inr (Or.inl ⟨by simp, by simp, rfl, by show s.f.d = false; rw [ef]; rfl, ?_, N, _, _, _, by show Iv c l (l.K z) _ s.f N _ _ _; rw [ef]; exact I, ?_⟩)
    · rw [ad, if_pos ⟨rfl, rfl⟩]
      have e5 : fd c cs (z : Int) 5 = 1 := ow
      rw [e5]; exact add_less (by omega) (by omega)
    · have nl := nu_le (g := g) h.ok I rfl
      show nu c l (clV cs 4 (clV' c z 5) 0 oneL) g s.f N 0 + 2 ≤ _
      rw [ef, if_neg (by omega)]; omega
  · obtain ⟨e1, e2, e3⟩ := rtF_1 (c := c) (cs := cs) (cnt := cnt) (g := g) hd nx
    rw [e1, e2, e3]
    obtain ⟨N', rp', rs', p', I', le'⟩ := nu_step h.hr h.ok h.ln I fd0 cnt g
    have ck := clock_step h.hr h.ok h.ln I fd0 g
    have np := nu_pos (g := g) h.ok I fd0
    have kp := fun (F : Nat) (hF : F < 6) => Iv.keep h.hr h.ok h.ln I fd0 g (i := z) (F := F) h.zn hF
    have k3 : fd c (fC c cs g s.f) z 3 = fd c cs z 3 := kp 3 (by omega)
    have k5 : fd c (fC c cs g s.f) z 5 = fd c cs z 5 := kp 5 (by omega)
    refine ⟨⟨h.ok, h.hr, h.z1, h.zn, h.uz, h.sh, by rw [fC_len]; exact h.ln, k3.trans h.b, by split <;> omega, ?_⟩, ck, fun q => absurd q (by show ¬ s.d = true; rw [hd]; decide)⟩
    cases hdd : (fF c cs cnt g s.f).d with
    | true => exact Or.inr (Or.inr (Or.inl ⟨hd, la, rfl, rfl, k5.trans o0, ⟨N', rp', rs', p', I'⟩, by split <;> omega⟩))
    | false =>
      refine Or.inr (Or.inl ⟨hd, la, rfl, rfl, k5.trans o0, N', rp', rs', p', I', ?_⟩)
      rcases le' with q | q
      · rw [hdd] at q; cases q
      · show nu c l (fC c cs g s.f) (fG c g s.f) (fF c cs cnt g s.f) N' p' + 2 ≤ _
        rw [if_neg (by omega)]; omega
  · obtain ⟨e1, e2, e3⟩ := rtF_2 (c := c) (cs := cs) (cnt := cnt) (g := g) hd nx
    rw [e1, e2, e3, zx]
    exact ⟨⟨h.ok, h.hr, h.z1, h.zn, h.uz, h.sh, h.ln, h.b, by split <;> omega, Or.inr (Or.inr (Or.inr (Or.inl ⟨hd, la, rfl, fd1, h.b, o0, I, by split <;> omega⟩)))⟩, rfl, fun q => absurd q (by show ¬ s.d = true; rw [hd]; decide)⟩
  · obtain ⟨e1, e2, e3⟩ := rtF_3 (c := c) (cs := cs) (cnt := cnt) (g := g) hd nx
    rw [e1, e2, e3]
    exact ⟨⟨h.ok, h.hr, h.z1, h.zn, h.uz, h.sh, h.ln, h.b, by split <;> omega, Or.inr (Or.inr (Or.inr (Or.inr ⟨rfl, la, fd1, eb, o0, I⟩)))⟩, rfl, fun _ => by rw [hd]; rfl⟩
  · obtain ⟨e1, e2, e3, _⟩ := rtF_done (c := c) (cs := cs) (cnt := cnt) (g := g) hd
    rw [e1, e2, e3]
    exact ⟨⟨h.ok, h.hr, h.z1, h.zn, h.uz, h.sh, h.ln, h.b, by split <;> omega, Or.inr (Or.inr (Or.inr (Or.inr ⟨hd, la, fd1, eb, o0, I⟩)))⟩, rfl, fun _ => by rw [if_pos hd]⟩
/-- The clock goes on; the same, over any words that tell the same of the nodes. -/
theorem Rv.any {c : Cfg} {l : Nd} {z : Nat} {cs : List Int} {g : Gs} {s : Rtm} {B left left' : Int} (h : Rv c l z cs g s B left) (hl : full c l + HN c + 9 ≤ left') (g' : Gs) : Rv c l z cs g' s B left' := by
  have fn := full_nn c l
  refine ⟨h.ok, h.hr, h.z1, h.zn, h.uz, h.sh, h.ln, h.b, by omega, ?_⟩
  rcases h.ph with ⟨hd, nx, ef, ow, q, le⟩ | ⟨hd, la, nx, fd0, o0, N, rp, rs, p, I, le⟩ | ⟨hd, la, nx, fd1, o0, I, le⟩ | ⟨hd, la, nx, fd1, eb, o0, I, le⟩ | ⟨hd, la, fd1, eb, o0, I⟩
  · exact Or.inl ⟨hd, nx, ef, ow, q, hl⟩
  · exact Or.inr (Or.inl ⟨hd, la, nx, fd0, o0, N, rp, rs, p, I, by have := nu_le (g := g') h.ok I fd0; omega⟩)
  · exact Or.inr (Or.inr (Or.inl ⟨hd, la, nx, fd1, o0, I, by omega⟩))
  · exact Or.inr (Or.inr (Or.inr (Or.inl ⟨hd, la, nx, fd1, eb, o0, I, by omega⟩)))
  · exact Or.inr (Or.inr (Or.inr (Or.inr ⟨hd, la, fd1, eb, o0, I⟩)))
theorem Rv.tick {c : Cfg} {l : Nd} {z : Nat} {cs : List Int} {g : Gs} {s : Rtm} {B left left' : Int} (h : Rv c l z cs g s B left) (hl : full c l + HN c + 9 ≤ left') : Rv c l z (clV cs 4 0 0 1) g s B left' := by
  have fn := full_nn c l
  have t := fun i f' => fd_tick c cs i f'
  refine ⟨h.ok, h.hr, h.z1, h.zn, h.uz, h.sh, by rw [clV_len]; exact h.ln, by rw [t]; exact h.b, by omega, ?_⟩
  rcases h.ph with ⟨hd, nx, ef, ow, ⟨N, rep, sk⟩, le⟩ | ⟨hd, la, nx, fd0, o0, N, rp, rs, p, I, le⟩ | ⟨hd, la, nx, fd1, o0, ⟨N, rp, rs, p, I⟩, le⟩ | ⟨hd, la, nx, fd1, eb, o0, ⟨N, rp, rs, p, I⟩, le⟩ | ⟨hd, la, fd1, eb, o0, N, rp, rs, p, I⟩
  · exact Or.inl ⟨hd, nx, ef, by rw [t]; exact ow, ⟨N, rep.same t, sk⟩, hl⟩
  · exact Or.inr (Or.inl ⟨hd, la, nx, fd0, by rw [t]; exact o0, N, rp, rs, p, I.tick, by have := nu_le (g := g) h.ok I.tick fd0; omega⟩)
  · exact Or.inr (Or.inr (Or.inl ⟨hd, la, nx, fd1, by rw [t]; exact o0, ⟨N, rp, rs, p, I.tick⟩, by omega⟩))
  · exact Or.inr (Or.inr (Or.inr (Or.inl ⟨hd, la, nx, fd1, eb, by rw [t]; exact o0, ⟨N, rp, rs, p, I.tick⟩, by omega⟩)))
  · exact Or.inr (Or.inr (Or.inr (Or.inr ⟨hd, la, fd1, eb, by rw [t]; exact o0, N, rp, rs, p, I.tick⟩)))
/-- Nothing is left: it is done. -/
theorem Rv.fin {c : Cfg} {l : Nd} {z : Nat} {cs : List Int} {g : Gs} {s : Rtm} {B left : Int} (h : Rv c l z cs g s B left) (h0 : left = 0) : s.d = true ∧ s.la = true ∧ s.bi = B ∧ fd c cs z 5 = 0 := by
  have fn := full_nn c l
  rcases h.ph with ⟨_, _, _, _, _, le⟩ | ⟨hd, la, nx, fd0, o0, N, rp, rs, p, I, le⟩ | ⟨_, _, _, _, _, _, le⟩ | ⟨_, _, _, _, _, _, _, le⟩ | ⟨hd, la, fd1, eb, o0, I⟩
  · omega
  · have := nu_pos (g := g) h.ok I fd0; omega
  · omega
  · omega
  · exact ⟨hd, la, eb, o0⟩
/-- Words along which a walk comes by no field of the node. -/
def Unl (c : Cfg) (l : Nd) (z : Nat) (cs : List Int) : Prop := ∀ L, L < HN c → ∃ P : Nat → Prop, (∀ j, P j → ¬ j = z) ∧ (∃ j, fd c cs 0 (6 + L : Nat) = nw l.n j false ∧ 1 ≤ j ∧ j ≤ l.n + 1 ∧ (j ≤ l.n → P j)) ∧ ∀ i, P i → ∃ j b, fd c cs i (6 + L : Nat) = nw l.n j b ∧ (j ≤ l.n → P j)
theorem Rv.unl {c : Cfg} {l : Nd} {z : Nat} {cs : List Int} {g : Gs} {s : Rtm} {B left : Int} (h : Rv c l z cs g s B left) (fd1 : s.f.d = true) : Unl c l z cs := by
  have key : ∃ N rp rs p, Iv c l (l.K z) cs s.f N rp rs p := by
    rcases h.ph with ⟨_, _, ef, _⟩ | ⟨_, _, _, fd0, _⟩ | ⟨_, _, _, _, _, I, _⟩ | ⟨_, _, _, _, _, _, I, _⟩ | ⟨_, _, _, _, _, I⟩
    · rw [ef] at fd1; cases fd1
    · rw [fd0] at fd1; cases fd1
    · exact I
    · exact I
    · exact I
  obtain ⟨N, rp, rs, p, I⟩ := key
  intro L hL
  obtain ⟨P, S, p0, on0, go, no⟩ := I.level h.ok fd1 hL
  have nz : ¬ Pst P S z := no z h.z1 h.zn rfl (fun q => by have := q.2; rw [h.uz] at this; omega)
  have o0 : On l L 0 := ⟨Nat.zero_le _, by have := h.ok.h0.1; omega⟩
  have e0 := I.rep.nx L 0 o0
  rw [decide_eq_false (show ¬ l.um 0 ≤ L by have := h.ok.h0.2; omega)] at e0
  have lt0 : 1 ≤ N L 0 ∧ N L 0 ≤ l.n + 1 := I.sk.lt L 0 o0
  refine ⟨fun j => On l L j ∧ Pst P S j, fun j q e => nz (by rw [← e]; exact q.2), ⟨N L 0, e0, lt0.1, lt0.2, fun q => ⟨on0 q, p0⟩⟩, fun i q => ⟨N L i, _, I.rep.nx L i q.1, fun w => ⟨(go i q.1 q.2).2 w, (go i q.1 q.2).1⟩⟩⟩
theorem Rv.done {c : Cfg} {l : Nd} {z : Nat} {cs : List Int} {g : Gs} {s : Rtm} {B left : Int} (h : Rv c l z cs g s B left) (hd : s.d = true) : s.f.d = true ∧ s.la = true ∧ s.bi = B ∧ fd c cs z 5 = 0 := by
  rcases h.ph with ⟨q, _⟩ | ⟨q, _⟩ | ⟨q, _⟩ | ⟨q, _⟩ | ⟨_, la, fd1, eb, o0, _⟩
  · rw [q] at hd; cases hd
  · rw [q] at hd; cases hd
  · rw [q] at hd; cases hd
  · rw [q] at hd; cases hd
  · exact ⟨fd1, la, eb, o0⟩
end K
end Go.Proofs.YtgafmklfpiipcaaGreatDoor
namespace Go.Proofs.YtgafmklfpiipcaaGreatDoor
open Go.RowKit (Grown Hid Below)
open Go.Deep
namespace K
set_option maxRecDepth 100000
/-- A retire's block. -/
def RtB (w : World) (b fb : Nat) (v : Value) (la : Bool) (h bi er : Int) : Prop := w.heap[b]? = some (.cells #[.pointer (some ⟨fb, 0, none⟩), v, .bool la, .int .u64 h, .int .u64 bi, .int .u64 er] 75 (0, 0))
theorem RtB.kept {l : List Nat} {w w' : World} {b fb : Nat} {v : Value} {la : Bool} {h bi er : Int} (hB : RtB w b fb v la h bi er) (kk : Kept l w w') (hb : b ∉ l) : RtB w' b fb v la h bi er := kk.blk hB hb
theorem RtB.set1 {w : World} {b fb : Nat} {v : Value} {la : Bool} {h bi er : Int} (hB : RtB w b fb v la h bi er) (y : Value) : RtB (w.setCell ⟨b, 1, none⟩ y) b fb y la h bi er := by
  have z := blk_set hB 1 y
  simpa [RtB] using z
theorem RtB.set2 {w : World} {b fb : Nat} {v : Value} {la : Bool} {h bi er : Int} (hB : RtB w b fb v la h bi er) (y : Bool) : RtB (w.setCell ⟨b, 2, none⟩ (.bool y)) b fb v y h bi er := by
  have z := blk_set hB 2 (.bool y)
  simpa [RtB] using z
theorem RtB.set4 {w : World} {b fb : Nat} {v : Value} {la : Bool} {h bi er : Int} (hB : RtB w b fb v la h bi er) (y : Int) : RtB (w.setCell ⟨b, 4, none⟩ (.int .u64 y)) b fb v la h y er := by
  have z := blk_set hB 4 (.int .u64 y)
  simpa [RtB] using z
theorem RtB.set5 {w : World} {b fb : Nat} {v : Value} {la : Bool} {h bi er : Int} (hB : RtB w b fb v la h bi er) (y : Int) : RtB (w.setCell ⟨b, 5, none⟩ (.int .u64 y)) b fb v la h bi y := by
  have z := blk_set hB 5 (.int .u64 y)
  simpa [RtB] using z
def phT (s : Rtm) (b : Nat) : Value := if s.d = true then .nilFunc else match s.nx with
  | 0 => ffV 23 b
  | 1 => ffV 49 b
  | 2 => ffV 82 b
  | _ => ffV 101 b
set_option maxHeartbeats 2000000 in
theorem rtnew_any (h k : Int) (w : World) (hT : Tab w) (h0 : 0 ≤ h) (h1 : h < 18446744073709551616) :
    Calls Tryz.prog 5 #[.int .u64 h, .int .u64 k] w fun e w' => ∃ b fb, e = .returned (.pointer (some ⟨b, 0, none⟩)) ∧ w.heap.size ≤ b ∧ w.heap.size ≤ fb ∧ RtB w' b fb (ffV 23 b) false (plainV h) 0 0 ∧ FB w' fb (ffV 46 fb) k 0 0 0 0 0 none 0 0 ∧ Kept [] w w' := by
  obtain ⟨H, hH⟩ : ∃ H, H = plainV h := ⟨_, rfl⟩
  rw [← hH]
  go_enter Tryz.func5, Tryz.ntmps5
  go_wp2_with fail
  refine (fnew_any k _).mono ?_
  rintro e w1 ⟨fb, rfl, hfb, F, K1⟩
  have PL := hidOf (plain_any h w1 (hT.kept K1) h0 h1)
  have HX := hidOf (And.intro hfb (And.intro F K1))
  rw [← hH] at PL
  clear hfb F K1 hT hH
  go_wp2_with fail
  refine PL.out.mono ?_
  rintro e w2 ⟨rfl, K2⟩
  obtain ⟨b, hb⟩ : ∃ b, b = w2.heap.size := ⟨_, rfl⟩
  have BX : Hid (RtB (w2.alloc (.cells #[.pointer (some ⟨fb, 0, none⟩), .nilFunc, .bool false, .int .u64 H, .int .u64 0, .int .u64 0] 75)) b fb .nilFunc false H 0 0 ∧ Kept [] w2 (w2.alloc (.cells #[.pointer (some ⟨fb, 0, none⟩), .nilFunc, .bool false, .int .u64 H, .int .u64 0, .int .u64 0] 75))) := hidOf (by rw [hb]; exact ⟨blk_alloc_new w2 _, (Kept.refl [] w2).alloc _⟩)
  have HK2 := hidOf (And.intro K2 hb)
  clear PL K2
  go_upto_region 2 with (fail)
  rw [← hb]
  refine gen_world (fun W => RtB W b fb .nilFunc false H 0 0 ∧ Kept [] w2 W) BX.out ?_
  clear BX hb
  rintro W ⟨Z, K0⟩
  have z1 := cell_of_blk Z (i := 1) rfl
  have zf := free_of_blk Z
  have zl := lt_of_blk Z
  have HZ := hidOf (And.intro Z K0)
  clear Z K0
  go_wp2
  go_ret
  obtain ⟨hfb, F, K1⟩ := HX.out
  obtain ⟨K2, hb⟩ := HK2.out
  obtain ⟨Z, K0⟩ := HZ.out
  have ks := (Kept.refl [b] W).setCell (p := ⟨b, 1, none⟩) (Or.inl (by simp)) (ffV 23 b)
  have s1 := K1.size
  have s2 := K2.size
  have hlt := lt_of_blk F
  exact ⟨b, fb, rfl, by omega, hfb, Z.set1 _, ((F.kept K2 (by simp)).kept K0 (by simp)).kept ks (by simp; omega), ((K1.trans K2).trans K0).then ks (by simp; omega)⟩
set_option maxHeartbeats 2000000 in
theorem rtdone_any (b fb : Nat) (s : Rtm) (la : Bool) (h bi er : Int) (w : World) (hB : RtB w b fb (phT s b) la h bi er) :
    Calls Tryz.prog 15 #[.pointer (some ⟨b, 0, none⟩)] w fun e w' => e = .returned (.bool s.d) ∧ w' = w := by
  have E1 := f_eqfun
  have E2 := f_eqnil
  have q4 := cell_of_blk hB (i := 1) rfl
  clear hB
  cases hd : s.d with
  | true =>
    have e : phT s b = .nilFunc := if_pos hd
    rw [e] at q4
    clear e hd
    go_enter Tryz.func15, Tryz.ntmps15
    go_wp2
    go_ret
    exact ⟨rfl, rfl⟩
  | false =>
    have e : ∃ F, phT s b = ffV F b := by
      unfold phT; rw [if_neg (by rw [hd]; decide)]
      split <;> exact ⟨_, rfl⟩
    obtain ⟨F, e⟩ := e
    rw [e] at q4
    unfold ffV at q4
    clear e hd
    go_enter Tryz.func15, Tryz.ntmps15
    go_wp2
    go_ret
    exact ⟨rfl, rfl⟩
/-- The entry, as it is told. -/
def entV (h bi er : Int) : Value := .agg #[.int .u64 h, .int .u64 bi, .int .u64 er]
def Rtm.ent (s : Rtm) : Value := if s.d = true ∧ s.la = true then entV s.h s.bi s.er else entV 0 0 0
def Rtm.told (s : Rtm) : Bool := s.d && s.la
set_option maxHeartbeats 4000000 in
theorem rtentry_any (b fb : Nat) (s : Rtm) (w : World) (hB : RtB w b fb (phT s b) s.la s.h s.bi s.er) :
    Calls Tryz.prog 12 #[.pointer (some ⟨b, 0, none⟩)] w fun e w' => e = .returned (.tuple #[s.ent, .bool s.told]) ∧ Kept [] w w' := by
  have DN := hidOf (fun (W : World) (kk : Kept [] w W) => rtdone_any b fb s s.la s.h s.bi s.er W (hB.kept kk (by simp)))
  obtain ⟨D, hD⟩ : ∃ D, s.d = D := ⟨_, rfl⟩
  obtain ⟨L, hL⟩ : ∃ L, s.la = L := ⟨_, rfl⟩
  have e1 : s.ent = if D = true ∧ L = true then entV s.h s.bi s.er else entV 0 0 0 := by unfold Rtm.ent; rw [hD, hL]
  have e2 : s.told = (D && L) := by unfold Rtm.told; rw [hD, hL]
  rw [e1, e2]
  obtain ⟨EV, hEV⟩ : ∃ EV, EV = if D = true ∧ L = true then entV s.h s.bi s.er else entV 0 0 0 := ⟨_, rfl⟩
  obtain ⟨TD, hTD⟩ : ∃ TD, TD = (D && L) := ⟨_, rfl⟩
  rw [← hEV, ← hTD]
  rw [hD] at DN
  rw [hL] at hB
  generalize phT s b = V at hB
  generalize s.h = H at *
  generalize s.bi = B at *
  generalize s.er = E at *
  obtain ⟨q, hq⟩ : ∃ q, q = w.heap.size := ⟨_, rfl⟩
  have HB := hidOf hB
  have HEV := hidOf (And.intro hEV hTD)
  have BX : Hid (RW 56 (w.alloc (.cells #[.int .u64 0, .int .u64 0, .int .u64 0] 56)) q #[.int .u64 0, .int .u64 0, .int .u64 0] ∧ Kept [] w (w.alloc (.cells #[.int .u64 0, .int .u64 0, .int .u64 0] 56))) := hidOf (by rw [hq]; exact ⟨RW.new _ _ _, (Kept.refl [] w).alloc _⟩)
  clear e1 e2 hD hL hB hEV hTD
  go_enter Tryz.func12, Tryz.ntmps12
  go_upto_region 1 with (fail)
  rw [← hq]
  refine gen_world (fun W => RW 56 W q #[.int .u64 0, .int .u64 0, .int .u64 0] ∧ Kept [] w W) BX.out ?_
  have hqw : w.heap.size ≤ q := by omega
  clear BX hq
  rintro W ⟨Q, K0⟩
  have Z := HB.out.kept K0 (by simp)
  have z2 := cell_of_blk Z (i := 2) rfl
  have z3 := cell_of_blk Z (i := 3) rfl
  have z4 := cell_of_blk Z (i := 4) rfl
  have z5 := cell_of_blk Z (i := 5) rfl
  have x0 := cell_of_blk Q (i := 0) rfl
  have x1 := cell_of_blk Q (i := 1) rfl
  have x2 := cell_of_blk Q (i := 2) rfl
  have xf := free_of_blk Q
  have xl := lt_of_blk Q
  have HK := hidOf (And.intro K0 (And.intro hqw (And.intro Q Z)))
  clear Q Z
  have FIN : Hid (∀ Y : World, Y = W → Kept [] w (((Y.setCell ⟨q, 0, none⟩ (.int .u64 0)).setCell ⟨q, 1, none⟩ (.int .u64 0)).setCell ⟨q, 2, none⟩ (.int .u64 0)) ∧ Kept [] w (((Y.setCell ⟨q, 0, none⟩ (.int .u64 H)).setCell ⟨q, 1, none⟩ (.int .u64 B)).setCell ⟨q, 2, none⟩ (.int .u64 E))) := hidOf (fun Y e => by
    subst e
    obtain ⟨K0, hq, _, _⟩ := HK.out
    exact ⟨((K0.setCell (p := ⟨q, 0, none⟩) (Or.inr hq) _).setCell (p := ⟨q, 1, none⟩) (Or.inr hq) _).setCell (p := ⟨q, 2, none⟩) (Or.inr hq) _, ((K0.setCell (p := ⟨q, 0, none⟩) (Or.inr hq) _).setCell (p := ⟨q, 1, none⟩) (Or.inr hq) _).setCell (p := ⟨q, 2, none⟩) (Or.inr hq) _⟩)
  cases D with
  | false =>
    go_wp2_with fail
    refine (DN.out W HK.out.1).mono ?_
    rintro e w1 ⟨rfl, rfl⟩
    go_wp2
    refine bodyPost_ret (v := .tuple #[entV 0 0 0, .bool false]) (by simp [results, Tryz.results12, go_sem, entV, x0, x1, x2]) rfl ⟨by rw [HEV.out.1, HEV.out.2]; simp, ?_⟩
    first | exact (FIN.out _ rfl).1 | exact HK.out.1
  | true =>
    cases L with
    | false =>
      go_wp2_with fail
      refine (DN.out W HK.out.1).mono ?_
      rintro e w1 ⟨rfl, rfl⟩
      go_wp2
      refine bodyPost_ret (v := .tuple #[entV 0 0 0, .bool false]) (by simp [results, Tryz.results12, go_sem, entV, x0, x1, x2]) rfl ⟨by rw [HEV.out.1, HEV.out.2]; simp, ?_⟩
      first | exact (FIN.out _ rfl).1 | exact HK.out.1
    | true =>
      go_wp2_with fail
      refine (DN.out W HK.out.1).mono ?_
      rintro e w1 ⟨rfl, rfl⟩
      go_wp2
      refine bodyPost_ret (v := .tuple #[entV H B E, .bool true]) (by simp [results, Tryz.results12, go_sem, entV, x0, x1, x2]) rfl ⟨by rw [HEV.out.1, HEV.out.2]; simp, ?_⟩
      exact (FIN.out _ rfl).2
section
variable {base : Nat → Prop} {w0 w w' : World} {b fb gb m p r : Nat} {c : Cfg} {g : Gs} {f : Fm} {s : Rtm} {cs : List Int} {cnt : Int} {a : Acc}
/-- A find, its guard and other words, that were accessed; a retire's block beside them is written. -/
theorem Fw.rm {A : Array Value} {x : Nat} {cs' : List Int} {cnt' : Int} {a' : Acc} (h : Fw base w0 w b gb m p r c g f cs cnt a) (hx : w.heap[x]? = some (.cells A 75 (0, 0))) (ox : w0.heap.size ≤ x) (M : Mm w' m p r c cs' cnt' a') (K : Kept [x, p, r] w w') (wd : Wds cs') (n0 : 0 ≤ cnt') : Fw base w0 w' b gb m p r c g f cs' cnt' a' := by
  have nm := fs_nm h.st.fs h.st.mm
  have gm := h.st.gd.nm h.st.mm
  have n1 : ¬ b = x := by
    rcases h.st.fs.2 with z | ⟨_, _, _, _, gg, A, z⟩
    · exact blk_ne (T1 := 113) z.fb hx (by decide)
    · exact blk_ne (T1 := 113) z.fb hx (by decide)
  have n2 : ¬ gb = x := blk_ne (T1 := 79) h.st.gd hx (by decide)
  have KK : Kept [] w0 w' := h.kp.then K (by have := h.op; have := h.ow; simp; omega)
  exact ⟨⟨h.st.R, h.st.fs.kept K (by simp; omega) (fun g3 _ he => by
    obtain ⟨A, hA⟩ := he
    have n1 := blk_ne (T1 := 166) hA h.st.mm.bk.st (by decide)
    have n2 := blk_ne (T1 := 166) hA h.st.mm.bk.row (by decide)
    have n3 := blk_ne (T1 := 166) hA hx (by decide)
    simp; omega), h.st.gd.kept K (by simp; omega), M, h.t0.kept KK, h.st.fi, wd, h.st.u0, h.st.u1, h.st.g0, fun z hz => h.st.bs z (Nat.le_trans K.size hz)⟩, KK, h.ob, h.og, h.op, h.ow, h.os, n0, h.t0⟩
end
/-- A retire, its find, its guard and the words, all of them made behind w0. -/
structure RtW (base : Nat → Prop) (w0 w : World) (b fb gb m p r : Nat) (c : Cfg) (g : Gs) (s : Rtm) (cs : List Int) (cnt : Int) (a : Acc) : Prop where
  rb : RtB w b fb (phT s b) s.la s.h s.bi s.er
  fw : Fw base w0 w fb gb m p r c g s.f cs cnt a
  ri : RtI c s
  ob : w0.heap.size ≤ b
section
variable {base : Nat → Prop} {w0 w w' : World} {b fb gb m p r : Nat} {c : Cfg} {g : Gs} {s : Rtm} {cs : List Int} {cnt : Int} {a : Acc}
theorem RtW.new (h : RtW base w0 w b fb gb m p r c g s cs cnt a) (k : Kept [] w w') : RtW base w0 w' b fb gb m p r c g s cs cnt a :=
  ⟨h.rb.kept k (by simp), h.fw.new k, h.ri, h.ob⟩
theorem RtW.nm (h : RtW base w0 w b fb gb m p r c g s cs cnt a) : (¬ b = m ∧ ¬ b = p ∧ ¬ b = r) ∧ ¬ b = fb ∧ ¬ b = gb := by
  have hB := h.rb
  refine ⟨⟨blk_ne (T1 := 75) hB h.fw.st.mm.st (by decide), blk_ne (T1 := 75) hB h.fw.st.mm.bk.st (by decide), blk_ne (T1 := 75) hB h.fw.st.mm.bk.row (by decide)⟩, ?_, blk_ne (T1 := 75) hB h.fw.st.gd (by decide)⟩
  rcases h.fw.st.fs.2 with z | ⟨_, _, _, _, gg, A, z⟩
  · exact blk_ne (T1 := 75) hB z.fb (by decide)
  · exact blk_ne (T1 := 75) hB z.fb (by decide)
theorem RtW.mm {cs' : List Int} {cnt' : Int} {a' : Acc} (h : RtW base w0 w b fb gb m p r c g s cs cnt a) (M : Mm w' m p r c cs' cnt' a') (K : Kept [p, r] w w') (wd : Wds cs') (n0 : 0 ≤ cnt') : RtW base w0 w' b fb gb m p r c g s cs' cnt' a' := by
  obtain ⟨⟨n1, n2, n3⟩, _⟩ := h.nm
  exact ⟨h.rb.kept K (by simp; omega), h.fw.rm h.rb h.ob M (K.weaken (by simp)) wd n0, h.ri, h.ob⟩
/-- What a step of a retire leaves. -/
def RtR (base : Nat → Prop) (w0 w w' : World) (b fb gb m p r : Nat) (c : Cfg) (g' : Gs) (s' : Rtm) (cs' : List Int) (cnt' : Int) (a' : Acc) : Prop :=
  RtW base w0 w' b fb gb m p r c g' s' cs' cnt' a' ∧ FK base [b, fb, gb, p, r] w w'
set_option maxHeartbeats 4000000 in
/-- The owner goes. -/
theorem rtleave_any (h : RtW base w0 w b fb gb m p r c g s cs cnt a) (hd : s.d = false) (nx : s.nx = 0) (c1 : cnt < 4611686018427387904) (V : Value) :
    Calls Tryz.prog 23 #[.pointer (some ⟨b, 0, none⟩), .pointer (some ⟨m, 0, none⟩), V] w fun e w' => e = .returned (.tuple #[]) ∧ RtW base w0 w' b fb gb m p r c (rtG c g s) (rtF c cs cnt g s) (rtC c cs g s) (rtN cnt s) (rtA c cs g s a) ∧ Kept [b, p, r] w w' := by
  obtain ⟨e1, e2, e3⟩ := rtF_0 (c := c) (cs := cs) (cnt := cnt) (g := g) hd nx
  have e4 : rtN cnt s = cnt + 1 := rtN_no hd
  have e5 : rtA c cs g s a = acV cs 4 (clV' c (ixV s.h) 5) (plainV s.h) 0 oneL := by unfold rtA; rw [if_neg (by rw [hd]; decide), nx]; rfl
  have RI' := h.ri.step h.fw.st.R h.fw.st.wd cnt g
  have WD' := rtC_wds (g := g) h.ri h.fw.st.wd
  have hW := h.ri.hW
  have c0 := h.fw.n0
  have AD := hidOf (fun (W : World) (k : Kept [] w W) => (madd_any m p r c cs cnt a s.h 5 oneL W (h.fw.st.mm.new k) (h.fw.st.tb.kept k) hW.1 hW.2 c0 c1).mono fun _ _ z => And.intro z.1 (And.intro z.2.1 ((k.weaken (m := [p, r]) (by simp)).trans z.2.2)))
  have eo : (acV cs 4 (clV' c (ixV s.h) 5) (plainV s.h) 0 oneL).o = s.ow c cs := add_o cs _ _ _ _
  rw [eo] at AD
  obtain ⟨⟨nm1, nm2, nm3⟩, nf, ng⟩ := h.nm
  have HNM := hidOf (And.intro nm1 (And.intro nm2 nm3))
  have HBB := hidOf h.rb
  have q3 := cell_of_blk h.rb (i := 3) rfl
  rw [e1] at RI' ⊢
  rw [e2] at WD' ⊢
  rw [e3, e4, e5]
  have MM := hidOf (fun (w' : World) (M : Mm w' m p r c (clV cs 4 (clV' c (ixV s.h) 5) 0 oneL) (cnt + 1) (acV cs 4 (clV' c (ixV s.h) 5) (plainV s.h) 0 oneL)) (K : Kept [b, p, r] w w') => h.fw.rm h.rb h.ob M K WD' (by omega))
  have ew : 18446744073709551615 = oneL := rfl
  clear e1 e2 e3 e4 e5 eo
  generalize acV cs 4 (clV' c (ixV s.h) 5) (plainV s.h) 0 oneL = A at *
  generalize clV cs 4 (clV' c (ixV s.h) 5) 0 oneL = CC at *
  rw [← ew] at AD
  obtain ⟨X, hX⟩ : ∃ X, X = s.ow c cs := ⟨_, rfl⟩
  rw [← hX] at AD RI' ⊢
  have HD := hidOf hd
  have HRI := hidOf RI'
  have HOB := hidOf h.ob
  clear h RI' WD' hX nm1 nm2 nm3 nf ng hd nx hW c0 c1 ew
  have FIN : Hid (∀ (w7 : World) (B : Bool) (v : Value), decide (X = 1) = B → v = phT { s with la := B, nx := 1, d := !B } b → Mm w7 m p r c CC (cnt + 1) A → Kept [p, r] w w7 → RtW base w0 ((w7.setCell ⟨b, 2, none⟩ (.bool B)).setCell ⟨b, 1, none⟩ v) b fb gb m p r c g { s with la := decide (X = 1), nx := 1, d := !decide (X = 1) } CC (cnt + 1) A ∧ Kept [b, p, r] w ((w7.setCell ⟨b, 2, none⟩ (.bool B)).setCell ⟨b, 1, none⟩ v)) := hidOf (fun w7 B v hB hv M7 K7 => by
    have ks := ((Kept.refl [b] w7).setCell (p := ⟨b, 2, none⟩) (Or.inl (by simp)) (.bool B)).setCell (p := ⟨b, 1, none⟩) (Or.inl (by simp)) v
    have hn := HNM.out
    have K8 : Kept [b, p, r] w ((w7.setCell ⟨b, 2, none⟩ (.bool B)).setCell ⟨b, 1, none⟩ v) := (K7.weaken (m := [b, p, r]) (by simp)).then ks (by simp)
    have M8 := M7.kept ks (by simp; omega) (by simp; omega) (by simp; omega)
    have hri := HRI.out
    have Z := ((HBB.out.kept K7 (by simp; omega)).set2 B).set1 v
    rw [hB] at hri ⊢
    refine ⟨⟨?_, MM.out _ M8 K8, hri, HOB.out⟩, K8⟩
    rw [← hv]; exact Z)
  by_cases hx : X = 1
  · subst hx
    go_enter Tryz.func23, Tryz.ntmps23
    go_wp2_with fail
    refine (AD.out _ (Kept.refl _ _)).mono ?_
    rintro e w7 ⟨rfl, M7, K7⟩
    have Z := HBB.out.kept K7 (by have := HNM.out; simp; omega)
    have z1 := cell_of_blk Z (i := 1) rfl
    have z2 := cell_of_blk Z (i := 2) rfl
    have zf := free_of_blk Z
    have zl := lt_of_blk Z
    have HM7 := hidOf (And.intro M7 K7)
    clear M7 Z K7 AD HBB
    go_wp2
    go_end0
    refine ⟨rfl, FIN.out _ true _ (by decide) ?_ HM7.out.1 HM7.out.2⟩
    unfold phT; rw [if_neg (by show ¬ (!true) = true; decide)]; rfl
  · have hxb : (X == 1) = false := by simpa using hx
    have hxd : decide (X = 1) = false := by simpa using hx
    go_enter Tryz.func23, Tryz.ntmps23
    go_wp2_with fail
    refine (AD.out _ (Kept.refl _ _)).mono ?_
    rintro e w7 ⟨rfl, M7, K7⟩
    have Z := HBB.out.kept K7 (by have := HNM.out; simp; omega)
    have z1 := cell_of_blk Z (i := 1) rfl
    have z2 := cell_of_blk Z (i := 2) rfl
    have zf := free_of_blk Z
    have zl := lt_of_blk Z
    have HM7 := hidOf (And.intro M7 K7)
    clear M7 Z K7 AD HBB
    go_wp2
    refine bodyPost_ret (v := .tuple #[]) (by simp [results, Tryz.results23, go_sem]) rfl ⟨rfl, FIN.out _ false _ hxd ?_ HM7.out.1 HM7.out.2⟩
    unfold phT; rw [if_pos (show (!false) = true from rfl)]
set_option maxHeartbeats 4000000 in
/-- A step of the find. -/
theorem rtfind_any (h : RtW base w0 w b fb gb m p r c g s cs cnt a) (hd : s.d = false) (nx : s.nx = 1) (c1 : cnt < 4611686018427387904) :
    Calls Tryz.prog 49 #[.pointer (some ⟨b, 0, none⟩), .pointer (some ⟨m, 0, none⟩), .pointer (some ⟨gb, 0, none⟩)] w fun e w' => e = .returned (.tuple #[]) ∧ RtR base w0 w w' b fb gb m p r c (rtG c g s) (rtF c cs cnt g s) (rtC c cs g s) (rtN cnt s) (rtA c cs g s a) := by
  obtain ⟨e1, e2, e3⟩ := rtF_1 (c := c) (cs := cs) (cnt := cnt) (g := g) hd nx
  have fd0 := h.ri.f0 hd (by omega)
  have e4 : rtN cnt s = cnt + 1 := rtN_no hd
  have e5 : rtA c cs g s a = fA c cs g s.f a := by unfold rtA; rw [if_neg (by rw [hd]; decide), nx]; rfl
  have e6 : fN cnt s.f = cnt + 1 := fN_no fd0
  have RI' := h.ri.step h.fw.st.R h.fw.st.wd cnt g
  have SP := hidOf (h.fw.step c1)
  obtain ⟨⟨nm1, nm2, nm3⟩, nf, ng⟩ := h.nm
  have HB := hidOf h.rb
  have q0 := cell_of_blk h.rb (i := 0) rfl
  have HN := hidOf (show b ∉ [fb, gb, p, r] by simp; omega)
  have PH : phT s b = ffV 49 b := by unfold phT; rw [if_neg (by rw [hd]; decide), nx]; rfl
  have HOB := hidOf h.ob
  rw [e1] at RI' ⊢
  rw [e2, e3, e4, e5]
  rw [e6] at SP
  obtain ⟨F', hF'⟩ : ∃ F', F' = fF c cs cnt g s.f := ⟨_, rfl⟩
  rw [← hF'] at SP RI' ⊢
  clear hF' e1 e2 e3 e4 e5 e6 fd0
  obtain ⟨D, hD⟩ : ∃ D, F'.d = D := ⟨_, rfl⟩
  rw [hD] at RI' ⊢
  have HD := hidOf hD
  have HDS := hidOf hd
  generalize fG c g s.f = G at *
  generalize fC c cs g s.f = CC at *
  generalize fA c cs g s.f a = AA at *
  have HRI := hidOf RI'
  have HPH := hidOf PH
  clear h hD RI' nm1 nm2 nm3 nf ng PH hd nx
  go_enter Tryz.func49, Tryz.ntmps49
  go_wp2_with fail
  refine SP.out.mono ?_
  rintro e w1 ⟨rfl, Z, K1⟩
  have B1 : RtB w1 b fb (phT s b) s.la s.h s.bi s.er := K1.blk HB.out (by decide) HN.out
  have q01 := cell_of_blk B1 (i := 0) rfl
  have q11 := cell_of_blk B1 (i := 1) rfl
  have qf := free_of_blk B1
  have ql := lt_of_blk B1
  have HZ := hidOf (And.intro B1 (And.intro Z (show FK base [b, fb, gb, p, r] w w1 from K1.weaken (by simp))))
  clear B1 Z K1 SP q0
  have DN := hidOf (HZ.out.2.1.st.done)
  rw [HD.out] at DN
  go_wp2_with fail
  refine DN.out.mono ?_
  rintro e w2 ⟨rfl, rfl⟩
  cases D with
  | false =>
    go_wp2
    go_end0
    obtain ⟨B1, Z, K1⟩ := HZ.out
    refine ⟨rfl, ⟨?_, Z, HRI.out, HOB.out⟩, K1⟩
    have e : phT { s with f := F', nx := 1 } b = phT s b := by
      rw [HPH.out]; unfold phT
      rw [if_neg (by show ¬ s.d = true; rw [HDS.out]; decide)]; rfl
    rw [e]; exact B1
  | true =>
    go_wp2
    go_end0
    obtain ⟨B1, Z, K1⟩ := HZ.out
    have ks := (Kept.refl [b] w2).setCell (p := ⟨b, 1, none⟩) (Or.inl (by simp)) (ffV 82 b)
    have e : phT { s with f := F', nx := 2 } b = ffV 82 b := by
      unfold phT
      rw [if_neg (by show ¬ s.d = true; rw [HDS.out]; decide)]; rfl
    refine ⟨rfl, ⟨?_, Z.rm B1 HOB.out (Z.st.mm.kept ks (by have := blk_ne (T1 := 109) Z.st.mm.st B1 (by decide); simp; omega) (by have := blk_ne (T1 := 143) Z.st.mm.bk.st B1 (by decide); simp; omega) (by have := blk_ne (T1 := 25) Z.st.mm.bk.row B1 (by decide); simp; omega)) (ks.weaken (by simp)) Z.st.wd Z.n0, HRI.out, HOB.out⟩, K1.then (FK.of (ks.weaken (by simp)))⟩
    rw [e]; exact B1.set1 _
set_option maxHeartbeats 4000000 in
/-- When was it born? -/
theorem rtbirth_any (h : RtW base w0 w b fb gb m p r c g s cs cnt a) (hd : s.d = false) (nx : s.nx = 2) (c1 : cnt < 4611686018427387904) (V : Value) :
    Calls Tryz.prog 82 #[.pointer (some ⟨b, 0, none⟩), .pointer (some ⟨m, 0, none⟩), V] w fun e w' => e = .returned (.tuple #[]) ∧ RtR base w0 w w' b fb gb m p r c (rtG c g s) (rtF c cs cnt g s) (rtC c cs g s) (rtN cnt s) (rtA c cs g s a) := by
  obtain ⟨e1, e2, e3⟩ := rtF_2 (c := c) (cs := cs) (cnt := cnt) (g := g) hd nx
  have e4 : rtN cnt s = cnt + 1 := rtN_no hd
  have e5 : rtA c cs g s a = acV cs 1 (clV' c (ixV s.h) 3) (plainV s.h) 0 0 := by unfold rtA; rw [if_neg (by rw [hd]; decide), nx]; rfl
  have RI' := h.ri.step h.fw.st.R h.fw.st.wd cnt g
  have wd := h.fw.st.wd
  have hW := h.ri.hW
  have c0 := h.fw.n0
  have LD := hidOf (fun (W : World) (k : Kept [] w W) => (mload_any m p r c cs cnt a s.h 3 W (h.fw.st.mm.new k) (h.fw.st.tb.kept k) hW.1 hW.2 c0 c1).mono fun _ _ z => And.intro z.1 (And.intro z.2.1 ((k.weaken (m := [p, r]) (by simp)).trans z.2.2)))
  have eo : (acV cs 1 (clV' c (ixV s.h) 3) (plainV s.h) 0 0).o = fd c cs (ixV s.h) 3 := ld_o cs _ _
  rw [eo, clk_load] at LD
  obtain ⟨⟨nm1, nm2, nm3⟩, nf, ng⟩ := h.nm
  have HNM := hidOf (And.intro nm1 (And.intro nm2 nm3))
  have HBB := hidOf h.rb
  have q3 := cell_of_blk h.rb (i := 3) rfl
  rw [e1] at RI' ⊢
  rw [e2, e3, e4, e5]
  have MM := hidOf (fun (w' : World) (M : Mm w' m p r c cs (cnt + 1) (acV cs 1 (clV' c (ixV s.h) 3) (plainV s.h) 0 0)) (K : Kept [b, p, r] w w') => h.fw.rm h.rb h.ob M K wd (by omega))
  clear e1 e2 e3 e4 e5 eo
  generalize acV cs 1 (clV' c (ixV s.h) 3) (plainV s.h) 0 0 = A at *
  generalize fd c cs (ixV s.h) 3 = X at *
  have HD := hidOf hd
  have HRI := hidOf RI'
  have HOB := hidOf h.ob
  clear h RI' wd nm1 nm2 nm3 nf ng hd nx hW c0 c1
  go_enter Tryz.func82, Tryz.ntmps82
  go_wp2_with fail
  refine (LD.out _ (Kept.refl _ _)).mono ?_
  rintro e w7 ⟨rfl, M7, K7⟩
  have Z := HBB.out.kept K7 (by have := HNM.out; simp; omega)
  have z1 := cell_of_blk Z (i := 1) rfl
  have z4 := cell_of_blk Z (i := 4) rfl
  have zf := free_of_blk Z
  have zl := lt_of_blk Z
  have HX := hidOf (And.intro Z (And.intro M7 K7))
  clear M7 Z K7 LD HBB
  go_wp2
  go_end0
  obtain ⟨Z, M7, K7⟩ := HX.out
  have ks := ((Kept.refl [b] w7).setCell (p := ⟨b, 4, none⟩) (Or.inl (by simp)) (.int .u64 X)).setCell (p := ⟨b, 1, none⟩) (Or.inl (by simp)) (ffV 101 b)
  have hn := HNM.out
  have K8 : Kept [b, p, r] w ((w7.setCell ⟨b, 4, none⟩ (.int .u64 X)).setCell ⟨b, 1, none⟩ (ffV 101 b)) := (K7.weaken (m := [b, p, r]) (by simp)).then ks (by simp)
  have M8 := M7.kept ks (by simp; omega) (by simp; omega) (by simp; omega)
  refine ⟨rfl, ⟨?_, MM.out _ M8 K8, HRI.out, HOB.out⟩, FK.of (K8.weaken (by simp))⟩
  rw [show phT { s with bi := X, nx := 3 } b = ffV 101 b from by unfold phT; rw [if_neg (by show ¬ s.d = true; rw [HD.out]; decide)]; rfl]
  exact (Z.set4 X).set1 _
set_option maxHeartbeats 4000000 in
/-- Which era is it? -/
theorem rtnow_any (h : RtW base w0 w b fb gb m p r c g s cs cnt a) (hd : s.d = false) (nx : s.nx = 3) (c1 : cnt < 4611686018427387904) (V : Value) :
    Calls Tryz.prog 101 #[.pointer (some ⟨b, 0, none⟩), .pointer (some ⟨m, 0, none⟩), V] w fun e w' => e = .returned (.tuple #[]) ∧ RtR base w0 w w' b fb gb m p r c (rtG c g s) (rtF c cs cnt g s) (rtC c cs g s) (rtN cnt s) (rtA c cs g s a) := by
  obtain ⟨e1, e2, e3⟩ := rtF_3 (c := c) (cs := cs) (cnt := cnt) (g := g) hd nx
  have e4 : rtN cnt s = cnt + 1 := rtN_no hd
  have e5 : rtA c cs g s a = acV cs 1 0 0 0 0 := by unfold rtA; rw [if_neg (by rw [hd]; decide), nx]; rfl
  have RI' := h.ri.step h.fw.st.R h.fw.st.wd cnt g
  have wd := h.fw.st.wd
  have c0 := h.fw.n0
  have LD := hidOf (fun (W : World) (k : Kept [] w W) => (mclock_any m p r c cs cnt a W (h.fw.st.mm.new k) c0 c1).mono fun _ _ z => And.intro z.1 (And.intro z.2.1 ((k.weaken (m := [p, r]) (by simp)).trans z.2.2)))
  have eo : (acV cs 1 0 0 0 0).o = rdG cs 0 := ld_o cs _ _
  rw [eo, clk_load] at LD
  obtain ⟨⟨nm1, nm2, nm3⟩, nf, ng⟩ := h.nm
  have HNM := hidOf (And.intro nm1 (And.intro nm2 nm3))
  have HBB := hidOf h.rb
  rw [e1] at RI' ⊢
  rw [e2, e3, e4, e5]
  have MM := hidOf (fun (w' : World) (M : Mm w' m p r c cs (cnt + 1) (acV cs 1 0 0 0 0)) (K : Kept [b, p, r] w w') => h.fw.rm h.rb h.ob M K wd (by omega))
  clear e1 e2 e3 e4 e5 eo
  generalize acV cs 1 0 0 0 0 = A at *
  generalize rdG cs 0 = X at *
  have HRI := hidOf RI'
  have HOB := hidOf h.ob
  clear h RI' wd nm1 nm2 nm3 nf ng hd nx c0 c1
  go_enter Tryz.func101, Tryz.ntmps101
  go_wp2_with fail
  refine (LD.out _ (Kept.refl _ _)).mono ?_
  rintro e w7 ⟨rfl, M7, K7⟩
  have Z := HBB.out.kept K7 (by have := HNM.out; simp; omega)
  have z1 := cell_of_blk Z (i := 1) rfl
  have z5 := cell_of_blk Z (i := 5) rfl
  have zf := free_of_blk Z
  have zl := lt_of_blk Z
  have HX := hidOf (And.intro Z (And.intro M7 K7))
  clear M7 Z K7 LD HBB
  go_wp2
  go_end0
  obtain ⟨Z, M7, K7⟩ := HX.out
  have ks := ((Kept.refl [b] w7).setCell (p := ⟨b, 5, none⟩) (Or.inl (by simp)) (.int .u64 X)).setCell (p := ⟨b, 1, none⟩) (Or.inl (by simp)) .nilFunc
  have hn := HNM.out
  have K8 : Kept [b, p, r] w ((w7.setCell ⟨b, 5, none⟩ (.int .u64 X)).setCell ⟨b, 1, none⟩ .nilFunc) := (K7.weaken (m := [b, p, r]) (by simp)).then ks (by simp)
  have M8 := M7.kept ks (by simp; omega) (by simp; omega) (by simp; omega)
  refine ⟨rfl, ⟨?_, MM.out _ M8 K8, HRI.out, HOB.out⟩, FK.of (K8.weaken (by simp))⟩
  rw [show phT { s with er := X, d := true } b = .nilFunc from if_pos rfl]
  exact (Z.set5 X).set1 _
set_option maxHeartbeats 4000000 in
/-- A step of a retire whose machine says what comes next. -/
theorem rtstep_leave (h : RtW base w0 w b fb gb m p r c g s cs cnt a) (hd : s.d = false) (ph : phT s b = ffV 23 b) (R : World → Prop)
    (hc : ∀ W, W = w → Calls Tryz.prog 23 #[.pointer (some ⟨b, 0, none⟩), .pointer (some ⟨m, 0, none⟩), .pointer (some ⟨gb, 0, none⟩)] W fun e w' => e = .returned (.tuple #[]) ∧ R w') :
    Calls Tryz.prog 10 #[.pointer (some ⟨b, 0, none⟩), .pointer (some ⟨m, 0, none⟩), .pointer (some ⟨gb, 0, none⟩)] w fun e w' => e = .returned (.tuple #[]) ∧ R w' := by
  have DN := hidOf (rtdone_any b fb s s.la s.h s.bi s.er w h.rb)
  rw [hd] at DN
  have B := h.rb
  rw [ph] at B
  have q4 := cell_of_blk B (i := 1) rfl
  unfold ffV at q4
  have HC := hidOf (hc w rfl)
  clear hc B h hd ph
  go_enter Tryz.func10, Tryz.ntmps10
  go_wp2_with fail
  refine DN.out.mono ?_
  rintro e w1 ⟨rfl, rfl⟩
  go_wp2_with fail
  refine HC.out.mono ?_
  rintro e w2 ⟨rfl, X⟩
  have HX := hidOf X
  clear HC DN X q4
  go_wp2
  go_end0
  exact ⟨rfl, HX.out⟩
set_option maxHeartbeats 4000000 in
/-- A step of a retire whose machine says what comes next. -/
theorem rtstep_find (h : RtW base w0 w b fb gb m p r c g s cs cnt a) (hd : s.d = false) (ph : phT s b = ffV 49 b) (R : World → Prop)
    (hc : ∀ W, W = w → Calls Tryz.prog 49 #[.pointer (some ⟨b, 0, none⟩), .pointer (some ⟨m, 0, none⟩), .pointer (some ⟨gb, 0, none⟩)] W fun e w' => e = .returned (.tuple #[]) ∧ R w') :
    Calls Tryz.prog 10 #[.pointer (some ⟨b, 0, none⟩), .pointer (some ⟨m, 0, none⟩), .pointer (some ⟨gb, 0, none⟩)] w fun e w' => e = .returned (.tuple #[]) ∧ R w' := by
  have DN := hidOf (rtdone_any b fb s s.la s.h s.bi s.er w h.rb)
  rw [hd] at DN
  have B := h.rb
  rw [ph] at B
  have q4 := cell_of_blk B (i := 1) rfl
  unfold ffV at q4
  have HC := hidOf (hc w rfl)
  clear hc B h hd ph
  go_enter Tryz.func10, Tryz.ntmps10
  go_wp2_with fail
  refine DN.out.mono ?_
  rintro e w1 ⟨rfl, rfl⟩
  go_wp2_with fail
  refine HC.out.mono ?_
  rintro e w2 ⟨rfl, X⟩
  have HX := hidOf X
  clear HC DN X q4
  go_wp2
  go_end0
  exact ⟨rfl, HX.out⟩
set_option maxHeartbeats 4000000 in
/-- A step of a retire whose machine says what comes next. -/
theorem rtstep_birth (h : RtW base w0 w b fb gb m p r c g s cs cnt a) (hd : s.d = false) (ph : phT s b = ffV 82 b) (R : World → Prop)
    (hc : ∀ W, W = w → Calls Tryz.prog 82 #[.pointer (some ⟨b, 0, none⟩), .pointer (some ⟨m, 0, none⟩), .pointer (some ⟨gb, 0, none⟩)] W fun e w' => e = .returned (.tuple #[]) ∧ R w') :
    Calls Tryz.prog 10 #[.pointer (some ⟨b, 0, none⟩), .pointer (some ⟨m, 0, none⟩), .pointer (some ⟨gb, 0, none⟩)] w fun e w' => e = .returned (.tuple #[]) ∧ R w' := by
  have DN := hidOf (rtdone_any b fb s s.la s.h s.bi s.er w h.rb)
  rw [hd] at DN
  have B := h.rb
  rw [ph] at B
  have q4 := cell_of_blk B (i := 1) rfl
  unfold ffV at q4
  have HC := hidOf (hc w rfl)
  clear hc B h hd ph
  go_enter Tryz.func10, Tryz.ntmps10
  go_wp2_with fail
  refine DN.out.mono ?_
  rintro e w1 ⟨rfl, rfl⟩
  go_wp2_with fail
  refine HC.out.mono ?_
  rintro e w2 ⟨rfl, X⟩
  have HX := hidOf X
  clear HC DN X q4
  go_wp2
  go_end0
  exact ⟨rfl, HX.out⟩
set_option maxHeartbeats 4000000 in
/-- A step of a retire whose machine says what comes next. -/
theorem rtstep_now (h : RtW base w0 w b fb gb m p r c g s cs cnt a) (hd : s.d = false) (ph : phT s b = ffV 101 b) (R : World → Prop)
    (hc : ∀ W, W = w → Calls Tryz.prog 101 #[.pointer (some ⟨b, 0, none⟩), .pointer (some ⟨m, 0, none⟩), .pointer (some ⟨gb, 0, none⟩)] W fun e w' => e = .returned (.tuple #[]) ∧ R w') :
    Calls Tryz.prog 10 #[.pointer (some ⟨b, 0, none⟩), .pointer (some ⟨m, 0, none⟩), .pointer (some ⟨gb, 0, none⟩)] w fun e w' => e = .returned (.tuple #[]) ∧ R w' := by
  have DN := hidOf (rtdone_any b fb s s.la s.h s.bi s.er w h.rb)
  rw [hd] at DN
  have B := h.rb
  rw [ph] at B
  have q4 := cell_of_blk B (i := 1) rfl
  unfold ffV at q4
  have HC := hidOf (hc w rfl)
  clear hc B h hd ph
  go_enter Tryz.func10, Tryz.ntmps10
  go_wp2_with fail
  refine DN.out.mono ?_
  rintro e w1 ⟨rfl, rfl⟩
  go_wp2_with fail
  refine HC.out.mono ?_
  rintro e w2 ⟨rfl, X⟩
  have HX := hidOf X
  clear HC DN X q4
  go_wp2
  go_end0
  exact ⟨rfl, HX.out⟩
set_option maxHeartbeats 2000000 in
theorem rtstep_d (V1 V2 : Value) (hB : RtB w b fb (phT s b) s.la s.h s.bi s.er) (hd : s.d = true) :
    Calls Tryz.prog 10 #[.pointer (some ⟨b, 0, none⟩), V1, V2] w fun e w' => e = .returned (.tuple #[]) ∧ w' = w := by
  have DN := hidOf (rtdone_any b fb s s.la s.h s.bi s.er w hB)
  rw [hd] at DN
  clear hB hd
  go_enter Tryz.func10, Tryz.ntmps10
  go_wp2_with fail
  refine DN.out.mono ?_
  rintro e w1 ⟨rfl, rfl⟩
  clear DN
  go_wp2
  go_end0
  exact ⟨rfl, rfl⟩
theorem rtstep0_any (h : RtW base w0 w b fb gb m p r c g s cs cnt a) (hd : s.d = false) (nx : s.nx = 0) (c1 : cnt < 4611686018427387904) :
    Calls Tryz.prog 10 #[.pointer (some ⟨b, 0, none⟩), .pointer (some ⟨m, 0, none⟩), .pointer (some ⟨gb, 0, none⟩)] w fun e w' => e = .returned (.tuple #[]) ∧ RtW base w0 w' b fb gb m p r c (rtG c g s) (rtF c cs cnt g s) (rtC c cs g s) (rtN cnt s) (rtA c cs g s a) ∧ Kept [b, p, r] w w' :=
  rtstep_leave h hd (by unfold phT; rw [if_neg (by rw [hd]; decide), nx]; rfl) _ (fun W hW => by rw [hW]; exact rtleave_any h hd nx c1 _)
theorem rtstep_any (h : RtW base w0 w b fb gb m p r c g s cs cnt a) (c1 : cnt < 4611686018427387904) :
    Calls Tryz.prog 10 #[.pointer (some ⟨b, 0, none⟩), .pointer (some ⟨m, 0, none⟩), .pointer (some ⟨gb, 0, none⟩)] w fun e w' => e = .returned (.tuple #[]) ∧ RtR base w0 w w' b fb gb m p r c (rtG c g s) (rtF c cs cnt g s) (rtC c cs g s) (rtN cnt s) (rtA c cs g s a) := by
  cases hd : s.d with
  | true =>
    obtain ⟨e1, e2, e3, e4⟩ := rtF_done (c := c) (cs := cs) (cnt := cnt) (g := g) hd
    have e5 : rtA c cs g s a = a := if_pos hd
    rw [e1, e2, e3, e4, e5]
    exact (rtstep_d _ _ h.rb hd).mono fun _ _ hh => ⟨hh.1, by rw [hh.2]; exact ⟨h, FK.of (Kept.refl _ _)⟩⟩
  | false =>
    rcases (by have := h.ri.nx; omega : s.nx = 0 ∨ s.nx = 1 ∨ s.nx = 2 ∨ s.nx = 3) with e | e | e | e
    · exact (rtstep0_any h hd e c1).mono fun _ _ hh => ⟨hh.1, hh.2.1, FK.of (hh.2.2.weaken (by simp))⟩
    · exact rtstep_find h hd (by unfold phT; rw [if_neg (by rw [hd]; decide), e]; rfl) _ (fun W hW => by rw [hW]; exact rtfind_any h hd e c1)
    · exact rtstep_birth h hd (by unfold phT; rw [if_neg (by rw [hd]; decide), e]; rfl) _ (fun W hW => by rw [hW]; exact rtbirth_any h hd e c1 _)
    · exact rtstep_now h hd (by unfold phT; rw [if_neg (by rw [hd]; decide), e]; rfl) _ (fun W hW => by rw [hW]; exact rtnow_any h hd e c1 _)
end
end K
end Go.Proofs.YtgafmklfpiipcaaGreatDoor
namespace Go.Proofs.YtgafmklfpiipcaaGreatDoor
open Go.RowKit (Grown Hid Below intOf)
open Go.Deep
namespace K
set_option maxRecDepth 100000
/-- Where a walk of a level is. -/
def At (c : Cfg) (l : Nd) (z : Nat) (cs : List Int) (L : Nat) (V : Int) : Prop := Unl c l z cs → ∃ P : Nat → Prop, (∀ j, P j → ¬ j = z) ∧ (∀ i, P i → ∃ j b, fd c cs i (6 + L : Nat) = nw l.n j b ∧ (j ≤ l.n → P j)) ∧ ∃ j b, V = nw l.n j b ∧ (j ≤ l.n → P j)
theorem At.head {c : Cfg} {l : Nd} {z : Nat} {cs : List Int} {L : Nat} (hL : L < HN c) : At c l z cs L (fd c cs 0 (6 + L : Nat)) := fun U => by
  obtain ⟨P, p1, ⟨j, e, _, _, q⟩, p2⟩ := U L hL
  exact ⟨P, p1, p2, j, false, e, q⟩
theorem At.next {c : Cfg} {l : Nd} {z : Nat} {cs : List Int} {L : Nat} {V : Int} (hn : l.n < 4294967296) (h : At c l z cs L V) (v : vlB V = true) : At c l z cs L (fd c cs (ixV V) (6 + L : Nat)) := fun U => by
  obtain ⟨P, p1, p2, j, b, e, q⟩ := h U
  have hj : j ≤ l.n := by rw [e, nw_vl2 hn] at v; simpa using v
  obtain ⟨j2, b2, e2, q2⟩ := p2 j (q hj)
  rw [e, nw_ix hn hj]; exact ⟨P, p1, p2, j2, b2, e2, q2⟩
theorem At.no {c : Cfg} {l : Nd} {z : Nat} {cs : List Int} {L : Nat} {V : Int} (hn : l.n < 4294967296) (h : At c l z cs L V) (v : vlB V = true) (ez : ixV V = z) : ¬ Unl c l z cs := fun U => by
  obtain ⟨P, p1, p2, j, b, e, q⟩ := h U
  have hj : j ≤ l.n := by rw [e, nw_vl2 hn] at v; simpa using v
  rw [e, nw_ix hn hj] at ez
  exact p1 j (q hj) (by omega)
theorem rw_pr {T : TypeId} {w w' : World} {q m p r : Nat} {A : Array Value} {c : Cfg} {cs : List Int} {cnt : Int} {a : Acc} (h : RW T w q A) (M : Mm w m p r c cs cnt a) (h1 : T ≠ 143) (h2 : T ≠ 25) (k : Kept [p, r] w w') : RW T w' q A :=
  h.kept k (nin2 (fun e => blk_ne h M.bk.st h1 e) (fun e => blk_ne h M.bk.row h2 e))
def LkR (c : Cfg) (l : Nd) (z : Nat) (cs : List Int) (cnt : Int) (m p r : Nat) (w : World) (e : Ending) (w' : World) : Prop := ∃ B cnt' a', e = .returned (.bool B) ∧ (Unl c l z cs → B = false) ∧ Mm w' m p r c cs cnt' a' ∧ cnt ≤ cnt' ∧ cnt' ≤ cnt + 500 ∧ Kept [p, r] w w'
/-- All that is made behind a world. -/
def Bhr (w : World) : Nat → Prop := fun z => w.heap.size ≤ z
theorem FK.drop {base : Nat → Prop} {bs bs' : List Nat} {w w' : World} (h : FK base bs w w') (d : ∀ z ∈ bs, z ∈ bs' ∨ w.heap.size ≤ z) : FK base bs' w w' := by
  obtain ⟨l, k, q⟩ := h
  refine ⟨l, k, fun z hz => ?_⟩
  rcases q z hz with e | e | e
  · rcases d z e with e | e
    · exact Or.inl e
    · exact Or.inr (Or.inl e)
  · exact Or.inr (Or.inl e)
  · exact Or.inr (Or.inr e)
/-- A new retire over a world's words. -/
structure Rp (w0 w : World) (b fb m p r : Nat) (c : Cfg) (h k : Int) (cs : List Int) (cnt : Int) (a : Acc) : Prop where
  rb : RtB w b fb (ffV 23 b) false (plainV h) 0 0
  ff : FB w fb (ffV 46 fb) k 0 0 0 0 0 none 0 0
  mm : Mm w m p r c cs cnt a
  kp : Kept [] w0 w
  t0 : Tab w0
  ob : w0.heap.size ≤ b
  of : w0.heap.size ≤ fb
  op : w0.heap.size ≤ p
  ow : w0.heap.size ≤ r
  hr : riB c = true
  wd : Wds cs
  n0 : 0 ≤ cnt
  hW : isW h
theorem Rp.start {w0 w : World} {b fb gb m p r : Nat} {c : Cfg} {h k t : Int} {cs : List Int} {cnt : Int} {a : Acc} (x : Rp w0 w b fb m p r c h k cs cnt a) (G : GB w gb ⟨0, 0, t⟩) (og : w0.heap.size ≤ gb) : RtW (Bhr w0) w0 w b fb gb m p r c ⟨0, 0, t⟩ (rtS h k) cs cnt a :=
  ⟨x.rb, Fw.start x.hr x.kp x.t0 x.op x.ow (fun _ h => h) (fun _ hz => Nat.le_trans x.kp.size hz) x.mm x.ff G x.of og x.wd x.n0, RtI.start (riB_true.1 x.hr) k x.hW, x.ob⟩
theorem Rp.new {w0 w w' : World} {b fb m p r : Nat} {c : Cfg} {h k : Int} {cs : List Int} {cnt : Int} {a : Acc} (x : Rp w0 w b fb m p r c h k cs cnt a) (kk : Kept [] w w') : Rp w0 w' b fb m p r c h k cs cnt a :=
  ⟨x.rb.kept kk (by simp), x.ff.kept kk (by simp), x.mm.new kk, x.kp.trans kk, x.t0, x.ob, x.of, x.op, x.ow, x.hr, x.wd, x.n0, x.hW⟩
/-- A retire that goes on: so many steps were done, so many are left. -/
structure Rg (I : List Int → Gs → Rtm → Int → Prop) (w0 w wr : World) (b fb gb m p r : Nat) (c : Cfg) (cnt left : Int) (i : Nat) : Prop where
  go : ∃ g s cs cnt' a, RtW (Bhr w0) w0 wr b fb gb m p r c g s cs cnt' a ∧ I cs g s (left - i) ∧ cnt ≤ cnt' ∧ cnt' ≤ cnt + i
  fk : FK (Bhr w0) [b, fb, gb, p, r] w wr
  le : (i : Int) ≤ left
/-- At its end. -/
structure Re (I : List Int → Gs → Rtm → Int → Prop) (w0 w wr : World) (b fb m p r : Nat) (c : Cfg) (cnt left : Int) (n : Nat) : Prop where
  fin : ∃ gb g s cs cnt' a, RtW (Bhr w0) w0 wr b fb gb m p r c g s cs cnt' a ∧ I cs g s (left - n) ∧ s.d = true ∧ cnt ≤ cnt' ∧ cnt' ≤ cnt + left ∧ w.heap.size ≤ gb
  fk : FK (Bhr w0) [b, fb, p, r] w wr
  le : (n : Int) ≤ left
set_option maxHeartbeats 4000000 in
theorem ends14_any (I : List Int → Gs → Rtm → Int → Prop) (w0 w : World) (b fb m p r : Nat) (c : Cfg) (h k : Int) (cs : List Int) (cnt : Int) (a : Acc) (most : Nat) (left : Int) (x : Rp w0 w b fb m p r c h k cs cnt a) (hl : 0 ≤ left ∧ left < most) (hm : most ≤ 3000) (c1 : cnt < 1000000000)
    (h0 : I cs ⟨0, 0, 0⟩ (rtS h k) left) (hs : ∀ cs g s lf cnt', I cs g s lf → s.d = false → I (rtC c cs g s) (rtG c g s) (rtF c cs cnt' g s) (lf - 1)) (hd : ∀ cs g s lf, I cs g s lf → lf ≤ 0 → s.d = true) :
    Calls Tryz.prog 27 #[.pointer (some ⟨b, 0, none⟩), .pointer (some ⟨m, 0, none⟩), .int .i64 most] w fun e w' => ∃ n : Nat, e = .returned (.int .i64 n) ∧ (n : Int) < most ∧ Re I w0 w w' b fb m p r c cnt left n := by
  have HX := hidOf x
  have HS := hidOf hs
  have HD := hidOf hd
  have H0 := hidOf h0
  clear x hs hd h0
  go_enter Tryz.func27, Tryz.ntmps27
  go_wp2_with fail
  refine (gnew_any 0 _).mono ?_
  rintro e w1 ⟨gb, rfl, hgb, G, K⟩
  have HZ0 : Hid (Rg I w0 w w1 b fb gb m p r c cnt left 0) := hidOf ⟨⟨_, _, cs, cnt, a, (HX.out.new K).start G (by have := HX.out.kp.size; omega), by have z := H0.out; simpa using z, Int.le_refl _, by omega⟩, FK.of (K.weaken (by simp)), hl.1⟩
  have HGB := hidOf hgb
  clear HX H0 hgb G K
  have hm2 : (most : Int) ≤ 3000 := by omega
  go_wp2
  go_loopw [11, 8] (fun s _ wr => ∃ i : Nat, i ≤ most ∧ s = .int .i64 i ∧ Rg I w0 w wr b fb gb m p r c cnt left i) (fun s _ _ => most - (intOf s).toNat)
  case atStart => exact ⟨0, by omega, by first | rfl | go_num, HZ0.out⟩
  case round =>
    clear HZ0
    obtain ⟨i, hi, rfl, Z⟩ := hrel
    obtain ⟨g, s, cs, cnt', a, B, II, z1, z2⟩ := Z.go
    have HZ := hidOf (And.intro B (And.intro II (And.intro z1 z2)))
    have HLE := hidOf (And.intro Z.le Z.fk)
    clear Z B II z1 z2
    by_cases hlt : i < most
    · have hltz : (i : Int) < (most : Int) := by omega
      have DN := hidOf (rtdone_any b fb s _ _ _ _ wr HZ.out.1.rb)
      obtain ⟨D, hD⟩ : ∃ D, s.d = D := ⟨_, rfl⟩
      rw [hD] at DN
      have HDD := hidOf hD
      clear hD
      go_wp2_with fail
      refine DN.out.mono ?_
      rintro e w2 ⟨rfl, rfl⟩
      clear DN
      cases D with
      | true =>
        go_wp2
        go_ret
        refine ⟨i, rfl, hltz, ⟨gb, g, s, cs, cnt', a, HZ.out.1, HZ.out.2.1, HDD.out, HZ.out.2.2.1, ?_, HGB.out⟩, HLE.out.2.drop (fun z hz => ?_), HLE.out.1⟩
        · have := HZ.out.2.2.2
          have := HLE.out.1
          omega
        · have := HGB.out
          simp at hz ⊢
          rcases hz with e | e | e | e | e
          · simp [e]
          · simp [e]
          · right; omega
          · simp [e]
          · simp [e]
      | false =>
        have SP := hidOf (rtstep_any HZ.out.1 (by have := HZ.out.2.2.2; omega))
        go_wp2_with fail
        refine SP.out.mono ?_
        rintro e w3 ⟨rfl, R⟩
        have HR := hidOf R
        clear SP R
        go_wp2
        go_roundw
        case rel =>
          obtain ⟨B2, K2⟩ := HR.out
          have N := HS.out _ _ _ _ cnt' HZ.out.2.1 HDD.out
          have hlf : ¬ left - (i : Int) ≤ 0 := fun q => by
            have z := HD.out _ _ _ _ HZ.out.2.1 q
            rw [HDD.out] at z; cases z
          have e := rtN_no (cnt := cnt') HDD.out
          refine ⟨i + 1, by omega, by go_num, ⟨⟨_, _, _, _, _, B2, by have z := N; rwa [show left - (i : Int) - 1 = left - ((i + 1 : Nat) : Int) by omega] at z, ?_, ?_⟩, HLE.out.2.then K2, by omega⟩⟩
          · have := HZ.out.2.2.1; omega
          · have := HZ.out.2.2.2; omega
        case measure => simp [intOf]; omega
    · exfalso
      have := HLE.out.1
      omega
end K
end Go.Proofs.YtgafmklfpiipcaaGreatDoor
