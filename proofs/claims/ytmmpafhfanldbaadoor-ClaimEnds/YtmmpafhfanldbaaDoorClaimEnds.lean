/-
  The one slot of a world, got and given back again and again, is got in each generation once, and then no more.
  Conditions: the package variable of handle that the code reads starts as the program's text lays it (the card ties it to that text).
-/
import Derived.Test.YtmmpafhfanldbaaDoorKMeta
import Derived.Test.YtmmpafhfanldbaaDoorHLaid
import Derived.Test.YtmmpafhfanldbaaDoorPArgs
import Derived.ProofKit
import Derived.SizedLaws
import Derived.Carry
namespace Go.Proofs.YtmmpafhfanldbaaDoor
open Go.ChangeShapes Go.WideShapes Go.ChangeAt Go.RowKit
open Go.Deep
open Go.Proofs.YtmmpafhfanldbaaDoor.K
set_option maxRecDepth 100000

/-- A world of one slot, and its cells. -/
def cE (l : Int) : Cfg := ⟨1, 1, 1, 1, 1, 1, l⟩
def csE (W : Int) : List Int := [1, 0, 1, 0, 0, 0, 1, 0, 0, W, 0, 0, 0, 0, 0, 0]
theorem cE_ri {l : Int} (h0 : 0 ≤ l) (h1 : l ≤ 50) : riB (cE l) = true := by
  unfold riB wiB cE; simp; omega
theorem cE_cl {l : Int} (h0 : 0 ≤ l) (h1 : l ≤ 50) {a b : Int} (a0 : 0 ≤ a) (a1 : a ≤ 1) (b0 : 0 ≤ b) (b1 : b < 7) : clV' (cE l) a b = 2 + a * 7 + b := by
  have e : inF (cE l) a b := ⟨cE_ri h0 h1, a0, a1, b0, b1⟩
  unfold clV'; rw [if_pos e]; show 1 + 1 * 1 + a * (6 + 1) + b = _; omega
theorem cE_new {l : Int} (h0 : 0 ≤ l) (h1 : l ≤ 50) : fcV (cE l) = csE 0 := by
  have e1 : lnN (cE l) = 16 := by unfold lnN lnV; rw [if_pos (cE_ri h0 h1)]; rfl
  unfold fcV
  rw [e1, cE_cl h0 h1 (by decide) (by decide) (by decide) (by decide), cE_cl h0 h1 (by decide) (by decide) (by decide) (by decide)]
  rfl
theorem csE_wd {W : Int} (h : 0 ≤ W ∧ W < 18446744073709551616) : Wds (csE W) := by intro x hx; simp [csE] at hx; omega
theorem cE_wdK {l : Int} (h0 : 0 ≤ l) (h1 : l ≤ 50) (W : Int) : wdK (cE l) (csE W) 1 = W := by
  unfold wdK; rw [cE_cl h0 h1 (by decide) (by decide) (by decide) (by decide)]; rfl
theorem cE_set {l : Int} (h0 : 0 ≤ l) (h1 : l ≤ 50) (W V : Int) : clV (csE W) 2 (clV' (cE l) 1 0) 0 V = csE V := by
  rw [cE_cl h0 h1 (by decide) (by decide) (by decide) (by decide)]; rfl
theorem gn4 (g : Int) (h1 : g ≤ 100) : S.gnV (4 * g) = g := by unfold S.gnV; rw [show 4 * g / 4 = g by omega, if_pos (by omega)]
theorem gnp (g : Int) (h0 : 0 ≤ g) (h1 : g ≤ 100) : gnV (packV 1 g false) = g := by unfold gnV packV; simp; omega
theorem cE_look {l : Int} (h0 : 0 ≤ l) (h1 : l ≤ 50) (g : Int) : stK (cE l) (csE (4 * g)) ⟨0, 1, 0, 0, 0, 0, 1⟩ = ⟨2, 1, 1, 1, 4 * g, 0, 1⟩ := by
  show lookK (cE l) (csE (4 * g)) ⟨0, 1, bgI (cE l) 1, 1, 0, 0, 1⟩ = _
  rw [show bgI (cE l) 1 = 1 from rfl]
  unfold lookK
  show (if S.stV (wdK (cE l) (csE (4 * g)) 1) = 0 then _ else _) = _
  rw [cE_wdK h0 h1, if_pos (by unfold S.stV; omega)]
theorem cE_out {l : Int} (h0 : 0 ≤ l) (h1 : l ≤ 50) (g : Int) : stK (cE l) (csE (4 * g + 2)) ⟨0, 1, 0, 0, 0, 0, 1⟩ = ⟨3, 1, 1, 0, 4 * g + 2, 0, 1⟩ := by
  show lookK (cE l) (csE (4 * g + 2)) ⟨0, 1, bgI (cE l) 1, 1, 0, 0, 1⟩ = _
  rw [show bgI (cE l) 1 = 1 from rfl]
  unfold lookK
  show (if S.stV (wdK (cE l) (csE (4 * g + 2)) 1) = 0 then _ else passK (cE l) ⟨1, 1, 1, 1, wdK (cE l) (csE (4 * g + 2)) 1, 0, 1⟩) = _
  rw [cE_wdK h0 h1, if_neg (by unfold S.stV; omega)]
  rfl
theorem cE_take {l : Int} (h0 : 0 ≤ l) (h1 : l ≤ 50) (g : Int) (g1 : g ≤ 100) : stK (cE l) (csE (4 * g)) ⟨2, 1, 1, 1, 4 * g, 0, 1⟩ = ⟨3, 1, 1, 1, 4 * g, packV 1 g false, 1⟩ := by
  show takeK (cE l) (csE (4 * g)) ⟨2, 1, 1, 1, 4 * g, 0, 1⟩ = _
  unfold takeK tkA
  show (if (acV (csE (4 * g)) 3 (clV' (cE l) 1 0) 0 (4 * g) (S.meV 1 (S.gnV (4 * g)))).d = true then (⟨3, 1, 1, 1, 4 * g, packV 1 (S.gnV (4 * g)) false, bhI (cE l) 1⟩ : Ks) else _) = _
  rw [gn4 g g1, cE_cl h0 h1 (by decide) (by decide) (by decide) (by decide), if_pos (by unfold acV; rw [if_pos (by unfold hasC; show (0 : Int) ≤ 9 ∧ (9 : Int) < ((16 : Nat) : Int); decide)]; show bhB 3 (4 * g) (4 * g) = true; simp [bhB])]
  rfl
theorem cE_takeC {l : Int} (h0 : 0 ≤ l) (h1 : l ≤ 50) (g : Int) (g1 : g ≤ 100) : stC (cE l) (csE (4 * g)) ⟨2, 1, 1, 1, 4 * g, 0, 1⟩ = csE (4 * g + 1) := by
  show clV (csE (4 * g)) 3 (clV' (cE l) 1 0) (4 * g) (S.meV 1 (S.gnV (4 * g))) = _
  rw [gn4 g g1, cE_cl h0 h1 (by decide) (by decide) (by decide) (by decide)]
  unfold clV
  rw [if_pos (by unfold hasC; show (0 : Int) ≤ 9 ∧ (9 : Int) < ((16 : Nat) : Int); decide)]
  have e : bhV 3 ((csE (4 * g)).getD (2 + 1 * 7 + 0 : Int).toNat 0) (4 * g) (S.meV 1 g) = 4 * g + 1 := by
    show bhV 3 (4 * g) (4 * g) (S.meV 1 g) = _
    simp [bhV, S.meV]
  rw [e]; rfl
theorem cE_back {l g : Int} (g0 : 0 ≤ g) (g1 : g ≤ 100) (h0 : 0 ≤ l) (h1 : l ≤ 50) : bkV (cE l) (packV 1 g false) = if l ≤ g then 4 * l + 2 else 4 * (g + 1) := by
  unfold bkV
  rw [gnp g g0 g1]
  show S.afV g l = _
  unfold S.afV
  rw [if_neg (by omega : ¬ l < 0), if_neg (by omega : ¬ 1073741823 < l), if_neg (by omega : ¬ g < 0)]
  split
  · rfl
  · omega
def wE (l g : Int) : Int := if g ≤ l then 4 * g else 4 * l + 2
theorem wE_bd {l g : Int} (g0 : 0 ≤ g) (h0 : 0 ≤ l) (h1 : l ≤ 50) : 0 ≤ wE l g ∧ wE l g < 18446744073709551616 := by unfold wE; split <;> omega
theorem wE_next {l g : Int} (h : g ≤ l) : (if l ≤ g then 4 * l + 2 else 4 * (g + 1)) = wE l (g + 1) := by unfold wE; split <;> split <;> omega
set_option maxRecDepth 100000 in
set_option maxHeartbeats 8000000 in
theorem claimEnds_walk (w : World) (last : Int) (_hw : (Lit.int .i64 last).wf = true) (hT : Tab w) :
    Calls Tryd.prog 7 #[.int .i64 last] w fun e w' => e = .returned (.bool true) ∧ Kept [] w w' := by
  have HT := hidOf hT
  clear hT
  by_cases h1 : last < 0
  · have AL := hidOf (alive_any w HT.out)
    go_enter Tryd.func7, Tryd.ntmps7
    go_wp2_with fail
    refine AL.out.mono ?_
    rintro e WA ⟨rfl, KA⟩
    go_wp2
    go_ret
    exact ⟨rfl, KA⟩
  by_cases h2 : 50 < last
  · have AL := hidOf (alive_any w HT.out)
    go_enter Tryd.func7, Tryd.ntmps7
    go_wp2_with fail
    refine AL.out.mono ?_
    rintro e WA ⟨rfl, KA⟩
    go_wp2
    go_ret
    exact ⟨rfl, KA⟩
  obtain ⟨l, hl⟩ : ∃ l : Nat, last = l := ⟨last.toNat, by omega⟩
  subst hl
  have l0 : 0 ≤ (l : Int) := by omega
  have l1 : (l : Int) ≤ 50 := by omega
  clear h1 h2
  have NW := hidOf (mnew_yes (cE l) w HT.out (cE_ri l0 l1))
  rw [cE_new l0 l1] at NW
  go_enter Tryd.func7, Tryd.ntmps7
  go_wp2_with fail
  refine NW.out.mono ?_
  rintro e w1 ⟨m, p, r, rfl, ⟨hm, hp, hr⟩, M1, K1⟩
  have HM1 := hidOf M1
  clear NW M1
  go_wp2
  go_loopw [28] (fun i wr => ∃ (g : Nat) (cnt : Int) (x : Acc), g ≤ l + 1 ∧ i = .int .i64 g ∧ 0 ≤ cnt ∧ cnt ≤ 4 * g ∧ Mm wr m p r (cE l) (csE (wE l g)) cnt x ∧ Kept [] w wr) (fun i _ => l + 2 - (intOf i).toNat)
  case atStart => exact ⟨0, 0, Acc.zero, Nat.zero_le _, rfl, Int.le_refl _, Int.le_refl _, (by rw [show wE l ((0 : Nat) : Int) = 0 by unfold wE; rw [if_pos (by omega)]; rfl]; exact HM1.out), K1⟩
  case round =>
    clear HM1 K1
    obtain ⟨g, cnt, x, hg, rfl, c0, c1, M, K⟩ := hrel
    have hgz : (g : Int) < (l : Int) + 2 := by omega
    have HM := hidOf M
    clear M
    go_wp2_with fail
    refine (knew_any 1 _).mono ?_
    rintro e w3 ⟨a, rfl, ha, A, K3⟩
    have aw : w.heap.size ≤ a := by have := K.size; omega
    replace HM := hidOf (HM.out.new K3)
    have HA := hidOf A
    replace K := K.trans K3
    clear A K3
    by_cases hgl : l < g
    · have hge : g = l + 1 := by omega
      have hgz2 : (l : Int) < (g : Int) := by omega
      have e0 : wE l g = 4 * l + 2 := by unfold wE; rw [if_neg (by omega)]
      rw [e0] at HM
      clear hge e0
      have ST := hidOf (step_any a m p r (cE l) (csE (4 * l + 2)) cnt _ ⟨0, 1, 0, 0, 0, 0, 1⟩ _ HA.out HM.out (HT.out.kept K) (KI.start _ 1) (csE_wd (by omega)) (by show (1 : Int) ≤ 1; decide) (by show (1 : Int) ≤ 64; decide) (by omega) (by omega))
      rw [cE_out l0 l1 l, show stC (cE l) (csE (4 * l + 2)) ⟨0, 1, 0, 0, 0, 0, 1⟩ = csE (4 * l + 2) from rfl, show stN cnt ⟨0, 1, 0, 0, 0, 0, 1⟩ = cnt + 1 from rfl] at ST
      go_wp2_with fail
      refine ST.out.mono ?_
      rintro e w4 ⟨rfl, A9, M9, K9⟩
      obtain ⟨na1, na2, na3⟩ := A9.nm M9
      replace K := K.then K9 (by simp; omega)
      clear ST HM HA K9
      have HM := hidOf M9
      have HA := hidOf A9
      clear M9 A9
      have ST := hidOf (step_any a m p r (cE l) (csE (4 * l + 2)) (cnt + 1) _ ⟨3, 1, 1, 0, 4 * (l : Int) + 2, 0, 1⟩ _ HA.out HM.out (HT.out.kept K) ⟨fun _ h => by simp at h, ⟨by show 0 ≤ 4 * (l : Int) + 2; omega, by show 4 * (l : Int) + 2 < 18446744073709551616; omega⟩⟩ (csE_wd (by omega)) (by show (1 : Int) ≤ 1; decide) (by show (1 : Int) ≤ 64; decide) (by omega) (by omega))
      rw [show stK (cE l) (csE (4 * l + 2)) ⟨3, 1, 1, 0, 4 * (l : Int) + 2, 0, 1⟩ = ⟨3, 1, 1, 0, 4 * (l : Int) + 2, 0, 1⟩ from rfl, show stC (cE l) (csE (4 * l + 2)) ⟨3, 1, 1, 0, 4 * (l : Int) + 2, 0, 1⟩ = csE (4 * l + 2) from rfl, show stN (cnt + 1) ⟨3, 1, 1, 0, 4 * (l : Int) + 2, 0, 1⟩ = cnt + 1 from rfl] at ST
      go_wp2_with fail
      refine ST.out.mono ?_
      rintro e w5 ⟨rfl, A9, M9, K9⟩
      obtain ⟨na1, na2, na3⟩ := A9.nm M9
      replace K := K.then K9 (by simp; omega)
      clear ST HM HA K9
      have HM := hidOf M9
      have HA := hidOf A9
      clear M9 A9
      have AL := hidOf (alive_any w5 (HT.out.kept K))
      go_wp2_with fail
      refine AL.out.mono ?_
      rintro e w6 ⟨rfl, K6⟩
      have DA := hidOf (kdone_any a _ w6 (HA.out.kept K6 (by simp)))
      have GA := hidOf (kgot_any a _ w6 (HA.out.kept K6 (by simp)))
      clear AL HA HM
      go_wp2_with (first
        | (go_at_call 16; refine DA.out.mono ?_; rintro e w9 ⟨rfl, rfl⟩)
        | (go_at_call 17; refine GA.out.mono ?_; rintro e w9 ⟨rfl, rfl⟩))
      go_ret
      exact ⟨rfl, K.trans K6⟩
    · have hgz2 : ¬ (l : Int) < (g : Int) := by omega
      have e0 : wE l g = 4 * g := by unfold wE; rw [if_pos (by omega)]
      rw [e0] at HM
      clear e0
      have ST := hidOf (step_any a m p r (cE l) (csE (4 * g)) cnt _ ⟨0, 1, 0, 0, 0, 0, 1⟩ _ HA.out HM.out (HT.out.kept K) (KI.start _ 1) (csE_wd (by omega)) (by show (1 : Int) ≤ 1; decide) (by show (1 : Int) ≤ 64; decide) (by omega) (by omega))
      rw [cE_look l0 l1 g, show stC (cE l) (csE (4 * g)) ⟨0, 1, 0, 0, 0, 0, 1⟩ = csE (4 * g) from rfl, show stN cnt ⟨0, 1, 0, 0, 0, 0, 1⟩ = cnt + 1 from rfl] at ST
      go_wp2_with fail
      refine ST.out.mono ?_
      rintro e w4 ⟨rfl, A9, M9, K9⟩
      obtain ⟨na1, na2, na3⟩ := A9.nm M9
      replace K := K.then K9 (by simp; omega)
      clear ST HM HA K9
      have HM := hidOf M9
      have HA := hidOf A9
      clear M9 A9
      have ST := hidOf (step_any a m p r (cE l) (csE (4 * g)) (cnt + 1) _ ⟨2, 1, 1, 1, 4 * (g : Int), 0, 1⟩ _ HA.out HM.out (HT.out.kept K) ⟨fun _ _ => ⟨by show (1 : Int) ≤ 1; decide, by show (1 : Int) ≤ 1; decide, by show (1 : Int) ≤ 1; decide, by show (1 : Int) ≤ 1; decide⟩, ⟨by show 0 ≤ 4 * (g : Int); omega, by show 4 * (g : Int) < 18446744073709551616; omega⟩⟩ (csE_wd (by omega)) (by show (1 : Int) ≤ 1; decide) (by show (1 : Int) ≤ 64; decide) (by omega) (by omega))
      rw [cE_take l0 l1 g (by omega), cE_takeC l0 l1 g (by omega), show stN (cnt + 1) ⟨2, 1, 1, 1, 4 * (g : Int), 0, 1⟩ = cnt + 1 + 1 from rfl] at ST
      go_wp2_with fail
      refine ST.out.mono ?_
      rintro e w5 ⟨rfl, A9, M9, K9⟩
      obtain ⟨na1, na2, na3⟩ := A9.nm M9
      replace K := K.then K9 (by simp; omega)
      clear ST HM HA K9
      have HM := hidOf M9
      have HA := hidOf A9
      clear M9 A9
      obtain ⟨P, hP⟩ : ∃ P, packV 1 (g : Int) false = P := ⟨_, rfl⟩
      have pb := pack_bd 1 (g : Int) (by decide) (by decide) (by omega) (by omega)
      have GN := hidOf (gnp (g : Int) (by omega) (by omega))
      have IX := hidOf (ix_pack 1 (g : Int) (by decide) (by decide))
      have BV := hidOf (cE_back (l := l) (g := g) (by omega) (by omega) l0 l1)
      rw [wE_next (by omega)] at BV
      rw [hP] at pb GN IX BV HA
      clear hP
      have DA := hidOf (kdone_any a _ w5 HA.out)
      have GA := hidOf (kgot_any a _ w5 HA.out)
      have HG1 := hidOf (gen_any P w5 (HT.out.kept K) (by omega) pb.2)
      rw [GN.out] at HG1
      go_wp2_with (first
        | (go_at_call 16; refine DA.out.mono ?_; rintro e w9 ⟨rfl, rfl⟩)
        | (go_at_call 17; refine GA.out.mono ?_; rintro e w9 ⟨rfl, rfl⟩))
      refine HG1.out.mono ?_
      rintro e w6 ⟨rfl, K6⟩
      replace K := K.trans K6
      replace HA := hidOf (HA.out.kept K6 (by simp))
      replace HM := hidOf (HM.out.new K6)
      clear K6 HG1 DA GA
      have GA := hidOf (kgot_any a _ w6 HA.out)
      have HI1 := hidOf (index_any P w6 (HT.out.kept K) (by omega) pb.2)
      rw [IX.out] at HI1
      go_wp2_with (go_at_call 17; refine GA.out.mono ?_; rintro e w9 ⟨rfl, rfl⟩)
      refine HI1.out.mono ?_
      rintro e w7 ⟨rfl, K7⟩
      replace K := K.trans K7
      replace HA := hidOf (HA.out.kept K7 (by simp))
      replace HM := hidOf (HM.out.new K7)
      clear K7 HI1 GA
      have MT := hidOf (mmeta_any m p r (cE l) (csE (4 * g + 1)) _ _ 1 _ HM.out (by omega) (by omega))
      rw [clV_load] at MT
      have ew : (acV (csE (4 * (g : Int) + 1)) 1 (clV' (cE l) 1 0) 0 0 0).o = 4 * g + 1 := cE_wdK l0 l1 (4 * g + 1)
      rw [ew] at MT
      clear ew
      go_wp2_with fail
      refine MT.out.mono ?_
      rintro e w8 ⟨rfl, M9, K9⟩
      replace K := K.then K9 (by simp; omega)
      replace HA := hidOf (HA.out.kept K9 (by simp; omega))
      clear HM K9 MT
      have HM := hidOf M9
      clear M9
      have RS := hidOf (S.rstate_any (4 * g + 1) w8 (by omega) (by omega))
      rw [show S.stV (4 * (g : Int) + 1) = 1 by unfold S.stV; omega] at RS
      go_wp2_with fail
      refine RS.out.mono ?_
      rintro e w10 ⟨rfl, K10⟩
      replace K := K.trans K10
      replace HA := hidOf (HA.out.kept K10 (by simp))
      replace HM := hidOf (HM.out.new K10)
      clear K10 RS
      have GA := hidOf (kgot_any a _ w10 HA.out)
      have BK := hidOf (back_any m p r (cE l) (csE (4 * g + 1)) _ _ P w10 HM.out (HT.out.kept K) (by omega) pb.2 (by omega) (by omega))
      rw [IX.out, BV.out, cE_set l0 l1] at BK
      go_wp2_with (go_at_call 17; refine GA.out.mono ?_; rintro e w9 ⟨rfl, rfl⟩)
      refine BK.out.mono ?_
      rintro e w11 ⟨rfl, M9, K9⟩
      replace K := K.then K9 (by simp; omega)
      clear HM K9 BK GA HA
      have HM := hidOf M9
      clear M9
      go_wp2
      go_roundw
      case rel => exact ⟨g + 1, _, _, by omega, by go_num, by omega, by omega, HM.out, K⟩
      case measure => simp [intOf]; omega

set_option maxRecDepth 100000 in
theorem claimEnds_lifted (os : Os) (started : os.Started) (H : Type) (enc : TypeId × Value → H) :
    ReturnsInHanded {} Tryd.checked os 7 .any (fun w args => (Rows.claimEndsSpec.pre enc Tryd.prog Tryd.f7 [] false w args ∧ laidMetH Tryd.prog laid1 w) ∧ sizedMet enc Tryd.prog Tryd.f7 (OpenSpec.ofChange Rows.claimEndsSpec) false w args)
      (Rows.claimEndsSpec.post enc Tryd.prog Tryd.f7 false true false false) := by
  refine returnsInHanded_of_change_and (C := Tryd.checked) (X := fun w _ => laidMetH Tryd.prog laid1 w) (fun _ _ _ hh h => h.of_heap hh) own started (by kernel_rfl) Tryd.func7
    (ChangeSpec.witness_shaped (enc := enc) (C := Tryd.checked) (os := os) (X := fun w _ => laidMetH Tryd.prog laid1 w) false (World.doorLaid Tryd.prog 400 os) #[.int .i64 0] 8 rfl (World.shaped_of_RefB (by kernel_rfl) (by kernel_rfl)) (by kernel_rfl) (by kernel_rfl) (by kernel_rfl) (door_met os _)) ?_
  intro W base args ds gs before hval0 hW _ _ hL _
  have hval : ∀ (j : Nat) t v, Tryd.f7.params[j]? = some t → args[j]? = some v → Value.okWide Tryd.prog W .any base t v := hval0
  have hW' := hW
  obtain ⟨p, q, hA0, hV, rfl, _, _⟩ := hW
  have hA : DataW.TrodAll enc Tryd.prog W 0 (fun _ => true) true Tryd.f7.params.toList args.toList ds p := hA0
  rw [Tryd.params7] at hA hval
  clear hA0 hval0
  obtain ⟨v0, vs0, d0, ds0, p0, q0, hargs, rfl, rfl, h0, r0⟩ := trodAll_cons hA
  obtain ⟨rfl, rfl, rfl⟩ := trodAll_nil r0
  obtain rfl : args = #[v0] := by cases args; simp_all
  obtain ⟨rfl, rfl⟩ := trodVars_none hV
  have k0 := h0
  simp only [List.append_nil] at hW'
  have hlt0 : ∀ x ∈ p0, x.block < W.heap.size := fun x hx => hW'.lt x (by simp [hx])
  obtain ⟨a0, rfl, rfl, rfl, w0⟩ := open_int Tryd.underlying3 (hval 0 3 v0 rfl rfl) h0
  refine (claimEnds_walk W a0 w0 (tab_of_laid hL)).mono fun e W' ⟨he, hg⟩ => ?_
  subst he
  have hb := hg.below (by simp)
  exact ⟨_, rfl, _, _, _, [], _, [], hW', (trodAll_cons_mk (shut_bool Tryd.underlying4 _) trodAll_mk0), (trodAll_cons_mk (Below.trod laidOut (by kernel_rfl) (of_decide_eq_true (by kernel_rfl)) k0 hb hlt0) trodAll_mk0), rfl, hb.frame _, fun h => by cases h⟩

theorem claimEnds_over : Rows.ClaimEndsSaid :=
  OpenClaim.holds_of_wide 7 Tryd.f7 rfl rfl rfl rfl rfl rfl rfl ⟨rfl, rfl, rfl, rfl, rfl⟩ rfl rfl rfl rfl rfl (by kernel_rfl) Tryd.func7 (by kernel_rfl)
    (of_decide_eq_true (by kernel_rfl)) (by unfold Func.isWrapper; first | (rw [if_pos (by decide +kernel)]; kernel_rfl) | (rw [if_neg (by decide +kernel)]; exact ⟨rfl, rfl⟩))
    (fun os started H enc _ => claimEnds_lifted os started H enc)

theorem claimEnds_holds : Rows.ClaimEndsCardSaid :=
  Claim7.holds_tied_plain_at .later [] [.data] true (true, "16d24a33fc2aa0e14e1eec150c167cb59402c41f178cda57adfd34c93caf4e6b") false
    claimEnds_over (fun _ h => by cases h) (by kernel_rfl) (fun _ h => by cases h) claimEnds_row_tie rfl ⟨rfl, rfl⟩ (by kernel_rfl) rfl
    (fun f fn hf hfn => by
      obtain rfl : f = 7 := Option.some.inj ((show Tryd.prog.funcNamed "stepstone/stepstonelaw09.ClaimEnds" = some 7 by kernel_rfl).symm.trans hf) |>.symm
      obtain rfl : fn = Tryd.f7 := (Option.some.inj (Tryd.func7.symm.trans hfn)).symm
      exact ⟨by kernel_rfl, fun j t ht => by
          rw [Tryd.params7] at ht
          rcases j with _ | j
          · have : t = 3 := by simpa using ht.symm
            subst this; exact (show Tryd.prog.wantsStandIn 3 = false by kernel_rfl)
          simp at ht⟩)
    (by kernel_rfl)
#print axioms claimEnds_holds
end Go.Proofs.YtmmpafhfanldbaaDoor
