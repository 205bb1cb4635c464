/-
  Of two owners that go, however their steps are mixed, just one is the last one; behind both the node is linked nowhere: the law RetireTwo is true for every input.
  Conditions: the package variable of handle that the code reads starts as the program's text lays it (the card ties it to that text).
-/
import Derived.Test.YtgafmklfpiipcaaDoorRTwo
import Derived.Test.YtgafmklfpiipcaaDoorHLaid
import Derived.Test.YtgafmklfpiipcaaDoorPArgs
import Derived.Deep.CutRange
import Derived.ProofKit
import Derived.SizedLaws
import Derived.Carry
namespace Go.Proofs.YtgafmklfpiipcaaDoor
open Go.ChangeShapes Go.WideShapes Go.ChangeAt Go.RowKit
open Go.Deep
open Go.Proofs.YtgafmklfpiipcaaDoor.K
set_option maxRecDepth 100000

namespace K
section
variable {w : World} {H : Type} {enc : TypeId × Value → H}
def boC (x : Bool) : List Value := [.bool x]
theorem flat_bo : flat Tryd.prog 3 4 = some [.bool] := by kernel_rfl
theorem cells_bo : Tryd.prog.cellsOf 4 = 1 := by kernel_rfl
theorem bo_cells {cs : List Value} (h : F2 [.bool] cs) : ∃ p : Bool, cs = boC p ∧ True := by
  obtain ⟨a0, r, rfl, h2⟩ := F2_bool h
  obtain rfl := F2_nil h2
  exact ⟨a0, rfl, trivial⟩
theorem bo_row {w : World} {ao : Option Addr} {ts : List Bool} (h : SlOf 1 boC w ao ts) {k : Nat} (hk : k < ts.length) : ∃ b off, ao = some ⟨b, off, none⟩ ∧ b < w.heap.size ∧ w.cell? ⟨b, off + k, none⟩ = some (.bool (ts.getD k false)) := by
  obtain ⟨b, off, rfl, hb, hc⟩ := h (by omega)
  have e : ts.getD k false = ts[k] := by simp [hk]
  rw [e]
  have := hc k hk 0 _ rfl
  rw [Nat.mul_one, Nat.add_zero] at this
  exact ⟨b, off, rfl, hb, this⟩
theorem open_turns14 {r : Reach} {b0 : Nat} {v : Value} {d : DataW H} {p : List MemPlace} (hv : Value.okWide Tryd.prog w r b0 53 v) (h : DataW.Trod enc Tryd.prog w 0 (fun _ => true) true 53 v d p) :
    ∃ (a : Int) (ao : Option Addr) (cap : Nat) (ts : List Bool), v = .agg #[.int .i64 a, .slice ao (List.length ts) cap] ∧ SlOf 1 boC w ao ts := by
  obtain ⟨cs, rfl, hsz⟩ := okWide_struct Tryd.underlying53 hv
  obtain ⟨fuel, h⟩ := h
  have h' : DataW.trod enc Tryd.prog w 0 (fun _ => true) true fuel 53 cs.toList = some (d, p) := by simpa [Value.cells] using h
  obtain ⟨xs, m, _, _, hlen, hxl, hx⟩ := DataW.trod_struct Tryd.underlying53 h'
  have cc : Tryd.prog.cellsOf 53 = 2 := by kernel_rfl
  have w0 : Tryd.prog.cellsOf 3 = 1 := by kernel_rfl
  have w1 : Tryd.prog.cellsOf 51 = 1 := by kernel_rfl
  rw [cc] at hlen
  have hxl3 : xs.length = 2 := hxl
  have x0 := hx 0 _ rfl
  have x1 := hx 1 _ rfl
  rw [List.getElem?_eq_getElem (by omega)] at x0 x1
  obtain ⟨a, e0, b0⟩ := DataW.trod_int Tryd.underlying3 x0
  obtain ⟨ao, cap, ks, e1, S, G⟩ := open_slice_cells true (ks := [.bool]) boC (fun _ => True) Tryd.underlying51 flat_bo cells_bo (by decide) (fun cs hF => bo_cells hF) x1
  change List.take (Tryd.prog.cellsOf 3) (List.drop 0 cs.toList) = _ at e0
  change List.take (Tryd.prog.cellsOf 51) (List.drop 1 cs.toList) = _ at e1
  rw [w0] at e0
  rw [w1] at e1
  refine ⟨a, ao, cap, ks, ?_, S⟩
  · match hcs : cs.toList, hlen with
    | [a1, b1], _ =>
      rw [hcs] at e0 e1
      simp at e0 e1
      subst e0 e1
      rw [show cs = cs.toList.toArray by simp, hcs]
end
theorem ent_any (s : Rtm) : ∃ H B E, s.ent = .agg #[.int .u64 H, .int .u64 B, .int .u64 E] := by
  unfold Rtm.ent entV
  split
  · exact ⟨_, _, _, rfl⟩
  · exact ⟨0, 0, 0, rfl⟩
end K
set_option maxRecDepth 100000 in
set_option maxHeartbeats 8000000 in
theorem retireTwo_walk (w : World) (c : Cfg) (_hg : c.wf) (ao : Option Addr) (ns : List Nn) (cap : Nat) (hs : SlOf 5 nnL w ao ns) (hw : ∀ x ∈ ns, x.wf) (hc : ao = none → cap = 0) (kz : Int) (lo : Option Addr) (ts : List Bool) (lc : Nat) (hts : SlOf 1 boC w lo ts) (hT : Tab w) :
    Calls Tryd.prog 5 #[c.val, .slice ao ns.length cap, .agg #[.int .i64 kz, .slice lo ts.length lc]] w fun e w' => e = .returned (.bool true) ∧ Kept [] w w' := by
  obtain ⟨tn, htn⟩ : ∃ tn, tn = ts.length := ⟨_, rfl⟩
  rw [← htn]
  have HTN := hidOf htn
  have HTS := hidOf hts
  clear htn hts
  simp only [Cfg.val]
  obtain ⟨n, hn⟩ : ∃ n, n = ns.length := ⟨_, rfl⟩
  rw [← hn]
  have HNN := hidOf hn
  have HS := hidOf hs
  have HW := hidOf hw
  have HCP := hidOf hc
  have HT := hidOf hT
  clear hn hs hw hT hc
  obtain ⟨q, hq⟩ : ∃ q, q = w.heap.size := ⟨_, rfl⟩
  have BX : Hid (RW 23 ((w.alloc (.cells #[.int .i64 c.t, .int .i64 c.s, .int .i64 c.c, .int .i64 c.h, .int .i64 c.k, .int .i64 c.e, .int .i64 c.l] 23)).alloc (.cells #[.int .i64 kz, .slice lo tn lc] 53)) q #[.int .i64 c.t, .int .i64 c.s, .int .i64 c.c, .int .i64 c.h, .int .i64 c.k, .int .i64 c.e, .int .i64 c.l] ∧ RW 53 ((w.alloc (.cells #[.int .i64 c.t, .int .i64 c.s, .int .i64 c.c, .int .i64 c.h, .int .i64 c.k, .int .i64 c.e, .int .i64 c.l] 23)).alloc (.cells #[.int .i64 kz, .slice lo tn lc] 53)) (q + 1) #[.int .i64 kz, .slice lo tn lc] ∧ Kept [] w ((w.alloc (.cells #[.int .i64 c.t, .int .i64 c.s, .int .i64 c.c, .int .i64 c.h, .int .i64 c.k, .int .i64 c.e, .int .i64 c.l] 23)).alloc (.cells #[.int .i64 kz, .slice lo tn lc] 53))) := hidOf (by
    have z := two_new 23 53 w #[.int .i64 c.t, .int .i64 c.s, .int .i64 c.c, .int .i64 c.h, .int .i64 c.k, .int .i64 c.e, .int .i64 c.l] #[.int .i64 kz, .slice lo tn lc] hq
    exact ⟨z.1, z.2.1, z.2.2⟩)
  go_enter Tryd.func5, Tryd.ntmps5
  go_upto_region 1 with (fail)
  rw [← hq]
  refine gen_world (fun W => RW 23 W q #[.int .i64 c.t, .int .i64 c.s, .int .i64 c.c, .int .i64 c.h, .int .i64 c.k, .int .i64 c.e, .int .i64 c.l] ∧ RW 53 W (q + 1) #[.int .i64 kz, .slice lo tn lc] ∧ Kept [] w W) BX.out ?_
  have hqw : w.heap.size ≤ q := by omega
  clear BX hq
  rintro W ⟨CB0, CB1, K0⟩
  have HX := hidOf (And.intro CB0 K0)
  have HXP := hidOf CB1
  clear CB0 CB1 K0
  have z0 := cell_of_blk HXP.out (i := 0) (v := .int .i64 kz) rfl
  have zl := lt_of_blk HXP.out
  have ND := hidOf (node_any c ns ao n cap kz 2 W (HT.out.kept HX.out.2) HW.out (HS.out.new HX.out.2) HNN.out HCP.out)
  go_wp2_with (first | ((with_reducible change wpList _ _ _ (Oper.mk _ (Op.load 23 (Operand.tmp 3)) _ _ _ _ :: _) _ _); refine wpList_load_rw 23 isT_cf rfl (.tmp 3) rfl q rfl #[.int .i64 c.t, .int .i64 c.s, .int .i64 c.c, .int .i64 c.h, .int .i64 c.k, .int .i64 c.e, .int .i64 c.l] rfl HX.out.1 ?_))
  with_reducible refine ND.out.mono ?_
  rintro e w1 ⟨K1, ⟨rfl, no⟩ | ⟨k, hkz, hk, hR, m, p, r, a0, rfl, hpr, M⟩⟩
  · have K2 := hidOf (HX.out.2.trans K1)
    clear K1 no ND
    
    have AL := hidOf (alive_any _ (HT.out.kept (K2.out)))
    have KF := hidOf (K2.out)
    go_wp2_with fail
    with_reducible refine AL.out.mono ?_
    rintro e WA ⟨rfl, KA⟩
    have KG := hidOf (KF.out.trans KA)
    clear KA
    go_wp2
    go_ret
    exact ⟨rfl, KG.out⟩
  have HR := hidOf hR
  have RR := hidOf (riB_true.1 hR.r)
  have HK := hidOf hk
  have hkn : (k : Int) < n := by have := HNN.out; omega
  have hknl : k < n := by omega
  have n64 : (n : Int) ≤ 64 := by have := HR.out.n; have := HNN.out; have := RR.out.c1; omega
  have HY := hidOf (And.intro M (HX.out.2.trans K1))
  have HPR := hidOf (show w.heap.size ≤ m ∧ w.heap.size ≤ p ∧ w.heap.size ≤ r by have := HX.out.2.size; omega)
  have HBX := hidOf (HX.out.1.kept K1 (by simp))
  have HWI := hidOf (rhw_isW (k := k + 1) (by omega))
  have HWX := hidOf (show ixV (hw (k + 1)) = (k : Int) + 1 by rw [hw_ix (by omega)]; omega)
  have HWP := hidOf (show plainV (hw (k + 1)) = hw (k + 1) from (plainV_of (hw (k + 1))).2 (hw_mk (by omega)))
  obtain ⟨HWK, hHWK⟩ : ∃ z, z = hw (k + 1) := ⟨_, rfl⟩
  rw [← hHWK] at HWI HWX HWP
  try rw [← hHWK]
  have HHW := hidOf hHWK
  have HXP1 := hidOf (HXP.out.kept K1 (by simp))
  clear M K1 hpr hR hk ND HX hHWK
  obtain ⟨b1, o1, ea, -⟩ := nn_row HS.out HK.out
  subst ea
  obtain ⟨x, hx⟩ : ∃ x, x = ns.getD k nn0 := ⟨_, rfl⟩
  have HXE := hidOf hx
  have RO : Hid (∀ Y, Kept [] w Y → Y.cell? ⟨b1, o1 + k * 5, none⟩ = some (.int .u64 x.k) ∧ b1 < Y.heap.size) := hidOf (fun Y kk => by
    obtain ⟨b, o, e, l, y0, _⟩ := nn_row (HS.out.new kk) HK.out
    cases e
    rw [HXE.out]; exact ⟨y0, l⟩)
  clear hx
  subst hkz
  clear z0 zl HXP
  have z1 := cell_of_blk HXP1.out (i := 1) (v := .slice lo tn lc) rfl
  have zl := lt_of_blk HXP1.out
  by_cases hk5 : (100 : Int) < tn
  · have hk5b : decide ((100 : Int) < tn) = true := by simp; omega
    have hk5c : decide (100 < tn) = true := by simp; omega
    have AL := hidOf (alive_any _ (HT.out.kept (HY.out.2)))
    have KF := hidOf (HY.out.2)
    go_wp2_with fail
    with_reducible refine AL.out.mono ?_
    rintro e WA ⟨rfl, KA⟩
    have KG := hidOf (KF.out.trans KA)
    clear KA
    go_wp2
    go_ret
    exact ⟨rfl, KG.out⟩
  have hk5b : decide ((100 : Int) < tn) = false := by simp; omega
  have hk5c : decide (100 < tn) = false := by simp; omega
  have HLD := hidOf (ldr_is (ow := 2) HR.out HW.out HK.out (by unfold isW; omega))
  obtain ⟨OV, hOV⟩ : ∃ OV, OV = ownV c ns k 2 := ⟨_, rfl⟩
  rw [← hOV] at HLD HY
  clear hOV
  have SX : Hid (∀ W' : World, Kept [] w1 W' → W'.cell? ⟨q + 1, 0, none⟩ = some (.int .i64 (k : Int)) ∧ W'.cell? ⟨b1, o1 + k * 5, none⟩ = some (.int .u64 x.k)) := hidOf (fun W' kk => ⟨cell_of_blk (HXP1.out.kept kk (by simp)) (i := 0) rfl, (RO.out W' (HY.out.2.trans kk)).1⟩)
  have NWA := hidOf (fun (W' : World) (kk : Kept [] w1 W') => (rtnew_any HWK x.k W' (HT.out.kept (HY.out.2.trans kk)) HWI.out.1 HWI.out.2).mono fun e w' hh => (by
    obtain ⟨b, fb, e1, h1, h2, B, F, K⟩ := hh
    have := kk.size
    exact ⟨b, fb, e1, ⟨⟨h1, h2⟩, by omega, by omega⟩, And.intro B F, K, kk.trans K⟩ : ∃ b fb, e = .returned (.pointer (some ⟨b, 0, none⟩)) ∧ ((W'.heap.size ≤ b ∧ W'.heap.size ≤ fb) ∧ w1.heap.size ≤ b ∧ w1.heap.size ≤ fb) ∧ (RtB w' b fb (K.ffV 34 b) false (plainV HWK) 0 0 ∧ FB w' fb (K.ffV 58 fb) x.k 0 0 0 0 0 none 0 0) ∧ Kept [] W' w' ∧ Kept [] w1 w'))
  go_wp2_with fail
  go_region_held3 (fun W' => W'.cell? ⟨q + 1, 0, none⟩ = some (.int .i64 (k : Int)) ∧ W'.cell? ⟨b1, o1 + k * 5, none⟩ = some (.int .u64 x.k))
    (exact SX.out _ (by first | assumption | exact (Kept.refl _ _).drew | exact Kept.refl _ _))
    (first
      | ((fail_if_success (have zz := Ka2)); go_at_call 11; with_reducible refine (NWA.out _ (by first | assumption | exact (Kept.refl _ _).drew)).mono ?_; rintro e wa2 ⟨ba, fa, rfl, ha, Ba, Ka2, La2⟩)
      | (go_at_call 11; with_reducible refine (NWA.out _ (by first | assumption | exact (Kept.refl _ _).drew)).mono ?_; rintro e wb2 ⟨bb, fb, rfl, hb, Bb, Kb2, Lb2⟩))
  have HC2 : Hid (¬ ba = bb) := hidOf (by
    have l1 := lt_of_blk Ba.1
    have := hb.1.1
    omega)
  have HP : Hid (Rp w wb2 ba fa m p r c HWK x.k OV 1 a0 ∧ Rp w wb2 bb fb m p r c HWK x.k OV 1 a0) := hidOf (by
    have sz := HY.out.2.size
    have ha2 := ha.2
    have hb2 := hb.2
    exact ⟨⟨Ba.1.kept Kb2 (by simp), Ba.2.kept Kb2 (by simp), HY.out.1.new Lb2, HY.out.2.trans Lb2, HT.out, by omega, by omega, HPR.out.2.1, HPR.out.2.2, HR.out.r, HLD.out.wd, by omega, HWI.out⟩,
      ⟨Bb.1, Bb.2, HY.out.1.new Lb2, HY.out.2.trans Lb2, HT.out, by omega, by omega, HPR.out.2.1, HPR.out.2.2, HR.out.r, HLD.out.wd, by omega, HWI.out⟩⟩)
  have HXP2 := hidOf (HXP1.out.kept Lb2 (by simp))
  have HBX2 := hidOf (HBX.out.kept Lb2 (by simp))
  clear Ka2 La2 Kb2 Lb2 ha hb Ba Bb SX NWA HXP1 HBX z1 zl
  have SG : Hid (∀ W' : World, Kept [] wb2 W' → W'.cell? ⟨q, 0, none⟩ = some (.int .i64 c.t)) := hidOf (fun W' kk => cell_of_blk (HBX2.out.kept kk (by simp)) (i := 0) rfl)
  obtain ⟨tz, htz⟩ : ∃ z, z = IntKind.i64.wrap (c.t - 1) := ⟨_, rfl⟩
  have GA := hidOf (fun (W' : World) (kk : Kept [] wb2 W') => (gnew_any 0 W').mono fun e w' hh => (by
    obtain ⟨b, e1, h1, G, K⟩ := hh
    have := kk.size
    exact ⟨b, e1, ⟨h1, by omega⟩, G, K, kk.trans K⟩ : ∃ b, e = .returned (.pointer (some ⟨b, 0, none⟩)) ∧ (W'.heap.size ≤ b ∧ wb2.heap.size ≤ b) ∧ GB w' b ⟨0, 0, 0⟩ ∧ Kept [] W' w' ∧ Kept [] wb2 w'))
  have GBb : Hid (∀ (W' : World) (kk : Kept [] wb2 W'), Calls Tryd.prog 21 #[.int .i64 (IntKind.i64.wrap (c.t - 1))] W' fun e w' => ∃ b, e = .returned (.pointer (some ⟨b, 0, none⟩)) ∧ (W'.heap.size ≤ b ∧ wb2.heap.size ≤ b) ∧ GB w' b ⟨0, 0, tz⟩ ∧ Kept [] W' w' ∧ Kept [] wb2 w') := hidOf (fun (W' : World) (kk : Kept [] wb2 W') => by
    rw [← htz]
    exact (gnew_any tz W').mono fun e w' hh => by
      obtain ⟨b, e1, h1, G, K⟩ := hh
      have := kk.size
      exact ⟨b, e1, ⟨h1, by omega⟩, G, K, kk.trans K⟩)
  clear htz
  go_wp2_with fail
  go_region_held3 (fun W' => W'.cell? ⟨q, 0, none⟩ = some (.int .i64 c.t))
    (exact SG.out _ (by first | assumption | exact (Kept.refl _ _).drew | exact Kept.refl _ _))
    (first
      | (go_at_call 21; with_reducible refine (GA.out _ (by first | assumption | exact (Kept.refl _ _).drew)).mono ?_; rintro e wg1 ⟨ga, rfl, hga, Ga, Kg1, Lg1⟩)
      | (go_at_call 21; with_reducible refine (GBb.out _ (by first | assumption | exact (Kept.refl _ _).drew)).mono ?_; rintro e wg2 ⟨gb, rfl, hgb, Gb, Kg2, Lg2⟩))
  have HTR : Hid (Tr w wg2 ba fa ga 0 bb fb gb tz m p r c ns k 0 1560 1) := hidOf (by
    have P1 := HP.out.1.new Lg2
    have P2 := HP.out.2.new Lg2
    have s0 := HP.out.1.kp.size
    have S1 := P1.start (Ga.kept Kg2 (by simp)) (by omega)
    have S2 := P2.start Gb (by omega)
    rw [HHW.out, HXE.out] at S1 S2
    exact ⟨HC2.out, HR.out.r, HK.out, HR.out.n, by omega, by omega, ⟨P1.ob, P2.ob⟩, Or.inl ⟨rfl, ⟨OV, a0, S1, S2, HLD.out⟩, rfl⟩⟩)
  have HXP3 := hidOf (HXP2.out.kept Lg2 (by simp))
  have HKG := hidOf (HTR.out.kp.1)
  have HKZ := hidOf (show Kept [] wb2 wg2 from Lg2)
  clear Kg1 Lg1 Kg2 Lg2 hga hgb Ga Gb GA GBb SG HP HXP2 HBX2 HC2 HLD HY
  have z1 := cell_of_blk HXP3.out (i := 1) (v := .slice lo tn lc) rfl
  have tn2 : (tn : Int) ≤ 100 := by omega
  go_wp2
  clear z1
  go_loopw [76, 15] (fun s76 _ wr => ∃ i : Nat, i ≤ tn ∧ s76 = .int .i64 i ∧ RW 53 wr (q + 1) #[.int .i64 (k : Int), .slice lo tn lc] ∧ ∃ who left cnt, Tr w wr ba fa ga 0 bb fb gb tz m p r c ns k who left cnt ∧ cnt ≤ 1 + i) (fun s76 _ _ => tn - (intOf s76).toNat)
  case atStart => exact ⟨0, by omega, by first | rfl | go_num, HXP3.out, 0, 1560, 1, HTR.out, by omega⟩
  case round =>
    clear HTR HXP3
    obtain ⟨i, hi, rfl, XP, who, left, cnt, T, hc⟩ := hrel
    have HZ := hidOf (And.intro T (And.intro hc XP))
    clear T hc XP
    by_cases hlt : i < tn
    · have hltz : (i : Int) < (tn : Int) := by omega
      obtain ⟨b3, o3, rfl, l3, c3⟩ := bo_row (HTS.out.new HZ.out.1.kp.1) (k := i) (by have := HTN.out; omega)
      obtain ⟨tv, htv⟩ : ∃ t, t = ts.getD i false := ⟨_, rfl⟩
      rw [← htv] at c3
      clear htv
      have zr : (200 : Int) < 4611686018427387904 := by omega
      cases tv with
      | true =>
        have SP := hidOf (HZ.out.1.step (by have := HZ.out.2.1; omega))
        go_wp2_with fail
        with_reducible refine SP.out.mono ?_
        rintro e w4 ⟨rfl, who2, left2, cnt2, T2, c2, kp2, -, -, -⟩
        have HQ := hidOf (And.intro T2 (show cnt2 ≤ 1 + ((i + 1 : Nat) : Int) by have := HZ.out.2.1; omega))
        have HXQ : Hid (RW 53 w4 (q + 1) #[.int .i64 (k : Int), .slice (some ⟨b3, o3, none⟩) tn lc]) := hidOf (kp2 _ _ _ HZ.out.2.2 (by decide) (by decide) (by decide) (by decide) (by decide) (by decide))
        clear SP T2 c2 kp2 HZ
        go_wp2
        go_roundw
        case rel => exact ⟨i + 1, by omega, by go_num, HXQ.out, who2, left2, cnt2, HQ.out.1, HQ.out.2⟩
        case measure => simp [intOf]; omega
      | false =>
        have SP := hidOf (HZ.out.1.step2 (by have := HZ.out.2.1; omega))
        go_wp2_with fail
        with_reducible refine SP.out.mono ?_
        rintro e w4 ⟨rfl, who2, left2, cnt2, T2, c2, kp2, -, -, -⟩
        have HQ := hidOf (And.intro T2 (show cnt2 ≤ 1 + ((i + 1 : Nat) : Int) by have := HZ.out.2.1; omega))
        have HXQ : Hid (RW 53 w4 (q + 1) #[.int .i64 (k : Int), .slice (some ⟨b3, o3, none⟩) tn lc]) := hidOf (kp2 _ _ _ HZ.out.2.2 (by decide) (by decide) (by decide) (by decide) (by decide) (by decide))
        clear SP T2 c2 kp2 HZ
        go_wp2
        go_roundw
        case rel => exact ⟨i + 1, by omega, by go_num, HXQ.out, who2, left2, cnt2, HQ.out.1, HQ.out.2⟩
        case measure => simp [intOf]; omega
    · have hltz : ¬ (i : Int) < (tn : Int) := by omega
      have HQ := hidOf (And.intro HZ.out.1 (And.intro (show cnt ≤ 200 by have := HZ.out.2.1; omega) HZ.out.2.2))
      clear HZ
      go_wp2
      go_loopw [90] (fun s90 wr => ∃ i : Nat, i ≤ 2000 ∧ s90 = .int .i64 i ∧ RW 53 wr (q + 1) #[.int .i64 (k : Int), .slice lo tn lc] ∧ ∃ who left cnt, Tr w wr ba fa ga 0 bb fb gb tz m p r c ns k who left cnt ∧ cnt ≤ 200 + 2 * i ∧ (i = 0 ∨ ¬ who = 0) ∧ (left = 0 ∨ left + i ≤ 1560)) (fun s90 _ => 2000 - (intOf s90).toNat)
      case atStart => exact ⟨0, by omega, by first | rfl | go_num, HQ.out.2.2, who, left, cnt, HQ.out.1, by have := HQ.out.2.1; omega, Or.inl rfl, by have := HQ.out.1.le; omega⟩
      case round =>
        clear HQ
        obtain ⟨j, hj, rfl, XP, who, left, cnt, T, hc, hw0, hl⟩ := hrel
        have HZ := hidOf (And.intro T (And.intro hc (And.intro XP (And.intro hw0 hl))))
        clear T hc XP hw0 hl
        by_cases hlt2 : j < 2000
        · have hltz2 : (j : Int) < 2000 := by omega
          have SP := hidOf (HZ.out.1.step (by have := HZ.out.2.1; omega))
          go_wp2_with fail
          with_reducible refine SP.out.mono ?_
          rintro e w4 ⟨rfl, who2, left2, cnt2, T2, c2, kp2, q0, q1, q2⟩
          have HQ := hidOf (And.intro T2 (And.intro c2 (And.intro kp2 (And.intro q0 (And.intro q1 q2)))))
          clear SP T2 c2 kp2 q0 q1 q2
          have SP := hidOf (HQ.out.1.step2 (by have := HZ.out.2.1; have := HQ.out.2.1; omega))
          go_wp2_with fail
          with_reducible refine SP.out.mono ?_
          rintro e w5 ⟨rfl, who3, left3, cnt3, T3, c3, kp3, p0, p1, p2⟩
          have HRT := hidOf (kp3 _ _ _ (HQ.out.2.2.1 _ _ _ HZ.out.2.2.1 (by decide) (by decide) (by decide) (by decide) (by decide) (by decide)) (by decide) (by decide) (by decide) (by decide) (by decide) (by decide))
          have HST := hidOf (And.intro T3 (show cnt3 ≤ 200 + 2 * ((j + 1 : Nat) : Int) ∧ (j + 1 = 0 ∨ ¬ who3 = 0) ∧ (left3 = 0 ∨ left3 + ((j + 1 : Nat) : Int) ≤ 1560) by
            have z1 := HZ.out.2.1
            have z2 := HQ.out.2.1
            have z3 := HZ.out.2.2.2.2
            have z4 := HZ.out.1.le
            have z5 := HQ.out.1.le
            obtain ⟨q0, q1, q2⟩ := HQ.out.2.2.2
            have w3 : who = 0 ∨ who = 1 ∨ who = 2 := by
              rcases HZ.out.1.ph with ⟨e, _⟩ | ⟨e, _⟩ | ⟨e, _⟩ <;> omega
            refine ⟨by omega, ?_⟩
            rcases w3 with e | e | e
            · obtain ⟨a1, a2⟩ := q0 e
              obtain ⟨a3, a4⟩ := p1 a1
              have z6 : left = 1560 := by
                rcases HZ.out.1.ph with ⟨_, _, y⟩ | ⟨y, _⟩ | ⟨y, _⟩ <;> omega
              have z7 := HZ.out.2.2.2.1
              rw [if_neg (by omega)] at a4
              have z8 : j = 0 ∨ left ≤ 1560 - j := by omega
              refine ⟨by omega, ?_⟩
              omega
            · obtain ⟨a1, a2⟩ := q1 e
              obtain ⟨a3, a4⟩ := p1 a1
              refine ⟨by omega, ?_⟩
              split at a4 <;> omega
            · obtain ⟨a1, a2⟩ := q2 e
              obtain ⟨a3, a4⟩ := p2 a1
              refine ⟨by omega, ?_⟩
              split at a2 <;> omega))
          clear SP T3 c3 kp3 p0 p1 p2 HQ HZ
          go_wp2
          go_roundw
          case rel => exact ⟨j + 1, by omega, by go_num, HRT.out, who3, left3, cnt3, HST.out.1, HST.out.2.1, HST.out.2.2.1, HST.out.2.2.2⟩
          case measure => simp [intOf]; omega
        · have hje : j = 2000 := by omega
          subst hje
          have l0 : left = 0 := by have := HZ.out.2.2.2.2; have := HZ.out.1.le; omega
          obtain ⟨X, sA, sB, FA, FB, cs2, a2, M, WD, UN, OK2, op, or_⟩ := HZ.out.1.fin l0
          have HE := hidOf (And.intro FA (And.intro FB (And.intro M (And.intro WD (And.intro UN (And.intro OK2 (And.intro op or_)))))))
          have HKP := hidOf HZ.out.1.kp
          have HXP5 := hidOf HZ.out.2.2.1
          have HCN := hidOf (show 0 ≤ cnt ∧ cnt ≤ 5000 by have := HZ.out.2.1; have := HZ.out.1.n0; omega)
          clear HZ FA FB M WD UN OK2 op or_ l0
          have ET := hidOf (rtentry_any ba fa sA wr HE.out.1.1)
          obtain ⟨HH, BB, EE, hen⟩ := ent_any sA
          rw [hen, HE.out.1.2.2] at ET
          clear hen
          go_wp2_with fail
          with_reducible refine ET.out.mono ?_
          rintro e w5 ⟨rfl, K5⟩
          have BX : Hid (Kept [] wr (w5.alloc (.cells #[.int .u64 HH, .int .u64 BB, .int .u64 EE] 37))) := hidOf (K5.alloc _)
          clear ET K5
          go_upto_region 21 with (fail)
          refine gen_world (fun Y => Kept [] wr Y) BX.out ?_
          clear BX
          rintro Y1 KY1
          have HY1 := hidOf KY1
          clear KY1
          have ET := hidOf (rtentry_any bb fb sB Y1 (HE.out.2.1.1.kept HY1.out (by simp)))
          obtain ⟨HH, BB, EE, hen⟩ := ent_any sB
          rw [hen, HE.out.2.1.2.2] at ET
          clear hen
          go_wp2_with fail
          with_reducible refine ET.out.mono ?_
          rintro e w5 ⟨rfl, K5⟩
          have BX : Hid (Kept [] Y1 (w5.alloc (.cells #[.int .u64 HH, .int .u64 BB, .int .u64 EE] 37))) := hidOf (K5.alloc _)
          clear ET K5
          go_upto_region 22 with (fail)
          refine gen_world (fun Y => Kept [] Y1 Y) BX.out ?_
          clear BX
          rintro Y2 KY2
          have HY2 := hidOf (HY1.out.trans KY2)
          clear KY2 HY1
          have AL := hidOf (alive_any Y2 (HKP.out.2.kept HY2.out))
          go_wp2_with fail
          with_reducible refine AL.out.mono ?_
          rintro e w6 ⟨rfl, K6⟩
          have HY6 := hidOf (HY2.out.trans K6)
          clear K6 AL HY2
          have DA := hidOf (rtdone_any ba fa sA _ _ _ _ w6 (HE.out.1.1.kept HY6.out (by simp)))
          rw [HE.out.1.2.1] at DA
          have c0 := cell_of_blk (HXP5.out.kept HY6.out (by simp)) (i := 0) (v := .int .i64 (k : Int)) rfl
          have cl := lt_of_blk (HXP5.out.kept HY6.out (by simp))
          have wk1 : IntKind.i64.wrap ((k : Int) + 1) = (k : Int) + 1 := by rw [IntKind.wrap_i64]; omega
          go_wp2_with fail
          with_reducible refine DA.out.mono ?_
          rintro e w7 ⟨rfl, rfl⟩
          clear DA
          have DB := hidOf (rtdone_any bb fb sB _ _ _ _ w7 (HE.out.2.1.1.kept HY6.out (by simp)))
          rw [HE.out.2.1.2.1] at DB
          go_wp2_with fail
          with_reducible refine DB.out.mono ?_
          rintro e w8 ⟨rfl, rfl⟩
          clear DB
          have LK := hidOf (linked14_any w8 m p r c cs2 cnt a2 (ndOf c (delN ns k)) (k + 1) (HE.out.2.2.1.new HY6.out) (HKP.out.2.kept HY6.out) RR.out (by have := HE.out.2.2.2.2.2.2.1; have := lt_of_cell HT.out.1; omega) (by have := HE.out.2.2.2.2.2.2.2; have := lt_of_cell HT.out.1; omega) HE.out.2.2.2.1 (n_lt RR.out HE.out.2.2.2.2.2.1) HCN.out.1 (by have := HCN.out.2; omega))
          rw [show ((k + 1 : Nat) : Int) = (k : Int) + 1 by omega] at LK
          cases X with
          | true =>
            go_wp2_with fail
            with_reducible refine LK.out.mono ?_
            rintro e w9 ⟨B, cnt3, a3, rfl, hB, M8, c3, c4, K8⟩
            obtain rfl := hB HE.out.2.2.2.2.1
            have KF := hidOf ((HKP.out.1.trans HY6.out).then K8 (by have := HE.out.2.2.2.2.2.2; simp; omega))
            clear hB M8 c3 c4 K8 LK
            go_wp2
            go_ret
            exact ⟨rfl, KF.out⟩
          | false =>
            go_wp2_with fail
            with_reducible refine LK.out.mono ?_
            rintro e w9 ⟨B, cnt3, a3, rfl, hB, M8, c3, c4, K8⟩
            obtain rfl := hB HE.out.2.2.2.2.1
            have KF := hidOf ((HKP.out.1.trans HY6.out).then K8 (by have := HE.out.2.2.2.2.2.2; simp; omega))
            clear hB M8 c3 c4 K8 LK
            go_wp2
            go_ret
            exact ⟨rfl, KF.out⟩

set_option maxRecDepth 100000 in
theorem retireTwo_lifted (os : Os) (started : os.Started) (H : Type) (enc : TypeId × Value → H) :
    ReturnsInHanded {} Tryd.checked os 5 .any (fun w args => (Rows.retireTwoSpec.pre enc Tryd.prog Tryd.f5 [] false w args ∧ laidMetH Tryd.prog laid1 w) ∧ sizedMet enc Tryd.prog Tryd.f5 (OpenSpec.ofChange Rows.retireTwoSpec) false w args)
      (Rows.retireTwoSpec.post enc Tryd.prog Tryd.f5 false true false false) := by
  refine returnsInHanded_of_change_and (C := Tryd.checked) (X := fun w _ => laidMetH Tryd.prog laid1 w) (fun _ _ _ hh h => h.of_heap hh) own started (by kernel_rfl) Tryd.func5
    (ChangeSpec.witness_shaped (enc := enc) (C := Tryd.checked) (os := os) (X := fun w _ => laidMetH Tryd.prog laid1 w) false (World.doorLaid Tryd.prog 400 os) #[.agg #[.int .i64 0, .int .i64 0, .int .i64 0, .int .i64 0, .int .i64 0, .int .i64 0, .int .i64 0], .slice none 0 0, .agg #[.int .i64 0, .slice none 0 0]] 8 rfl (World.shaped_of_RefB (by kernel_rfl) (by kernel_rfl)) (by kernel_rfl) (by kernel_rfl) (by kernel_rfl) (door_met os _)) ?_
  intro W base args ds gs before hval0 hW _ _ hL _
  have hval : ∀ (j : Nat) t v, Tryd.f5.params[j]? = some t → args[j]? = some v → Value.okWide Tryd.prog W .any base t v := hval0
  have hW' := hW
  obtain ⟨p, q, hA0, hV, rfl, _, _⟩ := hW
  have hA : DataW.TrodAll enc Tryd.prog W 0 (fun _ => true) true Tryd.f5.params.toList args.toList ds p := hA0
  rw [Tryd.params5] at hA hval
  clear hA0 hval0
  obtain ⟨v0, vs0, d0, ds0, p0, q0, hargs, rfl, rfl, h0, r0⟩ := trodAll_cons hA
  obtain ⟨v1, vs1, d1, ds1, p1, q1, rfl, rfl, rfl, h1, r1⟩ := trodAll_cons r0
  obtain ⟨v2, vs2, d2, ds2, p2, q2, rfl, rfl, rfl, h2, r2⟩ := trodAll_cons r1
  obtain ⟨rfl, rfl, rfl⟩ := trodAll_nil r2
  obtain rfl : args = #[v0, v1, v2] := by cases args; simp_all
  obtain ⟨rfl, rfl⟩ := trodVars_none hV
  have k0 := h0
  have k1 := h1
  have k2 := h2
  simp only [List.append_nil] at hW'
  have hlt0 : ∀ x ∈ p0, x.block < W.heap.size := fun x hx => hW'.lt x (by simp [hx])
  have hlt1 : ∀ x ∈ p1, x.block < W.heap.size := fun x hx => hW'.lt x (by simp [hx])
  have hlt2 : ∀ x ∈ p2, x.block < W.heap.size := fun x hx => hW'.lt x (by simp [hx])
  obtain ⟨c0, rfl, g0⟩ := open_cfg (hval 0 23 v0 rfl rfl) h0
  obtain ⟨ao1, cap1, ns1, rfl, s1, g1, n1⟩ := open_nodes2 (hval 1 24 v1 rfl rfl) h1
  obtain ⟨az2, lo2, lc2, ts2, rfl, t2⟩ := open_turns14 (hval 2 53 v2 rfl rfl) h2
  refine (retireTwo_walk W c0 g0 ao1 ns1 cap1 s1 g1 n1 az2 lo2 ts2 lc2 t2 (tab_of_laid hL)).mono fun e W' ⟨he, hg⟩ => ?_
  subst he
  have hb := hg.below (by simp)
  exact ⟨_, rfl, _, _, _, [], _, [], hW', (trodAll_cons_mk (shut_bool Tryd.underlying4 _) trodAll_mk0), (trodAll_cons_mk (Below.trod laidOut (by kernel_rfl) (of_decide_eq_true (by kernel_rfl)) k0 hb hlt0) (trodAll_cons_mk (Below.trod laidOut (by kernel_rfl) (of_decide_eq_true (by kernel_rfl)) k1 hb hlt1) (trodAll_cons_mk (Below.trod laidOut (by kernel_rfl) (of_decide_eq_true (by kernel_rfl)) k2 hb hlt2) trodAll_mk0))), rfl, hb.frame _, fun h => by cases h⟩

theorem retireTwo_over : Rows.RetireTwoSaid :=
  OpenClaim.holds_of_wide 5 Tryd.f5 rfl rfl rfl rfl rfl rfl rfl ⟨rfl, rfl, rfl, rfl, rfl⟩ rfl rfl rfl rfl rfl (by kernel_rfl) Tryd.func5 (by kernel_rfl)
    (of_decide_eq_true (by kernel_rfl)) (by unfold Func.isWrapper; first | (rw [if_pos (by decide +kernel)]; kernel_rfl) | (rw [if_neg (by decide +kernel)]; exact ⟨rfl, rfl⟩))
    (fun os started H enc _ => retireTwo_lifted os started H enc)

theorem retireTwo_holds : Rows.RetireTwoCardSaid :=
  Claim7.holds_tied_plain_at .later [] [.data] true (true, "a31f6f01599eee3ce13a6e1683cb531bb06135781a9e9eb854bb6c4ee7479a88") false
    retireTwo_over (fun _ h => by cases h) (by kernel_rfl) (fun _ h => by cases h) retireTwo_row_tie rfl ⟨rfl, rfl⟩ (by kernel_rfl) rfl
    (fun f fn hf hfn => by
      obtain rfl : f = 5 := Option.some.inj ((show Tryd.prog.funcNamed "stepstone/stepstonelaw14.RetireTwo" = some 5 by kernel_rfl).symm.trans hf) |>.symm
      obtain rfl : fn = Tryd.f5 := (Option.some.inj (Tryd.func5.symm.trans hfn)).symm
      exact ⟨by kernel_rfl, fun j t ht => by
          rw [Tryd.params5] at ht
          rcases j with _ | j
          · have : t = 23 := by simpa using ht.symm
            subst this; exact (show Tryd.prog.wantsStandIn 23 = false by kernel_rfl)
          rcases j with _ | j
          · have : t = 24 := by simpa using ht.symm
            subst this; exact (show Tryd.prog.wantsStandIn 24 = false by kernel_rfl)
          rcases j with _ | j
          · have : t = 53 := by simpa using ht.symm
            subst this; exact (show Tryd.prog.wantsStandIn 53 = false by kernel_rfl)
          simp at ht⟩)
    (by kernel_rfl)
#print axioms retireTwo_holds
end Go.Proofs.YtgafmklfpiipcaaDoor
