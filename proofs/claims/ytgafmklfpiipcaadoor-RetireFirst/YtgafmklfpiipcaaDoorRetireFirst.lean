/-
  An owner that is not the last one changes nothing but how many are left, in one step: the law RetireFirst is true for every input.
  Conditions: the package variable of handle that the code reads starts as the program's text lays it (the card ties it to that text).
-/
import Derived.Test.YtgafmklfpiipcaaDoorRLaws
import Derived.Test.YtgafmklfpiipcaaDoorHLaid
import Derived.Test.YtgafmklfpiipcaaDoorPArgs
import Derived.Deep.CutRange
import Derived.ProofKit
import Derived.SizedLaws
import Derived.Carry
namespace Go.Proofs.YtgafmklfpiipcaaDoor
open Go.ChangeShapes Go.WideShapes Go.ChangeAt Go.RowKit
open Go.Deep
open Go.Proofs.YtgafmklfpiipcaaDoor.K
set_option maxRecDepth 100000

namespace K
theorem flat_pair : (flat Tryd.prog 2 43) = some [.int .i64, .int .i64] := by kernel_rfl
theorem open_pair {H : Type} {enc : TypeId × Value → H} {w : World} {r : Reach} {b0 base : Nat} {spare : Nat → Bool} {held : Bool} {v : Value} {d : DataW H} {p : List MemPlace} (hv : Value.okWide Tryd.prog w r b0 43 v) (h : DataW.Trod enc Tryd.prog w base spare held 43 v d p) : ∃ a b, v = .agg #[.int .i64 a, .int .i64 b] ∧ (Lit.int .i64 b).wf = true := by
  obtain ⟨cs, rfl, hF⟩ := flat_agg (Or.inr ⟨_, _, Tryd.underlying43⟩) flat_pair hv h
  obtain ⟨a, r, e1, _, hF⟩ := F2_int hF
  obtain ⟨b, r, rfl, hb, hF⟩ := F2_int hF
  obtain rfl := F2_nil hF
  exact ⟨a, b, by rw [show cs = cs.toList.toArray by simp, e1], hb⟩
theorem wf_i64 {x : Int} (h : (Lit.int .i64 x).wf = true) : -9223372036854775808 ≤ x ∧ x < 9223372036854775808 := by
  have z : (decide (IntKind.i64.min ≤ x) && decide (x ≤ IntKind.i64.max)) = true := h
  simp [show IntKind.i64.min = -9223372036854775808 from by decide, show IntKind.i64.max = 9223372036854775807 from by decide] at z
  omega
theorem row_getD14 {w : World} {r : Nat} {xs : List Int} (h : Row w r xs) {i : Nat} (hi : i < xs.length) : w.cell? ⟨r, i, none⟩ = some (.int .u64 (xs.getD i 0)) := by
  have z := h.cell hi
  rw [show xs.getD i 0 = xs[i] by simp [hi]]; exact z
theorem only_at (cs : List Int) (X v : Int) (i : Nat) (h : ¬ (clV cs 4 X 0 v).getD i 0 = cs.getD i 0) : (i : Int) = X := by
  unfold Go.Proofs.YtgafmklfpiipcaaDoor.clV at h
  split at h
  · rename_i hx
    obtain ⟨h0, h1⟩ := hx
    by_cases hi : X.toNat = i
    · omega
    · exfalso; apply h
      rw [List.getD_eq_getElem?_getD, List.getElem?_set, if_neg hi, ← List.getD_eq_getElem?_getD]
  · exact absurd rfl h
theorem pl_mark (x : Int) : plainV (markV x) = plainV x := by unfold plainV markV; omega
theorem mark_isW {x : Int} (h : isW x) : isW (markV x) := by unfold isW at *; unfold markV; omega
theorem rtS_mark (x k : Int) : rtS (markV x) k = rtS x k := by unfold rtS; rw [pl_mark]
end K
set_option maxRecDepth 100000 in
set_option maxHeartbeats 8000000 in
theorem retireFirst_walk (w : World) (c : Cfg) (_hg : c.wf) (ao : Option Addr) (ns : List Nn) (cap : Nat) (hs : SlOf 5 nnL w ao ns) (hw : ∀ x ∈ ns, x.wf) (hc : ao = none → cap = 0) (kz tz : Int) (hu : (Lit.int .i64 tz).wf = true) (hT : Tab w) :
    Calls Tryd.prog 4 #[c.val, .slice ao ns.length cap, .agg #[.int .i64 kz, .int .i64 tz]] w fun e w' => e = .returned (.bool true) ∧ Kept [] w w' := by
  simp only [Cfg.val]
  obtain ⟨n, hn⟩ : ∃ n, n = ns.length := ⟨_, rfl⟩
  rw [← hn]
  have HNN := hidOf hn
  have HS := hidOf hs
  have HW := hidOf hw
  have HCP := hidOf hc
  have HT := hidOf hT
  clear hn hs hw hT hc
  obtain ⟨q, hq⟩ : ∃ q, q = w.heap.size := ⟨_, rfl⟩
  have BX : Hid (RW 23 ((w.alloc (.cells #[.int .i64 c.t, .int .i64 c.s, .int .i64 c.c, .int .i64 c.h, .int .i64 c.k, .int .i64 c.e, .int .i64 c.l] 23)).alloc (.cells #[.int .i64 kz, .int .i64 tz] 43)) q #[.int .i64 c.t, .int .i64 c.s, .int .i64 c.c, .int .i64 c.h, .int .i64 c.k, .int .i64 c.e, .int .i64 c.l] ∧ RW 43 ((w.alloc (.cells #[.int .i64 c.t, .int .i64 c.s, .int .i64 c.c, .int .i64 c.h, .int .i64 c.k, .int .i64 c.e, .int .i64 c.l] 23)).alloc (.cells #[.int .i64 kz, .int .i64 tz] 43)) (q + 1) #[.int .i64 kz, .int .i64 tz] ∧ Kept [] w ((w.alloc (.cells #[.int .i64 c.t, .int .i64 c.s, .int .i64 c.c, .int .i64 c.h, .int .i64 c.k, .int .i64 c.e, .int .i64 c.l] 23)).alloc (.cells #[.int .i64 kz, .int .i64 tz] 43))) := hidOf (by
    have z := two_new 23 43 w #[.int .i64 c.t, .int .i64 c.s, .int .i64 c.c, .int .i64 c.h, .int .i64 c.k, .int .i64 c.e, .int .i64 c.l] #[.int .i64 kz, .int .i64 tz] hq
    exact ⟨z.1, z.2.1, z.2.2⟩)
  go_enter Tryd.func4, Tryd.ntmps4
  go_upto_region 1 with (fail)
  rw [← hq]
  refine gen_world (fun W => RW 23 W q #[.int .i64 c.t, .int .i64 c.s, .int .i64 c.c, .int .i64 c.h, .int .i64 c.k, .int .i64 c.e, .int .i64 c.l] ∧ RW 43 W (q + 1) #[.int .i64 kz, .int .i64 tz] ∧ Kept [] w W) BX.out ?_
  have hqw : w.heap.size ≤ q := by omega
  clear BX hq
  rintro W ⟨CB0, CB1, K0⟩
  have HX := hidOf (And.intro CB0 K0)
  have HXP := hidOf CB1
  clear CB0 CB1 K0
  have z0 := cell_of_blk HXP.out (i := 0) (v := .int .i64 kz) rfl
  have z1 := cell_of_blk HXP.out (i := 1) (v := .int .i64 tz) rfl
  have zl := lt_of_blk HXP.out
  have hob := wf_i64 hu
  clear hu
  go_region
  go_upto_region 2 with (fail)
  refine gen_world (fun Y => RW 23 Y q #[.int .i64 c.t, .int .i64 c.s, .int .i64 c.c, .int .i64 c.h, .int .i64 c.k, .int .i64 c.e, .int .i64 c.l] ∧ RW 43 Y (q + 1) #[.int .i64 kz, .int .i64 tz] ∧ Kept [] w Y) ?_ ?_
  · first | exact ⟨HX.out.1.kept (Kept.refl [] _).drew (by simp), HXP.out.kept (Kept.refl [] _).drew (by simp), HX.out.2.trans (Kept.refl _ _).drew⟩ | exact ⟨HX.out.1, HXP.out, HX.out.2⟩
  clear z0 z1 zl HX HXP
  rintro W ⟨CB0, CB1, K0⟩
  have HX := hidOf (And.intro CB0 K0)
  clear CB0 CB1 K0
  by_cases ht : tz < 2
  · have htb : decide (tz < 2) = true := by simpa using ht
    have AL := hidOf (alive_any _ (HT.out.kept (HX.out.2)))
    have KF := hidOf (HX.out.2)
    go_wp2_with fail
    with_reducible refine AL.out.mono ?_
    rintro e WA ⟨rfl, KA⟩
    have KG := hidOf (KF.out.trans KA)
    clear KA
    go_wp2
    go_ret
    exact ⟨rfl, KG.out⟩
  have htb : decide (tz < 2) = false := by simpa using ht
  have hwr : IntKind.u64.wrap tz = tz := by rw [IntKind.wrap_u64]; omega
  have ND := hidOf (node_any c ns ao n cap kz tz W (HT.out.kept HX.out.2) HW.out (HS.out.new HX.out.2) HNN.out HCP.out)
  go_wp2_with (first | ((with_reducible change wpList _ _ _ (Oper.mk _ (Op.load 23 (Operand.tmp 3)) _ _ _ _ :: _) _ _); refine wpList_load_rw 23 isT_cf rfl (.tmp 3) rfl q rfl #[.int .i64 c.t, .int .i64 c.s, .int .i64 c.c, .int .i64 c.h, .int .i64 c.k, .int .i64 c.e, .int .i64 c.l] rfl HX.out.1 ?_))
  with_reducible refine ND.out.mono ?_
  rintro e w1 ⟨K1, ⟨rfl, no⟩ | ⟨k, hkz, hk, hR, m, p, r, a0, rfl, hpr, M⟩⟩
  · have K2 := hidOf (HX.out.2.trans K1)
    clear K1 no ND
    
    have AL := hidOf (alive_any _ (HT.out.kept (K2.out)))
    have KF := hidOf (K2.out)
    go_wp2_with fail
    with_reducible refine AL.out.mono ?_
    rintro e WA ⟨rfl, KA⟩
    have KG := hidOf (KF.out.trans KA)
    clear KA
    go_wp2
    go_ret
    exact ⟨rfl, KG.out⟩
  have HR := hidOf hR
  have RR := hidOf (riB_true.1 hR.r)
  have HK := hidOf hk
  have hkn : (k : Int) < n := by have := HNN.out; omega
  have hknl : k < n := by omega
  have n64 : (n : Int) ≤ 64 := by have := HR.out.n; have := HNN.out; have := RR.out.c1; omega
  have HY := hidOf (And.intro M (HX.out.2.trans K1))
  have HPR := hidOf (show w.heap.size ≤ m ∧ w.heap.size ≤ p ∧ w.heap.size ≤ r by have := HX.out.2.size; omega)
  have HBX := hidOf (HX.out.1.kept K1 (by simp))
  have HWI := hidOf (rhw_isW (k := k + 1) (by omega))
  have HWX := hidOf (show ixV (hw (k + 1)) = (k : Int) + 1 by rw [hw_ix (by omega)]; omega)
  have HWP := hidOf (show plainV (hw (k + 1)) = hw (k + 1) from (plainV_of (hw (k + 1))).2 (hw_mk (by omega)))
  obtain ⟨HWK, hHWK⟩ : ∃ z, z = hw (k + 1) := ⟨_, rfl⟩
  rw [← hHWK] at HWI HWX HWP
  try rw [← hHWK]
  have HHW := hidOf hHWK
  clear M K1 hpr hR hk ND HX hHWK
  obtain ⟨b1, o1, ea, -⟩ := nn_row HS.out HK.out
  subst ea
  obtain ⟨x, hx⟩ : ∃ x, x = ns.getD k nn0 := ⟨_, rfl⟩
  have HXE := hidOf hx
  have RO : Hid (∀ Y, Kept [] w Y → Y.cell? ⟨b1, o1 + k * 5, none⟩ = some (.int .u64 x.k) ∧ b1 < Y.heap.size) := hidOf (fun Y kk => by
    obtain ⟨b, o, e, l, y0, _⟩ := nn_row (HS.out.new kk) HK.out
    cases e
    rw [HXE.out]; exact ⟨y0, l⟩)
  clear hx
  subst hkz
  have LR0 := ldr_is (ow := tz) HR.out HW.out HK.out (by unfold isW; omega)
  have HWD := hidOf LR0.wd
  have HLN := hidOf LR0.ln
  have HOW := hidOf LR0.own
  obtain ⟨OV, hOV⟩ : ∃ OV, OV = ownV c ns k tz := ⟨_, rfl⟩
  rw [← hOV] at HWD HLN HOW HY
  clear hOV LR0
  have BK := hidOf (bank_any m p r c OV 1 a0 w1 HY.out.1)
  go_wp2_with fail
  with_reducible refine BK.out.mono ?_
  rintro e w2 ⟨rfl, rfl⟩
  clear BK
  have CE := hidOf (cells_any p r OV 1 a0 _ HY.out.1.bk)
  go_wp2_with fail
  with_reducible refine CE.out.mono ?_
  rintro e w4 ⟨rfl, RW4, K4⟩
  clear CE
  have HRL := hidOf (And.intro HY.out.1.bk.row.lt (lt_of_blk HY.out.1.bk.st))
  obtain ⟨qr, hqr⟩ : ∃ qr, qr = w2.heap.size := ⟨_, rfl⟩
  rw [← hqr] at RW4 ⊢
  have HQR := hidOf (show r < qr ∧ p < qr ∧ qr < w4.heap.size by have := HRL.out; have := RW4.lt; omega)
  have HRW := hidOf RW4
  have H4 := hidOf (And.intro (HY.out.1.new K4) (HY.out.2.trans K4))
  have HCB4 := hidOf (HBX.out.kept K4 (by simp))
  clear hqr HRL RW4 K4 HY
  obtain ⟨nw1, hnw1⟩ : ∃ z, z = OV.length := ⟨_, rfl⟩
  rw [← hnw1]
  have HNW := hidOf hnw1
  clear hnw1
  have SX : Hid (∀ W' : World, Kept [] w4 W' → W'.cell? ⟨b1, o1 + k * 5, none⟩ = some (.int .u64 x.k)) := hidOf (fun W' kk => (RO.out W' (H4.out.2.trans kk)).1)
  have MK := hidOf (fun (W' : World) (kk : Kept [] w4 W') => (mark_any HWK W' (HT.out.kept (H4.out.2.trans kk)) HWI.out.1 HWI.out.2).mono fun e w' hh => (And.intro hh.1 (kk.trans hh.2) : e = .returned (.int .u64 (markV HWK)) ∧ Kept [] w4 w'))
  obtain ⟨MV, hMV⟩ : ∃ z, z = markV HWK := ⟨_, rfl⟩
  rw [← hMV] at MK
  have HMI := hidOf (show isW MV ∧ plainV MV = plainV HWK from by rw [hMV]; exact ⟨mark_isW HWI.out, pl_mark HWK⟩)
  clear hMV
  have NW := hidOf (fun (W' : World) (kk : Kept [] w4 W') => (rtnew_any MV x.k W' (HT.out.kept (H4.out.2.trans kk)) HMI.out.1.1 HMI.out.1.2).mono fun e w' hh => (by
    obtain ⟨b, fb, e1, h1, h2, B, F, K⟩ := hh
    have := kk.size
    exact ⟨b, fb, e1, by omega, by omega, B, F, kk.trans K⟩ : ∃ b fb, e = .returned (.pointer (some ⟨b, 0, none⟩)) ∧ w4.heap.size ≤ b ∧ w4.heap.size ≤ fb ∧ RtB w' b fb (K.ffV 34 b) false (plainV MV) 0 0 ∧ FB w' fb (K.ffV 58 fb) x.k 0 0 0 0 0 none 0 0 ∧ Kept [] w4 w'))
  go_wp2_with fail
  go_region_held3 (fun W' => W'.cell? ⟨b1, o1 + k * 5, none⟩ = some (.int .u64 x.k))
    (exact SX.out _ (by first | assumption | exact (Kept.refl _ _).drew | exact Kept.refl _ _))
    (first
      | (go_at_call 19; with_reducible refine (MK.out _ (by first | assumption | exact (Kept.refl _ _).drew)).mono ?_; rintro e w7 ⟨rfl, K7⟩)
      | (go_at_call 11; with_reducible refine (NW.out _ (by first | assumption | exact (Kept.refl _ _).drew)).mono ?_; rintro e w8 ⟨b, fb, rfl, hb, hfb, RB, FB3, K8⟩))
  rw [HMI.out.2] at RB
  have PB : Rp w w8 b fb m p r c HWK x.k OV 1 a0 := by
    have sz := H4.out.2.size
    exact ⟨RB, FB3, H4.out.1.new K8, H4.out.2.trans K8, HT.out, by omega, by omega, HPR.out.2.1, HPR.out.2.2, HR.out.r, HWD.out, by omega, HWI.out⟩
  have HP := hidOf PB
  have HRW8 := hidOf (And.intro (HRW.out.kept K8 (by simp)) (show ¬ qr = b ∧ ¬ qr = fb ∧ ¬ qr = p ∧ ¬ qr = r by have := HQR.out; omega))
  have HCB8 := hidOf (HCB4.out.kept K8 (by simp))
  clear hb hfb RB FB3 K7 K8 PB NW MK SX HRW HQR H4 HCB4 HBX
  have HOWN := hidOf (show ¬ (rtS HWK x.k).ow c OV = 1 by
    show ¬ fd c OV (ixV (plainV HWK)) 5 = 1
    have z := HOW.out
    rw [show ((k + 1 : Nat) : Int) = (k : Int) + 1 by omega] at z
    rw [ix_pl, HWX.out, z]; omega)
  have EB := hidOf (ends14_any (I1 c OV (rtS HWK x.k)) w w8 b fb m p r c HWK x.k OV 1 a0 50 1 HP.out (by omega) (by omega) (by omega) (Or.inl ⟨rfl, rfl, rfl⟩)
    (fun cs g s lf cnt' h hd => h.step rfl rfl HOWN.out hd cnt') (fun cs g s lf h hl => h.done hl))
  go_wp2_with fail
  refine EB.out.mono ?_
  rintro e w6 ⟨n2, rfl, -, E2⟩
  obtain ⟨gb, g2, s2, cs2, cnt2, acc2, W2, II2, hd2, z1, z2, -⟩ := E2.fin
  obtain ⟨rfl, la2, en2, to2, cs2e⟩ := I1.fin rfl II2 hd2
  have HZ := hidOf (And.intro W2 (And.intro hd2 (And.intro cs2e (show 0 ≤ cnt2 ∧ cnt2 ≤ 2000 by omega))))
  have HEN := hidOf (And.intro en2 to2)
  have HCB6 : Hid (RW 23 w6 q #[.int .i64 c.t, .int .i64 c.s, .int .i64 c.c, .int .i64 c.h, .int .i64 c.k, .int .i64 c.e, .int .i64 c.l]) := hidOf (E2.fk.blk HCB8.out (by decide) (by
    have n1 := blk_ne (T1 := 23) HCB8.out HP.out.rb (by decide)
    have n2 := blk_ne (T1 := 23) HCB8.out HP.out.ff (by decide)
    have n3 := blk_ne (T1 := 23) HCB8.out HP.out.mm.bk.st (by decide)
    have n4 := blk_ne (T1 := 23) HCB8.out HP.out.mm.bk.row (by decide)
    simp; omega))
  have HRW6 := hidOf (show Row w6 qr OV from E2.fk.blk HRW8.out.1 (by decide) (by have := HRW8.out.2; simp; omega))
  clear E2 W2 II2 hd2 z1 z2 la2 en2 to2 cs2e EB HP HRW8 HCB8 HOWN
  have ET := hidOf (rtentry_any b fb s2 w6 HZ.out.1.rb)
  rw [HEN.out.1, HEN.out.2] at ET
  unfold entV at ET
  go_wp2_with fail
  with_reducible refine ET.out.mono ?_
  rintro e w5 ⟨rfl, K5⟩
  obtain ⟨x15, hx15⟩ : ∃ x, x = w5.heap.size := ⟨_, rfl⟩
  have BX : Hid (Kept [] w6 (w5.alloc (.cells #[.int .u64 0, .int .u64 0, .int .u64 0] 37))) := hidOf (K5.alloc _)
  clear ET K5
  go_upto_region 13 with (fail)
  refine gen_world (fun Y => Kept [] w6 Y) BX.out ?_
  clear BX hx15
  rintro Y K7
  have HV := hidOf (And.intro (HZ.out.1.new K7) (And.intro (HRW6.out.kept K7 (by simp)) (HCB6.out.kept K7 (by simp))))
  clear K7 HRW6 HCB6
  have BK := hidOf HV.out.1.fw.bank
  go_wp2_with fail
  with_reducible refine BK.out.mono ?_
  rintro e w8 ⟨rfl, rfl⟩
  clear BK
  have CE := hidOf HV.out.1.fw.cells
  go_wp2_with fail
  with_reducible refine CE.out.mono ?_
  rintro e w9 ⟨qc, rfl, R9, K9⟩
  have HU := hidOf (And.intro (HV.out.1.new K9) (And.intro (HV.out.2.1.kept K9 (by simp)) (And.intro R9 (HV.out.2.2.kept K9 (by simp)))))
  have eln : cs2.length = nw1 := by rw [HZ.out.2.2.1, clV_len]; exact HNW.out.symm
  rw [eln]
  have HEL := hidOf eln
  have nl : (nw1 : Int) ≤ 900 := by have := HLN.out; have := ln_bd c; have := HNW.out; omega
  clear R9 K9 HV CE eln
  go_wp2
  go_loopw [64, 17, 18] (fun s64 _ _ wr => ∃ i : Nat, i ≤ nw1 ∧ s64 = .int .i64 i ∧ Kept [] w9 wr) (fun s64 _ _ _ => nw1 - (intOf s64).toNat)
  case atStart => exact ⟨0, by omega, by first | rfl | go_num, Kept.refl _ _⟩
  case round =>
    obtain ⟨i, hi, rfl, KX⟩ := hrel
    have HKX := hidOf KX
    clear KX
    by_cases hlt : i < nw1
    · have hltz : (i : Int) < (nw1 : Int) := by omega
      have ra := row_getD14 (HU.out.2.2.1.kept HKX.out (by simp)) (i := i) (by rw [HEL.out]; exact hlt)
      have rb := row_getD14 (HU.out.2.1.kept HKX.out (by simp)) (i := i) (by rw [← HNW.out]; exact hlt)
      have RVX := hidOf (show ¬ cs2.getD i 0 = OV.getD i 0 → (i : Int) = clV' c ((k : Int) + 1) 5 from fun h => by
        rw [HZ.out.2.2.1] at h
        have z := only_at _ _ _ _ h
        rw [z]; show clV' c (ixV (plainV HWK)) 5 = _
        rw [ix_pl, HWX.out])
      generalize cs2.getD i 0 = va at ra RVX
      generalize OV.getD i 0 = vb at rb RVX
      by_cases hv : va = vb
      · have hvb : (va != vb) = false := by simp [hv]
        have HV := hidOf hv
        clear hv
        go_wp2
        go_roundw
        case rel => exact ⟨i + 1, by omega, by go_num, HKX.out⟩
        case measure => simp [intOf]; omega
      · have hvb : (va != vb) = true := by simp [hv]
        have hiX := RVX.out hv
        have CP := hidOf (fun (Y : World) => cell_any c ((k : Int) + 1) 5 Y)
        rw [← hiX] at CP
        unfold Cfg.val at CP
        clear hiX
        have CB2 := HU.out.2.2.2.kept HKX.out (by simp)
        have y0 := cell_of_blk CB2 (i := 0) (v := .int .i64 c.t) rfl
        have y1 := cell_of_blk CB2 (i := 1) (v := .int .i64 c.s) rfl
        have y2 := cell_of_blk CB2 (i := 2) (v := .int .i64 c.c) rfl
        have y3 := cell_of_blk CB2 (i := 3) (v := .int .i64 c.h) rfl
        have y4 := cell_of_blk CB2 (i := 4) (v := .int .i64 c.k) rfl
        have y5 := cell_of_blk CB2 (i := 5) (v := .int .i64 c.e) rfl
        have y6 := cell_of_blk CB2 (i := 6) (v := .int .i64 c.l) rfl
        have wk1 : IntKind.i64.wrap ((k : Int) + 1) = (k : Int) + 1 := by rw [IntKind.wrap_i64]; omega
        clear CB2 hv RVX
        go_wp2_with fail
        with_reducible refine (CP.out _).mono ?_
        rintro e w15 ⟨rfl, K15⟩
        have HKX1 := hidOf (HKX.out.trans K15)
        clear CP K15 HKX y0 y1 y2 y3 y4 y5 y6
        go_wp2
        go_roundw
        case rel => exact ⟨i + 1, by omega, by go_num, HKX1.out⟩
        case measure => simp [intOf]; omega
    · have hltz : ¬ (i : Int) < (nw1 : Int) := by omega
      have HF := hidOf (HU.out.1.new HKX.out)
      clear HU HKX
      have AL := hidOf (alive_any wr HF.out.fw.st.tb)
      go_wp2_with fail
      with_reducible refine AL.out.mono ?_
      rintro e w16 ⟨rfl, K16⟩
      have HF2 := hidOf (HF.out.new K16)
      clear K16 HF AL
      have DB := hidOf (rtdone_any b fb s2 _ _ _ _ w16 HF2.out.rb)
      rw [HZ.out.2.1] at DB
      go_wp2_with fail
      with_reducible refine DB.out.mono ?_
      rintro e w17 ⟨rfl, rfl⟩
      clear DB
      have LD := hidOf (HF2.out.fw.load HWK 5 HWI.out (by have := HZ.out.2.2.2; omega))
      have hfd : fd c cs2 ((k : Int) + 1) 5 = tz - 1 := by
        rw [HZ.out.2.2.1]
        have i5 : inF c ((k : Int) + 1) 5 := ⟨HR.out.r, by omega, by have := HR.out.n; have := HNN.out; omega, by omega, by have := RR.out.h0; omega⟩
        have z := HOW.out
        rw [show ((k + 1 : Nat) : Int) = (k : Int) + 1 by omega] at z
        show fd c (clV OV 4 (clV' c (ixV (plainV HWK)) 5) 0 oneL) ((k : Int) + 1) 5 = tz - 1
        rw [ix_pl, HWX.out, fd_add HLN.out i5, if_pos ⟨rfl, rfl⟩, z, add_less (by omega) (by omega)]
      rw [HWX.out, hfd] at LD
      have hw1 : IntKind.u64.wrap (tz - 1) = tz - 1 := by rw [IntKind.wrap_u64]; omega
      clear hfd
      go_wp2_with fail
      with_reducible refine LD.out.mono ?_
      rintro e w18 ⟨a9, rfl, F9, -⟩
      have KF := hidOf F9.kp
      clear F9
      go_wp2
      go_ret
      exact ⟨rfl, KF.out⟩

set_option maxRecDepth 100000 in
theorem retireFirst_lifted (os : Os) (started : os.Started) (H : Type) (enc : TypeId × Value → H) :
    ReturnsInHanded {} Tryd.checked os 4 .any (fun w args => (Rows.retireFirstSpec.pre enc Tryd.prog Tryd.f4 [] false w args ∧ laidMetH Tryd.prog laid1 w) ∧ sizedMet enc Tryd.prog Tryd.f4 (OpenSpec.ofChange Rows.retireFirstSpec) false w args)
      (Rows.retireFirstSpec.post enc Tryd.prog Tryd.f4 false true false false) := by
  refine returnsInHanded_of_change_and (C := Tryd.checked) (X := fun w _ => laidMetH Tryd.prog laid1 w) (fun _ _ _ hh h => h.of_heap hh) own started (by kernel_rfl) Tryd.func4
    (ChangeSpec.witness_shaped (enc := enc) (C := Tryd.checked) (os := os) (X := fun w _ => laidMetH Tryd.prog laid1 w) false (World.doorLaid Tryd.prog 400 os) #[.agg #[.int .i64 0, .int .i64 0, .int .i64 0, .int .i64 0, .int .i64 0, .int .i64 0, .int .i64 0], .slice none 0 0, .agg #[.int .i64 0, .int .i64 0]] 8 rfl (World.shaped_of_RefB (by kernel_rfl) (by kernel_rfl)) (by kernel_rfl) (by kernel_rfl) (by kernel_rfl) (door_met os _)) ?_
  intro W base args ds gs before hval0 hW _ _ hL _
  have hval : ∀ (j : Nat) t v, Tryd.f4.params[j]? = some t → args[j]? = some v → Value.okWide Tryd.prog W .any base t v := hval0
  have hW' := hW
  obtain ⟨p, q, hA0, hV, rfl, _, _⟩ := hW
  have hA : DataW.TrodAll enc Tryd.prog W 0 (fun _ => true) true Tryd.f4.params.toList args.toList ds p := hA0
  rw [Tryd.params4] at hA hval
  clear hA0 hval0
  obtain ⟨v0, vs0, d0, ds0, p0, q0, hargs, rfl, rfl, h0, r0⟩ := trodAll_cons hA
  obtain ⟨v1, vs1, d1, ds1, p1, q1, rfl, rfl, rfl, h1, r1⟩ := trodAll_cons r0
  obtain ⟨v2, vs2, d2, ds2, p2, q2, rfl, rfl, rfl, h2, r2⟩ := trodAll_cons r1
  obtain ⟨rfl, rfl, rfl⟩ := trodAll_nil r2
  obtain rfl : args = #[v0, v1, v2] := by cases args; simp_all
  obtain ⟨rfl, rfl⟩ := trodVars_none hV
  have k0 := h0
  have k1 := h1
  have k2 := h2
  simp only [List.append_nil] at hW'
  have hlt0 : ∀ x ∈ p0, x.block < W.heap.size := fun x hx => hW'.lt x (by simp [hx])
  have hlt1 : ∀ x ∈ p1, x.block < W.heap.size := fun x hx => hW'.lt x (by simp [hx])
  have hlt2 : ∀ x ∈ p2, x.block < W.heap.size := fun x hx => hW'.lt x (by simp [hx])
  obtain ⟨c0, rfl, g0⟩ := open_cfg (hval 0 23 v0 rfl rfl) h0
  obtain ⟨ao1, cap1, ns1, rfl, s1, g1, n1⟩ := open_nodes2 (hval 1 24 v1 rfl rfl) h1
  obtain ⟨ka2, ta2, rfl, u2⟩ := open_pair (hval 2 43 v2 rfl rfl) h2
  refine (retireFirst_walk W c0 g0 ao1 ns1 cap1 s1 g1 n1 ka2 ta2 u2 (tab_of_laid hL)).mono fun e W' ⟨he, hg⟩ => ?_
  subst he
  have hb := hg.below (by simp)
  exact ⟨_, rfl, _, _, _, [], _, [], hW', (trodAll_cons_mk (shut_bool Tryd.underlying4 _) trodAll_mk0), (trodAll_cons_mk (Below.trod laidOut (by kernel_rfl) (of_decide_eq_true (by kernel_rfl)) k0 hb hlt0) (trodAll_cons_mk (Below.trod laidOut (by kernel_rfl) (of_decide_eq_true (by kernel_rfl)) k1 hb hlt1) (trodAll_cons_mk (Below.trod laidOut (by kernel_rfl) (of_decide_eq_true (by kernel_rfl)) k2 hb hlt2) trodAll_mk0))), rfl, hb.frame _, fun h => by cases h⟩

theorem retireFirst_over : Rows.RetireFirstSaid :=
  OpenClaim.holds_of_wide 4 Tryd.f4 rfl rfl rfl rfl rfl rfl rfl ⟨rfl, rfl, rfl, rfl, rfl⟩ rfl rfl rfl rfl rfl (by kernel_rfl) Tryd.func4 (by kernel_rfl)
    (of_decide_eq_true (by kernel_rfl)) (by unfold Func.isWrapper; first | (rw [if_pos (by decide +kernel)]; kernel_rfl) | (rw [if_neg (by decide +kernel)]; exact ⟨rfl, rfl⟩))
    (fun os started H enc _ => retireFirst_lifted os started H enc)

theorem retireFirst_holds : Rows.RetireFirstCardSaid :=
  Claim7.holds_tied_plain_at .later [] [.data] true (true, "a31f6f01599eee3ce13a6e1683cb531bb06135781a9e9eb854bb6c4ee7479a88") false
    retireFirst_over (fun _ h => by cases h) (by kernel_rfl) (fun _ h => by cases h) retireFirst_row_tie rfl ⟨rfl, rfl⟩ (by kernel_rfl) rfl
    (fun f fn hf hfn => by
      obtain rfl : f = 4 := Option.some.inj ((show Tryd.prog.funcNamed "stepstone/stepstonelaw14.RetireFirst" = some 4 by kernel_rfl).symm.trans hf) |>.symm
      obtain rfl : fn = Tryd.f4 := (Option.some.inj (Tryd.func4.symm.trans hfn)).symm
      exact ⟨by kernel_rfl, fun j t ht => by
          rw [Tryd.params4] at ht
          rcases j with _ | j
          · have : t = 23 := by simpa using ht.symm
            subst this; exact (show Tryd.prog.wantsStandIn 23 = false by kernel_rfl)
          rcases j with _ | j
          · have : t = 24 := by simpa using ht.symm
            subst this; exact (show Tryd.prog.wantsStandIn 24 = false by kernel_rfl)
          rcases j with _ | j
          · have : t = 43 := by simpa using ht.symm
            subst this; exact (show Tryd.prog.wantsStandIn 43 = false by kernel_rfl)
          simp at ht⟩)
    (by kernel_rfl)
#print axioms retireFirst_holds
end Go.Proofs.YtgafmklfpiipcaaDoor
