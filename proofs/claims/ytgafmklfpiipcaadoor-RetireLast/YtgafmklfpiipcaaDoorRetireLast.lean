/-
  The last owner of a node that is deleted, alone, ends; the node is linked nowhere then, and its entry says when it lived: the law RetireLast is true for every input.
  Conditions: the package variable of handle that the code reads starts as the program's text lays it (the card ties it to that text).
-/
import Derived.Test.YtgafmklfpiipcaaDoorRLaws
import Derived.Test.YtgafmklfpiipcaaDoorHLaid
import Derived.Test.YtgafmklfpiipcaaDoorPArgs
import Derived.Deep.CutRange
import Derived.ProofKit
import Derived.SizedLaws
import Derived.Carry
namespace Go.Proofs.YtgafmklfpiipcaaDoor
open Go.ChangeShapes Go.WideShapes Go.ChangeAt Go.RowKit
open Go.Deep
open Go.Proofs.YtgafmklfpiipcaaDoor.K
set_option maxRecDepth 100000

set_option maxRecDepth 100000 in
set_option maxHeartbeats 8000000 in
theorem retireLast_walk (w : World) (c : Cfg) (_hg : c.wf) (ao : Option Addr) (ns : List Nn) (cap : Nat) (hs : SlOf 5 nnL w ao ns) (hw : ∀ x ∈ ns, x.wf) (hc : ao = none → cap = 0) (kz : Int) (_hk : (Lit.int .i64 kz).wf = true) (hT : Tab w) :
    Calls Tryd.prog 3 #[c.val, .slice ao ns.length cap, .int .i64 kz] w fun e w' => e = .returned (.bool true) ∧ Kept [] w w' := by
  simp only [Cfg.val]
  obtain ⟨n, hn⟩ : ∃ n, n = ns.length := ⟨_, rfl⟩
  rw [← hn]
  have HNN := hidOf hn
  have HS := hidOf hs
  have HW := hidOf hw
  have HCP := hidOf hc
  have HT := hidOf hT
  clear hn hs hw hT hc
  obtain ⟨q, hq⟩ : ∃ q, q = w.heap.size := ⟨_, rfl⟩
  have BX : Hid (RW 23 (w.alloc (.cells #[.int .i64 c.t, .int .i64 c.s, .int .i64 c.c, .int .i64 c.h, .int .i64 c.k, .int .i64 c.e, .int .i64 c.l] 23)) q #[.int .i64 c.t, .int .i64 c.s, .int .i64 c.c, .int .i64 c.h, .int .i64 c.k, .int .i64 c.e, .int .i64 c.l] ∧ Kept [] w (w.alloc (.cells #[.int .i64 c.t, .int .i64 c.s, .int .i64 c.c, .int .i64 c.h, .int .i64 c.k, .int .i64 c.e, .int .i64 c.l] 23))) := by rw [hq]; exact ⟨RW.new _ _ _, (Kept.refl [] w).alloc _⟩
  go_enter Tryd.func3, Tryd.ntmps3
  go_upto_region 1 with (fail)
  rw [← hq]
  refine gen_world (fun W => RW 23 W q #[.int .i64 c.t, .int .i64 c.s, .int .i64 c.c, .int .i64 c.h, .int .i64 c.k, .int .i64 c.e, .int .i64 c.l] ∧ Kept [] w W) BX.out ?_
  have hqw : w.heap.size ≤ q := by omega
  clear BX hq
  rintro W ⟨CB0, K0⟩
  have HX := hidOf (And.intro CB0 K0)
  clear CB0 K0
  have ND := hidOf (node_any c ns ao n cap kz 1 W (HT.out.kept HX.out.2) HW.out (HS.out.new HX.out.2) HNN.out HCP.out)
  go_wp2_with (first | ((with_reducible change wpList _ _ _ (Oper.mk _ (Op.load 23 (Operand.tmp 3)) _ _ _ _ :: _) _ _); refine wpList_load_rw 23 isT_cf rfl (.tmp 3) rfl q rfl #[.int .i64 c.t, .int .i64 c.s, .int .i64 c.c, .int .i64 c.h, .int .i64 c.k, .int .i64 c.e, .int .i64 c.l] rfl HX.out.1 ?_))
  with_reducible refine ND.out.mono ?_
  rintro e w1 ⟨K1, ⟨rfl, no⟩ | ⟨k, hkz, hk, hR, m, p, r, a0, rfl, hpr, M⟩⟩
  · have K2 := hidOf (HX.out.2.trans K1)
    clear K1 no ND
    
    have AL := hidOf (alive_any _ (HT.out.kept (K2.out)))
    have KF := hidOf (K2.out)
    go_wp2_with fail
    with_reducible refine AL.out.mono ?_
    rintro e WA ⟨rfl, KA⟩
    have KG := hidOf (KF.out.trans KA)
    clear KA
    go_wp2
    go_ret
    exact ⟨rfl, KG.out⟩
  have HR := hidOf hR
  have RR := hidOf (riB_true.1 hR.r)
  have HK := hidOf hk
  have hkn : (k : Int) < n := by have := HNN.out; omega
  have hknl : k < n := by omega
  have n64 : (n : Int) ≤ 64 := by have := HR.out.n; have := HNN.out; have := RR.out.c1; omega
  have HY := hidOf (And.intro M (HX.out.2.trans K1))
  have HPR := hidOf (show w.heap.size ≤ m ∧ w.heap.size ≤ p ∧ w.heap.size ≤ r by have := HX.out.2.size; omega)
  have HBX := hidOf (HX.out.1.kept K1 (by simp))
  have HWI := hidOf (rhw_isW (k := k + 1) (by omega))
  have HWX := hidOf (show ixV (hw (k + 1)) = (k : Int) + 1 by rw [hw_ix (by omega)]; omega)
  have HWP := hidOf (show plainV (hw (k + 1)) = hw (k + 1) from (plainV_of (hw (k + 1))).2 (hw_mk (by omega)))
  obtain ⟨HWK, hHWK⟩ : ∃ z, z = hw (k + 1) := ⟨_, rfl⟩
  rw [← hHWK] at HWI HWX HWP
  try rw [← hHWK]
  have HHW := hidOf hHWK
  clear M K1 hpr hR hk ND HX hHWK
  obtain ⟨b1, o1, ea, -⟩ := nn_row HS.out HK.out
  subst ea
  obtain ⟨x, hx⟩ : ∃ x, x = ns.getD k nn0 := ⟨_, rfl⟩
  have HXE := hidOf hx
  have RO : Hid (∀ Y, Kept [] w Y → Y.cell? ⟨b1, o1 + k * 5, none⟩ = some (.int .u64 x.k) ∧ b1 < Y.heap.size) := hidOf (fun Y kk => by
    obtain ⟨b, o, e, l, y0, _⟩ := nn_row (HS.out.new kk) HK.out
    cases e
    rw [HXE.out]; exact ⟨y0, l⟩)
  clear hx
  subst hkz
  have LR0 := ldr_is (ow := 1) HR.out HW.out HK.out (by unfold isW; omega)
  have V0 := LR0.rv (left := 1560) HR.out.r HK.out ⟨0, 0, 0⟩ (full_bd RR.out LR0.ok)
  rw [← HHW.out, ← HXE.out] at V0
  have HV0 := hidOf (And.intro V0 (And.intro LR0.wd LR0.ck))
  have HNL := hidOf (show (ndOf c (delN ns k)).n < 4294967296 ∧ full c (ndOf c (delN ns k)) + HN c + 9 ≤ 1560 from ⟨n_lt RR.out LR0.ok, full_bd RR.out LR0.ok⟩)
  clear LR0 V0
  obtain ⟨l, hl⟩ : ∃ l, l = ndOf c (delN ns k) := ⟨_, rfl⟩
  rw [← hl] at HV0 HNL
  clear hl
  obtain ⟨OV, hOV⟩ : ∃ OV, OV = ownV c ns k 1 := ⟨_, rfl⟩
  rw [← hOV] at HV0 HY
  clear hOV
  go_wp2
  go_loopw [24] (fun s wr => ∃ i : Nat, i ≤ 3 ∧ s = .int .i64 i ∧ ∃ cs cnt a, Mm wr m p r c cs cnt a ∧ Kept [] w wr ∧ Rv c l (k + 1) cs ⟨0, 0, 0⟩ (rtS HWK x.k) 1 1560 ∧ Wds cs ∧ rdG cs 0 = 1 + i ∧ cnt = 1 + i) (fun s _ => 3 - (intOf s).toNat)
  case atStart => exact ⟨0, by omega, by first | rfl | go_num, OV, 1, a0, HY.out.1, HY.out.2, HV0.out.1, HV0.out.2.1, HV0.out.2.2, rfl⟩
  case round =>
    clear HY HV0 HBX
    obtain ⟨i, hi, rfl, cs, cnt, a, M, KK, V, WD, ck, hc⟩ := hrel
    have HZ := hidOf (And.intro M (And.intro KK (And.intro V (And.intro WD (And.intro ck hc)))))
    clear M KK V WD ck hc
    by_cases hlt : i < 3
    · have hltz : (i : Int) < 3 := by omega
      have TK := hidOf (mtick_any m p r c cs cnt a wr HZ.out.1 (by have := HZ.out.2.2.2.2.2; omega) (by have := HZ.out.2.2.2.2.2; omega))
      go_wp2_with fail
      with_reducible refine TK.out.mono ?_
      rintro e w2 ⟨rfl, M2, K2⟩
      have HZ2 := hidOf (And.intro M2 (And.intro (HZ.out.2.1.then K2 (by have := HPR.out; simp; omega)) (And.intro (HZ.out.2.2.1.tick (left' := 1560) HNL.out.2) (And.intro (wds_add HZ.out.2.2.2.1 0 1) (And.intro (clk_tick HR.out.r HZ.out.2.2.1.ln HZ.out.2.2.2.2.1 (by omega)) HZ.out.2.2.2.2.2)))))
      clear M2 K2 TK HZ
      go_wp2
      go_roundw
      case rel => exact ⟨i + 1, by omega, by go_num, _, _, _, HZ2.out.1, HZ2.out.2.1, HZ2.out.2.2.1, HZ2.out.2.2.2.1, by have := HZ2.out.2.2.2.2.1; omega, by have := HZ2.out.2.2.2.2.2; omega⟩
      case measure => simp [intOf]; omega
    · have hie : i = 3 := by omega
      subst hie
      have NA := hidOf (rtnew_any HWK x.k wr (HT.out.kept HZ.out.2.1) HWI.out.1 HWI.out.2)
      have r0 := (RO.out wr HZ.out.2.1).1
      have rl := (RO.out wr HZ.out.2.1).2
      go_wp2_with fail
      with_reducible refine NA.out.mono ?_
      rintro e w3 ⟨b, fb, rfl, hb, hfb, RB, FB3, K3⟩
      have PB : Rp w w3 b fb m p r c HWK x.k cs cnt a := by
        have sz := HZ.out.2.1.size
        exact ⟨RB, FB3, HZ.out.1.new K3, HZ.out.2.1.trans K3, HT.out, by omega, by omega, HPR.out.2.1, HPR.out.2.2, HR.out.r, HZ.out.2.2.2.1, by have := HZ.out.2.2.2.2.2; omega, HWI.out⟩
      have HP := hidOf PB
      clear hb hfb RB FB3 K3 PB NA r0 rl
      have EB := hidOf (ends14_any (IV c l (k + 1) 1 4) w w3 b fb m p r c HWK x.k cs cnt a 2000 1560 HP.out (by omega) (by omega) (by have := HZ.out.2.2.2.2.2; omega)
        ⟨HZ.out.2.2.1, by have := HZ.out.2.2.2.2.1; omega, fun q => by cases q⟩
        (fun cs g s lf cnt' h hd => h.step hd cnt') (fun cs g s lf h hl => h.done hl))
      go_wp2_with fail
      refine EB.out.mono ?_
      rintro e w4 ⟨n2, rfl, -, E2⟩
      obtain ⟨gb, g2, s2, cs2, cnt2, acc2, W2, II2, hd2, z1, z2, -⟩ := E2.fin
      obtain ⟨en2, to2, un2, o2⟩ := II2.fin hd2
      have HZ4 := hidOf (And.intro W2 (And.intro hd2 (And.intro un2 (And.intro o2 (show 0 ≤ cnt2 ∧ cnt2 ≤ 2000 by have := HZ.out.2.2.2.2.2; omega)))))
      have HE2 := hidOf (And.intro en2 to2)
      clear E2 W2 II2 hd2 z1 z2 en2 to2 un2 o2 EB HP HZ
      have ET := hidOf (rtentry_any b fb s2 w4 HZ4.out.1.rb)
      rw [HE2.out.1, HE2.out.2, ← HHW.out] at ET
      unfold entV at ET
      go_wp2_with fail
      with_reducible refine ET.out.mono ?_
      rintro e w5 ⟨rfl, K5⟩
      obtain ⟨x11, hx11⟩ : ∃ x, x = w5.heap.size := ⟨_, rfl⟩
      have BX : Hid (RW 37 (w5.alloc (.cells #[.int .u64 HWK, .int .u64 1, .int .u64 4] 37)) x11 #[.int .u64 HWK, .int .u64 1, .int .u64 4] ∧ Kept [] w4 (w5.alloc (.cells #[.int .u64 HWK, .int .u64 1, .int .u64 4] 37))) := by rw [hx11]; exact ⟨RW.new _ _ _, K5.alloc _⟩
      clear ET K5 HE2
      go_upto_region 13 with (fail)
      rw [← hx11]
      refine gen_world (fun Y => RW 37 Y x11 #[.int .u64 HWK, .int .u64 1, .int .u64 4] ∧ Kept [] w4 Y) BX.out ?_
      clear BX hx11
      rintro Y2 ⟨R11, K16⟩
      have AL := hidOf (alive_any Y2 (HT.out.kept (HZ4.out.1.fw.kp.trans K16)))
      have HY2 := hidOf (And.intro (HZ4.out.1.new K16) R11)
      clear R11 K16
      have heq1 : ∀ w, Sem.run Tryd.prog (Op.equalIn 10000 37 (.agg #[.int .u64 HWK, .int .u64 1, .int .u64 4]) (.agg #[.int .u64 HWK, .int .u64 1, .int .u64 4])) w = .ok true w := fun w => by
        have z := req_cent HWK 1 4 HWK 1 4 w
        simpa using z
      go_wp2_with fail
      with_reducible refine AL.out.mono ?_
      rintro e w6 ⟨rfl, K6⟩
      have HW6 := hidOf (And.intro (HY2.out.1.new K6) (HY2.out.2.kept K6 (by simp)))
      clear K6 AL HY2
      have DB := hidOf (rtdone_any b fb s2 _ _ _ _ w6 HW6.out.1.rb)
      rw [HZ4.out.2.1] at DB
      have c0 := cell_of_blk HW6.out.2 (i := 0) rfl
      have c1 := cell_of_blk HW6.out.2 (i := 1) rfl
      have c2 := cell_of_blk HW6.out.2 (i := 2) rfl
      go_wp2_with fail
      with_reducible refine DB.out.mono ?_
      rintro e w7 ⟨rfl, rfl⟩
      clear DB
      have LK := hidOf (linked14_any w7 m p r c cs2 cnt2 acc2 l (k + 1) HW6.out.1.fw.st.mm HW6.out.1.fw.st.tb RR.out (by have := HW6.out.1.fw.op; have := lt_of_cell HT.out.1; omega) (by have := HW6.out.1.fw.ow; have := lt_of_cell HT.out.1; omega) HW6.out.1.fw.st.wd HNL.out.1 HZ4.out.2.2.2.2.1 (by have := HZ4.out.2.2.2.2.2; omega))
      rw [show ((k + 1 : Nat) : Int) = (k : Int) + 1 by omega] at LK
      go_wp2_with fail
      with_reducible refine LK.out.mono ?_
      rintro e w8 ⟨B, cnt3, a3, rfl, hB, M8, c3, c4, K8⟩
      obtain rfl := hB HZ4.out.2.2.1
      have HW8 := hidOf (HW6.out.1.mm M8 K8 HW6.out.1.fw.st.wd (by have := HZ4.out.2.2.2.2; omega))
      have HC8 := hidOf (show cnt3 ≤ 3000 by have := HZ4.out.2.2.2.2; omega)
      clear hB M8 c3 c4 K8 LK HW6 c0 c1 c2
      have LD := hidOf (HW8.out.fw.load HWK 5 HWI.out (by have := HC8.out; omega))
      rw [HWX.out, show fd c cs2 ((k : Int) + 1) 5 = 0 from by have z := HZ4.out.2.2.2.1; rw [show ((k + 1 : Nat) : Int) = (k : Int) + 1 by omega] at z; exact z] at LD
      go_wp2_with fail
      with_reducible refine LD.out.mono ?_
      rintro e w9 ⟨a9, rfl, F9, -⟩
      have KF := hidOf F9.kp
      clear F9
      go_wp2
      go_ret
      exact ⟨rfl, KF.out⟩

set_option maxRecDepth 100000 in
theorem retireLast_lifted (os : Os) (started : os.Started) (H : Type) (enc : TypeId × Value → H) :
    ReturnsInHanded {} Tryd.checked os 3 .any (fun w args => (Rows.retireLastSpec.pre enc Tryd.prog Tryd.f3 [] false w args ∧ laidMetH Tryd.prog laid1 w) ∧ sizedMet enc Tryd.prog Tryd.f3 (OpenSpec.ofChange Rows.retireLastSpec) false w args)
      (Rows.retireLastSpec.post enc Tryd.prog Tryd.f3 false true false false) := by
  refine returnsInHanded_of_change_and (C := Tryd.checked) (X := fun w _ => laidMetH Tryd.prog laid1 w) (fun _ _ _ hh h => h.of_heap hh) own started (by kernel_rfl) Tryd.func3
    (ChangeSpec.witness_shaped (enc := enc) (C := Tryd.checked) (os := os) (X := fun w _ => laidMetH Tryd.prog laid1 w) false (World.doorLaid Tryd.prog 400 os) #[.agg #[.int .i64 0, .int .i64 0, .int .i64 0, .int .i64 0, .int .i64 0, .int .i64 0, .int .i64 0], .slice none 0 0, .int .i64 0] 8 rfl (World.shaped_of_RefB (by kernel_rfl) (by kernel_rfl)) (by kernel_rfl) (by kernel_rfl) (by kernel_rfl) (door_met os _)) ?_
  intro W base args ds gs before hval0 hW _ _ hL _
  have hval : ∀ (j : Nat) t v, Tryd.f3.params[j]? = some t → args[j]? = some v → Value.okWide Tryd.prog W .any base t v := hval0
  have hW' := hW
  obtain ⟨p, q, hA0, hV, rfl, _, _⟩ := hW
  have hA : DataW.TrodAll enc Tryd.prog W 0 (fun _ => true) true Tryd.f3.params.toList args.toList ds p := hA0
  rw [Tryd.params3] at hA hval
  clear hA0 hval0
  obtain ⟨v0, vs0, d0, ds0, p0, q0, hargs, rfl, rfl, h0, r0⟩ := trodAll_cons hA
  obtain ⟨v1, vs1, d1, ds1, p1, q1, rfl, rfl, rfl, h1, r1⟩ := trodAll_cons r0
  obtain ⟨v2, vs2, d2, ds2, p2, q2, rfl, rfl, rfl, h2, r2⟩ := trodAll_cons r1
  obtain ⟨rfl, rfl, rfl⟩ := trodAll_nil r2
  obtain rfl : args = #[v0, v1, v2] := by cases args; simp_all
  obtain ⟨rfl, rfl⟩ := trodVars_none hV
  have k0 := h0
  have k1 := h1
  have k2 := h2
  simp only [List.append_nil] at hW'
  have hlt0 : ∀ x ∈ p0, x.block < W.heap.size := fun x hx => hW'.lt x (by simp [hx])
  have hlt1 : ∀ x ∈ p1, x.block < W.heap.size := fun x hx => hW'.lt x (by simp [hx])
  have hlt2 : ∀ x ∈ p2, x.block < W.heap.size := fun x hx => hW'.lt x (by simp [hx])
  obtain ⟨c0, rfl, g0⟩ := open_cfg (hval 0 23 v0 rfl rfl) h0
  obtain ⟨ao1, cap1, ns1, rfl, s1, g1, n1⟩ := open_nodes2 (hval 1 24 v1 rfl rfl) h1
  obtain ⟨a2, rfl, rfl, rfl, w2⟩ := open_int Tryd.underlying3 (hval 2 3 v2 rfl rfl) h2
  refine (retireLast_walk W c0 g0 ao1 ns1 cap1 s1 g1 n1 a2 w2 (tab_of_laid hL)).mono fun e W' ⟨he, hg⟩ => ?_
  subst he
  have hb := hg.below (by simp)
  exact ⟨_, rfl, _, _, _, [], _, [], hW', (trodAll_cons_mk (shut_bool Tryd.underlying4 _) trodAll_mk0), (trodAll_cons_mk (Below.trod laidOut (by kernel_rfl) (of_decide_eq_true (by kernel_rfl)) k0 hb hlt0) (trodAll_cons_mk (Below.trod laidOut (by kernel_rfl) (of_decide_eq_true (by kernel_rfl)) k1 hb hlt1) (trodAll_cons_mk (Below.trod laidOut (by kernel_rfl) (of_decide_eq_true (by kernel_rfl)) k2 hb hlt2) trodAll_mk0))), rfl, hb.frame _, fun h => by cases h⟩

theorem retireLast_over : Rows.RetireLastSaid :=
  OpenClaim.holds_of_wide 3 Tryd.f3 rfl rfl rfl rfl rfl rfl rfl ⟨rfl, rfl, rfl, rfl, rfl⟩ rfl rfl rfl rfl rfl (by kernel_rfl) Tryd.func3 (by kernel_rfl)
    (of_decide_eq_true (by kernel_rfl)) (by unfold Func.isWrapper; first | (rw [if_pos (by decide +kernel)]; kernel_rfl) | (rw [if_neg (by decide +kernel)]; exact ⟨rfl, rfl⟩))
    (fun os started H enc _ => retireLast_lifted os started H enc)

theorem retireLast_holds : Rows.RetireLastCardSaid :=
  Claim7.holds_tied_plain_at .later [] [.data] true (true, "a31f6f01599eee3ce13a6e1683cb531bb06135781a9e9eb854bb6c4ee7479a88") false
    retireLast_over (fun _ h => by cases h) (by kernel_rfl) (fun _ h => by cases h) retireLast_row_tie rfl ⟨rfl, rfl⟩ (by kernel_rfl) rfl
    (fun f fn hf hfn => by
      obtain rfl : f = 3 := Option.some.inj ((show Tryd.prog.funcNamed "stepstone/stepstonelaw14.RetireLast" = some 3 by kernel_rfl).symm.trans hf) |>.symm
      obtain rfl : fn = Tryd.f3 := (Option.some.inj (Tryd.func3.symm.trans hfn)).symm
      exact ⟨by kernel_rfl, fun j t ht => by
          rw [Tryd.params3] at ht
          rcases j with _ | j
          · have : t = 23 := by simpa using ht.symm
            subst this; exact (show Tryd.prog.wantsStandIn 23 = false by kernel_rfl)
          rcases j with _ | j
          · have : t = 24 := by simpa using ht.symm
            subst this; exact (show Tryd.prog.wantsStandIn 24 = false by kernel_rfl)
          rcases j with _ | j
          · have : t = 3 := by simpa using ht.symm
            subst this; exact (show Tryd.prog.wantsStandIn 3 = false by kernel_rfl)
          simp at ht⟩)
    (by kernel_rfl)
#print axioms retireLast_holds
end Go.Proofs.YtgafmklfpiipcaaDoor
