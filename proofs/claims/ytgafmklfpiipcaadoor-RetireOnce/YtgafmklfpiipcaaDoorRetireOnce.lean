/-
  Behind its end a step of a retire does nothing, and the entry stays: the law RetireOnce is true for every input.
  Conditions: the package variable of handle that the code reads starts as the program's text lays it (the card ties it to that text).
-/
import Derived.Test.YtgafmklfpiipcaaDoorRLaws
import Derived.Test.YtgafmklfpiipcaaDoorHLaid
import Derived.Test.YtgafmklfpiipcaaDoorPArgs
import Derived.Deep.CutRange
import Derived.ProofKit
import Derived.SizedLaws
import Derived.Carry
namespace Go.Proofs.YtgafmklfpiipcaaDoor
open Go.ChangeShapes Go.WideShapes Go.ChangeAt Go.RowKit
open Go.Deep
open Go.Proofs.YtgafmklfpiipcaaDoor.K
set_option maxRecDepth 100000

namespace K
theorem flat_pair : (flat Tryd.prog 2 43) = some [.int .i64, .int .i64] := by kernel_rfl
theorem open_pair {H : Type} {enc : TypeId × Value → H} {w : World} {r : Reach} {b0 base : Nat} {spare : Nat → Bool} {held : Bool} {v : Value} {d : DataW H} {p : List MemPlace} (hv : Value.okWide Tryd.prog w r b0 43 v) (h : DataW.Trod enc Tryd.prog w base spare held 43 v d p) : ∃ a b, v = .agg #[.int .i64 a, .int .i64 b] ∧ (Lit.int .i64 b).wf = true := by
  obtain ⟨cs, rfl, hF⟩ := flat_agg (Or.inr ⟨_, _, Tryd.underlying43⟩) flat_pair hv h
  obtain ⟨a, r, e1, _, hF⟩ := F2_int hF
  obtain ⟨b, r, rfl, hb, hF⟩ := F2_int hF
  obtain rfl := F2_nil hF
  exact ⟨a, b, by rw [show cs = cs.toList.toArray by simp, e1], hb⟩
theorem wf_i64 {x : Int} (h : (Lit.int .i64 x).wf = true) : -9223372036854775808 ≤ x ∧ x < 9223372036854775808 := by
  have z : (decide (IntKind.i64.min ≤ x) && decide (x ≤ IntKind.i64.max)) = true := h
  simp [show IntKind.i64.min = -9223372036854775808 from by decide, show IntKind.i64.max = 9223372036854775807 from by decide] at z
  omega
/-- The last owner, or one that is not; at its end. -/
def IO (c : Cfg) (l : Nd) (z : Nat) (cs0 : List Int) (s0 : Rtm) (cs : List Int) (g : Gs) (s : Rtm) (lf : Int) : Prop := IV c l z 1 1 cs g s lf ∨ (1 ≤ lf ∧ s = s0 ∧ cs = cs0 ∧ s0.ow c cs0 ≠ 1) ∨ s.d = true
theorem IO.step {c : Cfg} {l : Nd} {z : Nat} {cs0 : List Int} {s0 : Rtm} (hd0 : s0.d = false) (n0 : s0.nx = 0) {cs : List Int} {g : Gs} {s : Rtm} {lf : Int} (h : IO c l z cs0 s0 cs g s lf) (hd : s.d = false) (cnt : Int) : IO c l z cs0 s0 (rtC c cs g s) (rtG c g s) (rtF c cs cnt g s) (lf - 1) := by
  rcases h with h | ⟨_, e2, e3, ow⟩ | h
  · exact Or.inl (h.step hd cnt)
  · subst e2 e3
    obtain ⟨f1, _, _⟩ := rtF_0 (c := c) (cs := cs) (cnt := cnt) (g := g) hd0 n0
    rw [decide_eq_false ow] at f1
    exact Or.inr (Or.inr (by rw [f1]; rfl))
  · rw [h] at hd; cases hd
theorem IO.done {c : Cfg} {l : Nd} {z : Nat} {cs0 : List Int} {s0 : Rtm} {cs : List Int} {g : Gs} {s : Rtm} {lf : Int} (h : IO c l z cs0 s0 cs g s lf) (hl : lf ≤ 0) : s.d = true := by
  rcases h with h | ⟨e1, _⟩ | h
  · exact h.done hl
  · omega
  · exact h
theorem ent_any (s : Rtm) : ∃ H B E, s.ent = .agg #[.int .u64 H, .int .u64 B, .int .u64 E] := by
  unfold Rtm.ent entV
  split
  · exact ⟨_, _, _, rfl⟩
  · exact ⟨0, 0, 0, rfl⟩
end K
set_option maxRecDepth 100000 in
set_option maxHeartbeats 8000000 in
theorem retireOnce_walk (w : World) (c : Cfg) (_hg : c.wf) (ao : Option Addr) (ns : List Nn) (cap : Nat) (hs : SlOf 5 nnL w ao ns) (hw : ∀ x ∈ ns, x.wf) (hc : ao = none → cap = 0) (kz tz : Int) (hu : (Lit.int .i64 tz).wf = true) (hT : Tab w) :
    Calls Tryd.prog 7 #[c.val, .slice ao ns.length cap, .agg #[.int .i64 kz, .int .i64 tz]] w fun e w' => e = .returned (.bool true) ∧ Kept [] w w' := by
  simp only [Cfg.val]
  obtain ⟨n, hn⟩ : ∃ n, n = ns.length := ⟨_, rfl⟩
  rw [← hn]
  have HNN := hidOf hn
  have HS := hidOf hs
  have HW := hidOf hw
  have HCP := hidOf hc
  have HT := hidOf hT
  clear hn hs hw hT hc
  obtain ⟨q, hq⟩ : ∃ q, q = w.heap.size := ⟨_, rfl⟩
  have BX : Hid (RW 23 ((w.alloc (.cells #[.int .i64 c.t, .int .i64 c.s, .int .i64 c.c, .int .i64 c.h, .int .i64 c.k, .int .i64 c.e, .int .i64 c.l] 23)).alloc (.cells #[.int .i64 kz, .int .i64 tz] 43)) q #[.int .i64 c.t, .int .i64 c.s, .int .i64 c.c, .int .i64 c.h, .int .i64 c.k, .int .i64 c.e, .int .i64 c.l] ∧ RW 43 ((w.alloc (.cells #[.int .i64 c.t, .int .i64 c.s, .int .i64 c.c, .int .i64 c.h, .int .i64 c.k, .int .i64 c.e, .int .i64 c.l] 23)).alloc (.cells #[.int .i64 kz, .int .i64 tz] 43)) (q + 1) #[.int .i64 kz, .int .i64 tz] ∧ Kept [] w ((w.alloc (.cells #[.int .i64 c.t, .int .i64 c.s, .int .i64 c.c, .int .i64 c.h, .int .i64 c.k, .int .i64 c.e, .int .i64 c.l] 23)).alloc (.cells #[.int .i64 kz, .int .i64 tz] 43))) := hidOf (by
    have z := two_new 23 43 w #[.int .i64 c.t, .int .i64 c.s, .int .i64 c.c, .int .i64 c.h, .int .i64 c.k, .int .i64 c.e, .int .i64 c.l] #[.int .i64 kz, .int .i64 tz] hq
    exact ⟨z.1, z.2.1, z.2.2⟩)
  go_enter Tryd.func7, Tryd.ntmps7
  go_upto_region 1 with (fail)
  rw [← hq]
  refine gen_world (fun W => RW 23 W q #[.int .i64 c.t, .int .i64 c.s, .int .i64 c.c, .int .i64 c.h, .int .i64 c.k, .int .i64 c.e, .int .i64 c.l] ∧ RW 43 W (q + 1) #[.int .i64 kz, .int .i64 tz] ∧ Kept [] w W) BX.out ?_
  have hqw : w.heap.size ≤ q := by omega
  clear BX hq
  rintro W ⟨CB0, CB1, K0⟩
  have HX := hidOf (And.intro CB0 K0)
  have HXP := hidOf CB1
  clear CB0 CB1 K0
  have z0 := cell_of_blk HXP.out (i := 0) (v := .int .i64 kz) rfl
  have z1 := cell_of_blk HXP.out (i := 1) (v := .int .i64 tz) rfl
  have zl := lt_of_blk HXP.out
  have hob := wf_i64 hu
  clear hu
  by_cases ht : tz ≤ 1
  · have hmx : max (1 : Int) tz = 1 := by omega
    have hwr : IntKind.u64.wrap 1 = 1 := by decide
    have ht1 : ¬ 1 < tz := by omega
    have ht2 := ht
    have ND := hidOf (node_any c ns ao n cap kz 1 W (HT.out.kept HX.out.2) HW.out (HS.out.new HX.out.2) HNN.out HCP.out)
    go_wp2_with (first | ((with_reducible change wpList _ _ _ (Oper.mk _ (Op.load 23 (Operand.tmp 3)) _ _ _ _ :: _) _ _); refine wpList_load_rw 23 isT_cf rfl (.tmp 3) rfl q rfl #[.int .i64 c.t, .int .i64 c.s, .int .i64 c.c, .int .i64 c.h, .int .i64 c.k, .int .i64 c.e, .int .i64 c.l] rfl HX.out.1 ?_))
    with_reducible refine ND.out.mono ?_
    rintro e w1 ⟨K1, ⟨rfl, no⟩ | ⟨k, hkz, hk, hR, m, p, r, a0, rfl, hpr, M⟩⟩
    · have K2 := hidOf (HX.out.2.trans K1)
      clear K1 no ND
      
      have AL := hidOf (alive_any _ (HT.out.kept (K2.out)))
      have KF := hidOf (K2.out)
      go_wp2_with fail
      with_reducible refine AL.out.mono ?_
      rintro e WA ⟨rfl, KA⟩
      have KG := hidOf (KF.out.trans KA)
      clear KA
      go_wp2
      go_ret
      exact ⟨rfl, KG.out⟩
    have HR := hidOf hR
    have RR := hidOf (riB_true.1 hR.r)
    have HK := hidOf hk
    have hkn : (k : Int) < n := by have := HNN.out; omega
    have hknl : k < n := by omega
    have n64 : (n : Int) ≤ 64 := by have := HR.out.n; have := HNN.out; have := RR.out.c1; omega
    have HY := hidOf (And.intro M (HX.out.2.trans K1))
    have HPR := hidOf (show w.heap.size ≤ m ∧ w.heap.size ≤ p ∧ w.heap.size ≤ r by have := HX.out.2.size; omega)
    have HBX := hidOf (HX.out.1.kept K1 (by simp))
    have HWI := hidOf (rhw_isW (k := k + 1) (by omega))
    have HWX := hidOf (show ixV (hw (k + 1)) = (k : Int) + 1 by rw [hw_ix (by omega)]; omega)
    have HWP := hidOf (show plainV (hw (k + 1)) = hw (k + 1) from (plainV_of (hw (k + 1))).2 (hw_mk (by omega)))
    obtain ⟨HWK, hHWK⟩ : ∃ z, z = hw (k + 1) := ⟨_, rfl⟩
    rw [← hHWK] at HWI HWX HWP
    try rw [← hHWK]
    have HHW := hidOf hHWK
    have HXP1 := hidOf (HXP.out.kept K1 (by simp))
    clear M K1 hpr hR hk ND HX hHWK
    obtain ⟨b1, o1, ea, -⟩ := nn_row HS.out HK.out
    subst ea
    obtain ⟨x, hx⟩ : ∃ x, x = ns.getD k nn0 := ⟨_, rfl⟩
    have HXE := hidOf hx
    have RO : Hid (∀ Y, Kept [] w Y → Y.cell? ⟨b1, o1 + k * 5, none⟩ = some (.int .u64 x.k) ∧ b1 < Y.heap.size) := hidOf (fun Y kk => by
      obtain ⟨b, o, e, l, y0, _⟩ := nn_row (HS.out.new kk) HK.out
      cases e
      rw [HXE.out]; exact ⟨y0, l⟩)
    clear hx
    subst hkz
    have HB1 := hidOf (show Kept [] w w1 from HY.out.2)
    have LR0 := ldr_is (ow := 1) HR.out HW.out HK.out (by unfold isW; omega)
    have FB0 := full_bd RR.out LR0.ok
    obtain ⟨OV, hOV⟩ : ∃ OV, OV = ownV c ns k 1 := ⟨_, rfl⟩
    rw [← hOV] at LR0 HY
    clear hOV
    have HIO : Hid (IO c (ndOf c (delN ns k)) (k + 1) OV (rtS HWK x.k) OV ⟨0, 0, 0⟩ (rtS HWK x.k) 1560) := hidOf (by
      by_cases e : (1 : Int) = 1
      · skip
        have V0 := LR0.rv (left := 1560) HR.out.r HK.out ⟨0, 0, 0⟩ FB0
        rw [← HHW.out, ← HXE.out] at V0
        exact Or.inl ⟨V0, LR0.ck, fun q => by cases q⟩
      · refine Or.inr (Or.inl ⟨by omega, rfl, rfl, ?_⟩)
        show fd c OV (ixV (plainV HWK)) 5 ≠ 1
        have z := LR0.own
        rw [show ((k + 1 : Nat) : Int) = (k : Int) + 1 by omega] at z
        rw [ix_pl, HWX.out, z]; exact e)
    have HWD := hidOf LR0.wd
    clear LR0 FB0 hmx hwr ht1 ht2
    obtain ⟨l, hl⟩ : ∃ l, l = ndOf c (delN ns k) := ⟨_, rfl⟩
    rw [← hl] at HIO
    clear hl
    have NA := hidOf (rtnew_any HWK x.k w1 (HT.out.kept HY.out.2) HWI.out.1 HWI.out.2)
    have r0 := (RO.out w1 HY.out.2).1
    have rl := (RO.out w1 HY.out.2).2
    have y0 := cell_of_blk HXP1.out (i := 0) (v := .int .i64 (k : Int)) rfl
    have yl := lt_of_blk HXP1.out
    go_wp2_with fail
    with_reducible refine NA.out.mono ?_
    rintro e w3 ⟨b, fb, rfl, hb, hfb, RB, FB3, K3⟩
    have PB : Rp w w3 b fb m p r c HWK x.k OV 1 a0 := by
      have sz := HY.out.2.size
      exact ⟨RB, FB3, HY.out.1.new K3, HY.out.2.trans K3, HT.out, by omega, by omega, HPR.out.2.1, HPR.out.2.2, HR.out.r, HWD.out, by omega, HWI.out⟩
    have HP := hidOf PB
    clear hb hfb RB FB3 K3 PB NA r0 rl y0 yl HY
    go_wp2_with fail
    with_reducible refine (gnew_any 0 _).mono ?_
    rintro e w4 ⟨gq, rfl, -, -, K4⟩
    have HP4 := hidOf (HP.out.new K4)
    clear K4 HP
    have EB := hidOf (ends14_any (IO c l (k + 1) OV (rtS HWK x.k)) w w4 b fb m p r c HWK x.k OV 1 a0 2000 1560 HP4.out (by omega) (by omega) (by omega) HIO.out
      (fun cs g s lf cnt' h hd => h.step rfl rfl hd cnt') (fun cs g s lf h hl => h.done hl))
    go_wp2_with fail
    refine EB.out.mono ?_
    rintro e w6 ⟨n2, rfl, -, E2⟩
    obtain ⟨gb, g2, s2, cs2, cnt2, acc2, W2, -, hd2, z1, z2, -⟩ := E2.fin
    obtain ⟨HH, BB, EE, hen⟩ := ent_any s2
    have HEN := hidOf hen
    have HZ := hidOf (And.intro W2 (And.intro hd2 (show 0 ≤ cnt2 ∧ cnt2 ≤ 2000 by omega)))
    obtain ⟨TD, hTD⟩ : ∃ TD, s2.told = TD := ⟨_, rfl⟩
    have HTD := hidOf hTD
    clear E2 W2 hd2 z1 z2 hen EB HP4 HIO hTD
    have ET := hidOf (rtentry_any b fb s2 w6 HZ.out.1.rb)
    rw [HEN.out, HTD.out] at ET
    go_wp2_with fail
    with_reducible refine ET.out.mono ?_
    rintro e w5 ⟨rfl, K5⟩
    obtain ⟨x12, hx12⟩ : ∃ x, x = w5.heap.size := ⟨_, rfl⟩
    have BX : Hid (RW 37 (w5.alloc (.cells #[.int .u64 HH, .int .u64 BB, .int .u64 EE] 37)) x12 #[.int .u64 HH, .int .u64 BB, .int .u64 EE] ∧ Kept [] w6 (w5.alloc (.cells #[.int .u64 HH, .int .u64 BB, .int .u64 EE] 37))) := by rw [hx12]; exact ⟨RW.new _ _ _, K5.alloc _⟩
    clear ET K5
    go_upto_region 9 with (fail)
    rw [← hx12]
    refine gen_world (fun Y => RW 37 Y x12 #[.int .u64 HH, .int .u64 BB, .int .u64 EE] ∧ Kept [] w6 Y) BX.out ?_
    clear BX hx12
    rintro Y ⟨R12, K7⟩
    have HV := hidOf (And.intro (HZ.out.1.new K7) R12)
    clear R12 K7
    have BK := hidOf HV.out.1.fw.bank
    have CN := hidOf HV.out.1.fw.count
    go_wp2_with fail
    with_reducible refine BK.out.mono ?_
    rintro e w8 ⟨rfl, rfl⟩
    clear BK
    go_wp2_with fail
    with_reducible refine CN.out.mono ?_
    rintro e w9 ⟨rfl, rfl⟩
    clear CN
    go_wp2
    go_loopw [59] (fun s wr => ∃ i : Nat, i ≤ 5 ∧ s = .int .i64 i ∧ Kept [] w9 wr) (fun s _ => 5 - (intOf s).toNat)
    case atStart => exact ⟨0, by omega, by first | rfl | go_num, Kept.refl _ _⟩
    case round =>
      obtain ⟨i, hi, rfl, KK⟩ := hrel
      have HKK := hidOf KK
      clear KK
      by_cases hlt : i < 5
      · have hltz : (i : Int) < 5 := by omega
        have SP := hidOf (fun (V1 V2 : Value) => rtstep_d (w := wr) V1 V2 (HV.out.1.rb.kept HKK.out (by simp)) HZ.out.2.1)
        go_wp2_with fail
        with_reducible refine (SP.out _ _).mono ?_
        rintro e w10 ⟨rfl, rfl⟩
        go_wp2
        go_roundw
        case rel => exact ⟨i + 1, by omega, by go_num, HKK.out⟩
        case measure => simp [intOf]; omega
      · have hie : i = 5 := by omega
        subst hie
        have HU := hidOf (And.intro (HV.out.1.new HKK.out) (HV.out.2.kept HKK.out (by simp)))
        clear HV HKK
        have ET := hidOf (rtentry_any b fb s2 wr HU.out.1.rb)
        rw [HEN.out, HTD.out] at ET
        go_wp2_with fail
        with_reducible refine ET.out.mono ?_
        rintro e w5 ⟨rfl, K5⟩
        obtain ⟨x15, hx15⟩ : ∃ x, x = w5.heap.size := ⟨_, rfl⟩
        have BX : Hid (RW 37 (w5.alloc (.cells #[.int .u64 HH, .int .u64 BB, .int .u64 EE] 37)) x15 #[.int .u64 HH, .int .u64 BB, .int .u64 EE] ∧ Kept [] wr (w5.alloc (.cells #[.int .u64 HH, .int .u64 BB, .int .u64 EE] 37))) := by rw [hx15]; exact ⟨RW.new _ _ _, K5.alloc _⟩
        clear ET K5
        go_upto_region 15 with (fail)
        rw [← hx15]
        refine gen_world (fun Y => RW 37 Y x15 #[.int .u64 HH, .int .u64 BB, .int .u64 EE] ∧ Kept [] wr Y) BX.out ?_
        clear BX hx15
        rintro Y2 ⟨R15, K8⟩
        have HS := hidOf (And.intro (HU.out.1.new K8) (And.intro R15 (HU.out.2.kept K8 (by simp))))
        clear R15 K8 HU
        have AL := hidOf (alive_any Y2 HS.out.1.fw.st.tb)
        have heq1 : ∀ w, Sem.run Tryd.prog (Op.equalIn 10000 37 (.agg #[.int .u64 HH, .int .u64 BB, .int .u64 EE]) (.agg #[.int .u64 HH, .int .u64 BB, .int .u64 EE])) w = .ok true w := fun w => by
          have z := req_cent HH BB EE HH BB EE w
          simpa using z
        go_wp2_with fail
        with_reducible refine AL.out.mono ?_
        rintro e w11 ⟨rfl, K9⟩
        have HR2 := hidOf (And.intro (HS.out.1.new K9) (And.intro (HS.out.2.1.kept K9 (by simp)) (HS.out.2.2.kept K9 (by simp))))
        clear K9 HS AL
        have c0 := cell_of_blk HR2.out.2.1 (i := 0) rfl
        have c1 := cell_of_blk HR2.out.2.1 (i := 1) rfl
        have c2 := cell_of_blk HR2.out.2.1 (i := 2) rfl
        have d0 := cell_of_blk HR2.out.2.2 (i := 0) rfl
        have d1 := cell_of_blk HR2.out.2.2 (i := 1) rfl
        have d2 := cell_of_blk HR2.out.2.2 (i := 2) rfl
        have BK := hidOf HR2.out.1.fw.bank
        have CN := hidOf HR2.out.1.fw.count
        go_wp2_with fail
        with_reducible refine BK.out.mono ?_
        rintro e w12 ⟨rfl, rfl⟩
        go_wp2_with fail
        with_reducible refine CN.out.mono ?_
        rintro e w13 ⟨rfl, rfl⟩
        have KF := hidOf HR2.out.1.fw.kp
        go_wp2
        go_ret
        exact ⟨rfl, KF.out⟩
  · have hmx : max (1 : Int) tz = tz := by omega
    have hwr : IntKind.u64.wrap tz = tz := by rw [IntKind.wrap_u64]; omega
    have ht1 : 1 < tz := by omega
    have ht2 : tz < 9223372036854775808 := by omega
    have ND := hidOf (node_any c ns ao n cap kz tz W (HT.out.kept HX.out.2) HW.out (HS.out.new HX.out.2) HNN.out HCP.out)
    go_wp2_with (first | ((with_reducible change wpList _ _ _ (Oper.mk _ (Op.load 23 (Operand.tmp 3)) _ _ _ _ :: _) _ _); refine wpList_load_rw 23 isT_cf rfl (.tmp 3) rfl q rfl #[.int .i64 c.t, .int .i64 c.s, .int .i64 c.c, .int .i64 c.h, .int .i64 c.k, .int .i64 c.e, .int .i64 c.l] rfl HX.out.1 ?_))
    with_reducible refine ND.out.mono ?_
    rintro e w1 ⟨K1, ⟨rfl, no⟩ | ⟨k, hkz, hk, hR, m, p, r, a0, rfl, hpr, M⟩⟩
    · have K2 := hidOf (HX.out.2.trans K1)
      clear K1 no ND
      
      have AL := hidOf (alive_any _ (HT.out.kept (K2.out)))
      have KF := hidOf (K2.out)
      go_wp2_with fail
      with_reducible refine AL.out.mono ?_
      rintro e WA ⟨rfl, KA⟩
      have KG := hidOf (KF.out.trans KA)
      clear KA
      go_wp2
      go_ret
      exact ⟨rfl, KG.out⟩
    have HR := hidOf hR
    have RR := hidOf (riB_true.1 hR.r)
    have HK := hidOf hk
    have hkn : (k : Int) < n := by have := HNN.out; omega
    have hknl : k < n := by omega
    have n64 : (n : Int) ≤ 64 := by have := HR.out.n; have := HNN.out; have := RR.out.c1; omega
    have HY := hidOf (And.intro M (HX.out.2.trans K1))
    have HPR := hidOf (show w.heap.size ≤ m ∧ w.heap.size ≤ p ∧ w.heap.size ≤ r by have := HX.out.2.size; omega)
    have HBX := hidOf (HX.out.1.kept K1 (by simp))
    have HWI := hidOf (rhw_isW (k := k + 1) (by omega))
    have HWX := hidOf (show ixV (hw (k + 1)) = (k : Int) + 1 by rw [hw_ix (by omega)]; omega)
    have HWP := hidOf (show plainV (hw (k + 1)) = hw (k + 1) from (plainV_of (hw (k + 1))).2 (hw_mk (by omega)))
    obtain ⟨HWK, hHWK⟩ : ∃ z, z = hw (k + 1) := ⟨_, rfl⟩
    rw [← hHWK] at HWI HWX HWP
    try rw [← hHWK]
    have HHW := hidOf hHWK
    have HXP1 := hidOf (HXP.out.kept K1 (by simp))
    clear M K1 hpr hR hk ND HX hHWK
    obtain ⟨b1, o1, ea, -⟩ := nn_row HS.out HK.out
    subst ea
    obtain ⟨x, hx⟩ : ∃ x, x = ns.getD k nn0 := ⟨_, rfl⟩
    have HXE := hidOf hx
    have RO : Hid (∀ Y, Kept [] w Y → Y.cell? ⟨b1, o1 + k * 5, none⟩ = some (.int .u64 x.k) ∧ b1 < Y.heap.size) := hidOf (fun Y kk => by
      obtain ⟨b, o, e, l, y0, _⟩ := nn_row (HS.out.new kk) HK.out
      cases e
      rw [HXE.out]; exact ⟨y0, l⟩)
    clear hx
    subst hkz
    have HB1 := hidOf (show Kept [] w w1 from HY.out.2)
    have LR0 := ldr_is (ow := tz) HR.out HW.out HK.out (by unfold isW; omega)
    have FB0 := full_bd RR.out LR0.ok
    obtain ⟨OV, hOV⟩ : ∃ OV, OV = ownV c ns k tz := ⟨_, rfl⟩
    rw [← hOV] at LR0 HY
    clear hOV
    have HIO : Hid (IO c (ndOf c (delN ns k)) (k + 1) OV (rtS HWK x.k) OV ⟨0, 0, 0⟩ (rtS HWK x.k) 1560) := hidOf (by
      by_cases e : (tz : Int) = 1
      · exfalso; omega
    
      · refine Or.inr (Or.inl ⟨by omega, rfl, rfl, ?_⟩)
        show fd c OV (ixV (plainV HWK)) 5 ≠ 1
        have z := LR0.own
        rw [show ((k + 1 : Nat) : Int) = (k : Int) + 1 by omega] at z
        rw [ix_pl, HWX.out, z]; exact e)
    have HWD := hidOf LR0.wd
    clear LR0 FB0 hmx hwr ht1 ht2
    obtain ⟨l, hl⟩ : ∃ l, l = ndOf c (delN ns k) := ⟨_, rfl⟩
    rw [← hl] at HIO
    clear hl
    have NA := hidOf (rtnew_any HWK x.k w1 (HT.out.kept HY.out.2) HWI.out.1 HWI.out.2)
    have r0 := (RO.out w1 HY.out.2).1
    have rl := (RO.out w1 HY.out.2).2
    have y0 := cell_of_blk HXP1.out (i := 0) (v := .int .i64 (k : Int)) rfl
    have yl := lt_of_blk HXP1.out
    go_wp2_with fail
    with_reducible refine NA.out.mono ?_
    rintro e w3 ⟨b, fb, rfl, hb, hfb, RB, FB3, K3⟩
    have PB : Rp w w3 b fb m p r c HWK x.k OV 1 a0 := by
      have sz := HY.out.2.size
      exact ⟨RB, FB3, HY.out.1.new K3, HY.out.2.trans K3, HT.out, by omega, by omega, HPR.out.2.1, HPR.out.2.2, HR.out.r, HWD.out, by omega, HWI.out⟩
    have HP := hidOf PB
    clear hb hfb RB FB3 K3 PB NA r0 rl y0 yl HY
    go_wp2_with fail
    with_reducible refine (gnew_any 0 _).mono ?_
    rintro e w4 ⟨gq, rfl, -, -, K4⟩
    have HP4 := hidOf (HP.out.new K4)
    clear K4 HP
    have EB := hidOf (ends14_any (IO c l (k + 1) OV (rtS HWK x.k)) w w4 b fb m p r c HWK x.k OV 1 a0 2000 1560 HP4.out (by omega) (by omega) (by omega) HIO.out
      (fun cs g s lf cnt' h hd => h.step rfl rfl hd cnt') (fun cs g s lf h hl => h.done hl))
    go_wp2_with fail
    refine EB.out.mono ?_
    rintro e w6 ⟨n2, rfl, -, E2⟩
    obtain ⟨gb, g2, s2, cs2, cnt2, acc2, W2, -, hd2, z1, z2, -⟩ := E2.fin
    obtain ⟨HH, BB, EE, hen⟩ := ent_any s2
    have HEN := hidOf hen
    have HZ := hidOf (And.intro W2 (And.intro hd2 (show 0 ≤ cnt2 ∧ cnt2 ≤ 2000 by omega)))
    obtain ⟨TD, hTD⟩ : ∃ TD, s2.told = TD := ⟨_, rfl⟩
    have HTD := hidOf hTD
    clear E2 W2 hd2 z1 z2 hen EB HP4 HIO hTD
    have ET := hidOf (rtentry_any b fb s2 w6 HZ.out.1.rb)
    rw [HEN.out, HTD.out] at ET
    go_wp2_with fail
    with_reducible refine ET.out.mono ?_
    rintro e w5 ⟨rfl, K5⟩
    obtain ⟨x12, hx12⟩ : ∃ x, x = w5.heap.size := ⟨_, rfl⟩
    have BX : Hid (RW 37 (w5.alloc (.cells #[.int .u64 HH, .int .u64 BB, .int .u64 EE] 37)) x12 #[.int .u64 HH, .int .u64 BB, .int .u64 EE] ∧ Kept [] w6 (w5.alloc (.cells #[.int .u64 HH, .int .u64 BB, .int .u64 EE] 37))) := by rw [hx12]; exact ⟨RW.new _ _ _, K5.alloc _⟩
    clear ET K5
    go_upto_region 9 with (fail)
    rw [← hx12]
    refine gen_world (fun Y => RW 37 Y x12 #[.int .u64 HH, .int .u64 BB, .int .u64 EE] ∧ Kept [] w6 Y) BX.out ?_
    clear BX hx12
    rintro Y ⟨R12, K7⟩
    have HV := hidOf (And.intro (HZ.out.1.new K7) R12)
    clear R12 K7
    have BK := hidOf HV.out.1.fw.bank
    have CN := hidOf HV.out.1.fw.count
    go_wp2_with fail
    with_reducible refine BK.out.mono ?_
    rintro e w8 ⟨rfl, rfl⟩
    clear BK
    go_wp2_with fail
    with_reducible refine CN.out.mono ?_
    rintro e w9 ⟨rfl, rfl⟩
    clear CN
    go_wp2
    go_loopw [59] (fun s wr => ∃ i : Nat, i ≤ 5 ∧ s = .int .i64 i ∧ Kept [] w9 wr) (fun s _ => 5 - (intOf s).toNat)
    case atStart => exact ⟨0, by omega, by first | rfl | go_num, Kept.refl _ _⟩
    case round =>
      obtain ⟨i, hi, rfl, KK⟩ := hrel
      have HKK := hidOf KK
      clear KK
      by_cases hlt : i < 5
      · have hltz : (i : Int) < 5 := by omega
        have SP := hidOf (fun (V1 V2 : Value) => rtstep_d (w := wr) V1 V2 (HV.out.1.rb.kept HKK.out (by simp)) HZ.out.2.1)
        go_wp2_with fail
        with_reducible refine (SP.out _ _).mono ?_
        rintro e w10 ⟨rfl, rfl⟩
        go_wp2
        go_roundw
        case rel => exact ⟨i + 1, by omega, by go_num, HKK.out⟩
        case measure => simp [intOf]; omega
      · have hie : i = 5 := by omega
        subst hie
        have HU := hidOf (And.intro (HV.out.1.new HKK.out) (HV.out.2.kept HKK.out (by simp)))
        clear HV HKK
        have ET := hidOf (rtentry_any b fb s2 wr HU.out.1.rb)
        rw [HEN.out, HTD.out] at ET
        go_wp2_with fail
        with_reducible refine ET.out.mono ?_
        rintro e w5 ⟨rfl, K5⟩
        obtain ⟨x15, hx15⟩ : ∃ x, x = w5.heap.size := ⟨_, rfl⟩
        have BX : Hid (RW 37 (w5.alloc (.cells #[.int .u64 HH, .int .u64 BB, .int .u64 EE] 37)) x15 #[.int .u64 HH, .int .u64 BB, .int .u64 EE] ∧ Kept [] wr (w5.alloc (.cells #[.int .u64 HH, .int .u64 BB, .int .u64 EE] 37))) := by rw [hx15]; exact ⟨RW.new _ _ _, K5.alloc _⟩
        clear ET K5
        go_upto_region 15 with (fail)
        rw [← hx15]
        refine gen_world (fun Y => RW 37 Y x15 #[.int .u64 HH, .int .u64 BB, .int .u64 EE] ∧ Kept [] wr Y) BX.out ?_
        clear BX hx15
        rintro Y2 ⟨R15, K8⟩
        have HS := hidOf (And.intro (HU.out.1.new K8) (And.intro R15 (HU.out.2.kept K8 (by simp))))
        clear R15 K8 HU
        have AL := hidOf (alive_any Y2 HS.out.1.fw.st.tb)
        have heq1 : ∀ w, Sem.run Tryd.prog (Op.equalIn 10000 37 (.agg #[.int .u64 HH, .int .u64 BB, .int .u64 EE]) (.agg #[.int .u64 HH, .int .u64 BB, .int .u64 EE])) w = .ok true w := fun w => by
          have z := req_cent HH BB EE HH BB EE w
          simpa using z
        go_wp2_with fail
        with_reducible refine AL.out.mono ?_
        rintro e w11 ⟨rfl, K9⟩
        have HR2 := hidOf (And.intro (HS.out.1.new K9) (And.intro (HS.out.2.1.kept K9 (by simp)) (HS.out.2.2.kept K9 (by simp))))
        clear K9 HS AL
        have c0 := cell_of_blk HR2.out.2.1 (i := 0) rfl
        have c1 := cell_of_blk HR2.out.2.1 (i := 1) rfl
        have c2 := cell_of_blk HR2.out.2.1 (i := 2) rfl
        have d0 := cell_of_blk HR2.out.2.2 (i := 0) rfl
        have d1 := cell_of_blk HR2.out.2.2 (i := 1) rfl
        have d2 := cell_of_blk HR2.out.2.2 (i := 2) rfl
        have BK := hidOf HR2.out.1.fw.bank
        have CN := hidOf HR2.out.1.fw.count
        go_wp2_with fail
        with_reducible refine BK.out.mono ?_
        rintro e w12 ⟨rfl, rfl⟩
        go_wp2_with fail
        with_reducible refine CN.out.mono ?_
        rintro e w13 ⟨rfl, rfl⟩
        have KF := hidOf HR2.out.1.fw.kp
        go_wp2
        go_ret
        exact ⟨rfl, KF.out⟩

set_option maxRecDepth 100000 in
theorem retireOnce_lifted (os : Os) (started : os.Started) (H : Type) (enc : TypeId × Value → H) :
    ReturnsInHanded {} Tryd.checked os 7 .any (fun w args => (Rows.retireOnceSpec.pre enc Tryd.prog Tryd.f7 [] false w args ∧ laidMetH Tryd.prog laid1 w) ∧ sizedMet enc Tryd.prog Tryd.f7 (OpenSpec.ofChange Rows.retireOnceSpec) false w args)
      (Rows.retireOnceSpec.post enc Tryd.prog Tryd.f7 false true false false) := by
  refine returnsInHanded_of_change_and (C := Tryd.checked) (X := fun w _ => laidMetH Tryd.prog laid1 w) (fun _ _ _ hh h => h.of_heap hh) own started (by kernel_rfl) Tryd.func7
    (ChangeSpec.witness_shaped (enc := enc) (C := Tryd.checked) (os := os) (X := fun w _ => laidMetH Tryd.prog laid1 w) false (World.doorLaid Tryd.prog 400 os) #[.agg #[.int .i64 0, .int .i64 0, .int .i64 0, .int .i64 0, .int .i64 0, .int .i64 0, .int .i64 0], .slice none 0 0, .agg #[.int .i64 0, .int .i64 0]] 8 rfl (World.shaped_of_RefB (by kernel_rfl) (by kernel_rfl)) (by kernel_rfl) (by kernel_rfl) (by kernel_rfl) (door_met os _)) ?_
  intro W base args ds gs before hval0 hW _ _ hL _
  have hval : ∀ (j : Nat) t v, Tryd.f7.params[j]? = some t → args[j]? = some v → Value.okWide Tryd.prog W .any base t v := hval0
  have hW' := hW
  obtain ⟨p, q, hA0, hV, rfl, _, _⟩ := hW
  have hA : DataW.TrodAll enc Tryd.prog W 0 (fun _ => true) true Tryd.f7.params.toList args.toList ds p := hA0
  rw [Tryd.params7] at hA hval
  clear hA0 hval0
  obtain ⟨v0, vs0, d0, ds0, p0, q0, hargs, rfl, rfl, h0, r0⟩ := trodAll_cons hA
  obtain ⟨v1, vs1, d1, ds1, p1, q1, rfl, rfl, rfl, h1, r1⟩ := trodAll_cons r0
  obtain ⟨v2, vs2, d2, ds2, p2, q2, rfl, rfl, rfl, h2, r2⟩ := trodAll_cons r1
  obtain ⟨rfl, rfl, rfl⟩ := trodAll_nil r2
  obtain rfl : args = #[v0, v1, v2] := by cases args; simp_all
  obtain ⟨rfl, rfl⟩ := trodVars_none hV
  have k0 := h0
  have k1 := h1
  have k2 := h2
  simp only [List.append_nil] at hW'
  have hlt0 : ∀ x ∈ p0, x.block < W.heap.size := fun x hx => hW'.lt x (by simp [hx])
  have hlt1 : ∀ x ∈ p1, x.block < W.heap.size := fun x hx => hW'.lt x (by simp [hx])
  have hlt2 : ∀ x ∈ p2, x.block < W.heap.size := fun x hx => hW'.lt x (by simp [hx])
  obtain ⟨c0, rfl, g0⟩ := open_cfg (hval 0 23 v0 rfl rfl) h0
  obtain ⟨ao1, cap1, ns1, rfl, s1, g1, n1⟩ := open_nodes2 (hval 1 24 v1 rfl rfl) h1
  obtain ⟨ka2, ta2, rfl, u2⟩ := open_pair (hval 2 43 v2 rfl rfl) h2
  refine (retireOnce_walk W c0 g0 ao1 ns1 cap1 s1 g1 n1 ka2 ta2 u2 (tab_of_laid hL)).mono fun e W' ⟨he, hg⟩ => ?_
  subst he
  have hb := hg.below (by simp)
  exact ⟨_, rfl, _, _, _, [], _, [], hW', (trodAll_cons_mk (shut_bool Tryd.underlying4 _) trodAll_mk0), (trodAll_cons_mk (Below.trod laidOut (by kernel_rfl) (of_decide_eq_true (by kernel_rfl)) k0 hb hlt0) (trodAll_cons_mk (Below.trod laidOut (by kernel_rfl) (of_decide_eq_true (by kernel_rfl)) k1 hb hlt1) (trodAll_cons_mk (Below.trod laidOut (by kernel_rfl) (of_decide_eq_true (by kernel_rfl)) k2 hb hlt2) trodAll_mk0))), rfl, hb.frame _, fun h => by cases h⟩

theorem retireOnce_over : Rows.RetireOnceSaid :=
  OpenClaim.holds_of_wide 7 Tryd.f7 rfl rfl rfl rfl rfl rfl rfl ⟨rfl, rfl, rfl, rfl, rfl⟩ rfl rfl rfl rfl rfl (by kernel_rfl) Tryd.func7 (by kernel_rfl)
    (of_decide_eq_true (by kernel_rfl)) (by unfold Func.isWrapper; first | (rw [if_pos (by decide +kernel)]; kernel_rfl) | (rw [if_neg (by decide +kernel)]; exact ⟨rfl, rfl⟩))
    (fun os started H enc _ => retireOnce_lifted os started H enc)

theorem retireOnce_holds : Rows.RetireOnceCardSaid :=
  Claim7.holds_tied_plain_at .later [] [.data] true (true, "a31f6f01599eee3ce13a6e1683cb531bb06135781a9e9eb854bb6c4ee7479a88") false
    retireOnce_over (fun _ h => by cases h) (by kernel_rfl) (fun _ h => by cases h) retireOnce_row_tie rfl ⟨rfl, rfl⟩ (by kernel_rfl) rfl
    (fun f fn hf hfn => by
      obtain rfl : f = 7 := Option.some.inj ((show Tryd.prog.funcNamed "stepstone/stepstonelaw14.RetireOnce" = some 7 by kernel_rfl).symm.trans hf) |>.symm
      obtain rfl : fn = Tryd.f7 := (Option.some.inj (Tryd.func7.symm.trans hfn)).symm
      exact ⟨by kernel_rfl, fun j t ht => by
          rw [Tryd.params7] at ht
          rcases j with _ | j
          · have : t = 23 := by simpa using ht.symm
            subst this; exact (show Tryd.prog.wantsStandIn 23 = false by kernel_rfl)
          rcases j with _ | j
          · have : t = 24 := by simpa using ht.symm
            subst this; exact (show Tryd.prog.wantsStandIn 24 = false by kernel_rfl)
          rcases j with _ | j
          · have : t = 43 := by simpa using ht.symm
            subst this; exact (show Tryd.prog.wantsStandIn 43 = false by kernel_rfl)
          simp at ht⟩)
    (by kernel_rfl)
#print axioms retireOnce_holds
end Go.Proofs.YtgafmklfpiipcaaDoor
