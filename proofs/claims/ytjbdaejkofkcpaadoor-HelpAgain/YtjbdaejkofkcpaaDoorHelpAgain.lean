/-
  Of a node that is deleted on all its levels a help changes nothing, in a step a level and one.
  Conditions: the package variable of handle that the code reads starts as the program's text lays it (the card ties it to that text).
-/
import Derived.Test.YtjbdaejkofkcpaaDoorJAlive
import Derived.Test.YtjbdaejkofkcpaaDoorHLaid
import Derived.Test.YtjbdaejkofkcpaaDoorPArgs
import Derived.Deep.CutRange
import Derived.ProofKit
import Derived.SizedLaws
import Derived.Carry
namespace Go.Proofs.YtjbdaejkofkcpaaDoor
open Go.ChangeShapes Go.WideShapes Go.ChangeAt Go.RowKit
open Go.Deep
open Go.Proofs.YtjbdaejkofkcpaaDoor.K
set_option maxRecDepth 100000

set_option maxRecDepth 100000 in
set_option maxHeartbeats 8000000 in
theorem helpAgain_walk (w : World) (c : Cfg) (_g : c.wf) (ao : Option Addr) (xs : List Int) (cap : Nat) (hs : Sl w ao xs) (hg : ∀ x ∈ xs, isWord x) (hc : ao = none → cap = 0) (h : Int) (hh : (Lit.int .u64 h).wf = true) (hT : Tab w) :
    Calls Tryd.prog 7 #[c.val, .slice ao xs.length cap, .int .u64 h] w fun e w' => e = .returned (.bool true) ∧ Kept [] w w' := by
  have hb := bounds_u64 hh
  have wh : isW h := by unfold isW; omega
  clear hh
  simp only [Cfg.val]
  obtain ⟨n, hn⟩ : ∃ n, n = xs.length := ⟨_, rfl⟩
  rw [← hn]
  have HN := hidOf hn
  have HS := hidOf hs
  have HC := hidOf hc
  have HW := hidOf (wds_of hg)
  have HT := hidOf hT
  clear hn hs hc hg hT
  obtain ⟨q, hq⟩ : ∃ q, q = w.heap.size := ⟨_, rfl⟩
  have BX : Hid (RW 23 (w.alloc (.cells #[.int .i64 c.t, .int .i64 c.s, .int .i64 c.c, .int .i64 c.h, .int .i64 c.k, .int .i64 c.e, .int .i64 c.l] 23)) q #[.int .i64 c.t, .int .i64 c.s, .int .i64 c.c, .int .i64 c.h, .int .i64 c.k, .int .i64 c.e, .int .i64 c.l] ∧ Kept [] w (w.alloc (.cells #[.int .i64 c.t, .int .i64 c.s, .int .i64 c.c, .int .i64 c.h, .int .i64 c.k, .int .i64 c.e, .int .i64 c.l] 23))) := by rw [hq]; exact ⟨RW.new _ _ _, (Kept.refl [] w).alloc _⟩
  by_cases hW : IsW c n
  · have HI := hidOf hW
    have n4 := hW.2.2
    clear hW
    have hpos : 0 < xs.length := by have := HI.out.2.1; have := HN.out; have := cf_bd (riB_true.1 HI.out.1); have := ts_bd (riB_true.1 HI.out.1); have := ln_yes HI.out.1; omega
    obtain ⟨b0, o0, eao, -, -⟩ := HS.out.cell hpos
    subst eao
    have CL : Hid (∀ Y : World, Kept [] w Y → ∀ k, k < n → Y.cell? ⟨b0, o0 + k, none⟩ = some (.int .u64 (xs.getD k 0)) ∧ b0 < Y.heap.size) := hidOf (by
      intro Y k i hi
      obtain ⟨b, o, e, l, z⟩ := (HS.out.new k).cell (i := i) (by rw [← HN.out]; exact hi)
      cases e
      exact ⟨z, l⟩)
    clear hpos
    go_enter Tryd.func7, Tryd.ntmps7
    go_upto_region 1 with (fail)
    rw [← hq]
    refine gen_world (fun W => RW 23 W q #[.int .i64 c.t, .int .i64 c.s, .int .i64 c.c, .int .i64 c.h, .int .i64 c.k, .int .i64 c.e, .int .i64 c.l] ∧ Kept [] w W) BX.out ?_
    have hqw : w.heap.size ≤ q := by omega
    clear BX hq
    rintro W ⟨CB, K0⟩
    have HX := hidOf (And.intro CB K0)
    clear CB K0
    have OF := hidOf (kof_yes c (some ⟨b0, o0, none⟩) xs n cap W HI.out HN.out (HS.out.new HX.out.2) HC.out)
    go_wp2_with (first | ((with_reducible change wpList _ _ _ (Oper.mk _ (Op.load 23 (Operand.tmp 3)) _ _ _ _ :: _) _ _); refine wpList_load_rw 23 isT_cf rfl (.tmp 3) rfl q rfl #[.int .i64 c.t, .int .i64 c.s, .int .i64 c.c, .int .i64 c.h, .int .i64 c.k, .int .i64 c.e, .int .i64 c.l] rfl HX.out.1 ?_))
    refine OF.out.mono ?_
    rintro e w1 ⟨m, p, r, g, c', rfl, ⟨a1, a2, a3, a4, a5⟩, M, R, K1⟩
    have HX1 := hidOf (And.intro (HX.out.1.kept K1 (by simp)) (show Jm w w1 m p r c xs 0 Acc.zero from ⟨M, HX.out.2.trans K1, HT.out, by have := HX.out.2.size; omega, by have := HX.out.2.size; omega, by have := HX.out.2.size; omega, riB_true.1 HI.out.1, HW.out, Int.le_refl _⟩))
    clear M R K1 OF HX a1 a2 a3 a4 a5
    go_upto_region 2 with (first | ((with_reducible change wpList _ _ _ (Oper.mk _ (Op.store 35 (Operand.tmp 8) _) _ _ _ _ :: _) _ _); refine wpList_store_rw 35 isT_rm rfl (.tmp 8) (.tmp 22) rfl w1.heap.size (rmA c (some ⟨g, 0, none⟩) n c' 0 Acc.zero) rfl rfl rfl (rm_one _ _ _ _ _ _) rmZ (RW.new 35 w1 rmZ) rfl ?_))
    refine gen_world (fun V => RW 23 V q #[.int .i64 c.t, .int .i64 c.s, .int .i64 c.c, .int .i64 c.h, .int .i64 c.k, .int .i64 c.e, .int .i64 c.l] ∧ Jm w V m p r c xs 0 Acc.zero) ?_ ?_
    · have KV : Kept [] w1 ((w1.alloc (.cells rmZ 35)).setRow w1.heap.size (rmA c (some ⟨g, 0, none⟩) n c' 0 Acc.zero)) := ((Kept.refl [] w1).alloc _).setRow (Or.inr (Nat.le_refl _)) _
      exact ⟨HX1.out.1.kept KV (by simp), HX1.out.2.new KV⟩
    clear HX1
    rintro V ⟨CB, J⟩
    have HX := hidOf (And.intro CB J)
    clear CB J
    go_wp2_with fail
    refine (hnew_any h _).mono ?_
    rintro e w2 ⟨b1, rfl, hb1, B1, K2⟩
    have HX2 := hidOf (And.intro (HX.out.1.kept K2 (by simp)) (And.intro (HX.out.2.new K2) (And.intro B1 (show w.heap.size ≤ b1 by have := HX.out.2.kp.size; omega))))
    clear hb1 B1 K2 HX
    go_wp2_with fail
    refine (hnew_any h _).mono ?_
    rintro e w3 ⟨b2, rfl, hb2, B2, K3⟩
    have HX := hidOf (And.intro (HX2.out.1.kept K3 (by simp)) (And.intro (HX2.out.2.1.new K3) (And.intro (HX2.out.2.2.1.kept K3 (by simp)) (And.intro B2 (show w.heap.size ≤ b1 ∧ w.heap.size ≤ b2 ∧ b1 < b2 from ⟨HX2.out.2.2.2, by have := HX2.out.2.1.kp.size; omega, by have := HX2.out.2.2.1.lt; omega⟩)))))
    clear hb2 B2 K3 HX2
    have IX := hidOf (fun (Y : World) (k : Kept [] w3 Y) => (index_any h Y (HX.out.2.1.new k).tab wh.1 wh.2).mono fun _ _ z => And.intro z.1 (k.trans z.2))
    have HCC := hidOf (fun (Y : World) (k : Kept [] w3 Y) => cell_of_blk (HX.out.1.kept k (by simp)) (i := 2) (v := .int .i64 c.c) rfl)
    obtain ⟨X, hX⟩ : ∃ X, X = ixV h := ⟨_, rfl⟩
    rw [← hX] at IX
    have HXX := hidOf hX
    clear hX
    by_cases hcx : c.c < X
    · 
      go_wp2_with fail
      go_region_held3 (fun W' => W'.cell? ⟨q, 2, none⟩ = some (.int .i64 c.c))
        (exact HCC.out _ (by first | assumption | exact (Kept.refl _ _).drew | exact Kept.refl _ _))
        (first | (go_at_call 17; with_reducible refine (IX.out _ (by exact (Kept.refl _ _).drew)).mono ?_; rintro e w5 ⟨rfl, K5⟩))
      have HY := hidOf (And.intro (HX.out.1.kept K5 (by simp)) (And.intro (HX.out.2.1.new K5) (And.intro (HX.out.2.2.1.kept K5 (by simp)) (And.intro (HX.out.2.2.2.1.kept K5 (by simp)) HX.out.2.2.2.2))))
      clear K5 IX HCC HX
      have HX := HY
      clear HY
      have AL := hidOf (alive_any _ (HT.out.kept HX.out.2.1.kp))
      go_wp2_with fail
      refine AL.out.mono ?_
      rintro e WA ⟨rfl, KA⟩
      have KF := hidOf ((HX.out.2.1.kp).trans KA)
      clear KA
      go_wp2
      go_ret
      exact ⟨rfl, KF.out⟩
    · 
      go_wp2_with fail
      go_region_held3 (fun W' => W'.cell? ⟨q, 2, none⟩ = some (.int .i64 c.c))
        (exact HCC.out _ (by first | assumption | exact (Kept.refl _ _).drew | exact Kept.refl _ _))
        (first | (go_at_call 17; with_reducible refine (IX.out _ (by exact (Kept.refl _ _).drew)).mono ?_; rintro e w5 ⟨rfl, K5⟩))
      have HY := hidOf (And.intro (HX.out.1.kept K5 (by simp)) (And.intro (HX.out.2.1.new K5) (And.intro (HX.out.2.2.1.kept K5 (by simp)) (And.intro (HX.out.2.2.2.1.kept K5 (by simp)) HX.out.2.2.2.2))))
      clear K5 IX HCC HX
      have HX := HY
      clear HY
      have HE := hidOf (En.of (i := X) HI.out.1 (by rw [← HN.out]; exact HI.out.2.1) (by rw [HXX.out]; unfold ixV; omega) (by omega : X ≤ c.c))
      obtain ⟨T, hT2⟩ : ∃ T, T = tlV c (fd c xs X 4) + 1 := ⟨_, rfl⟩
      rw [← hT2] at HE
      clear hT2
      have H1 := HX.out.2.2.2.2
      have EA := hidOf (ends_any w _ b1 m p r c ⟨h, 0, 0, 0⟩ xs 0 Acc.zero 100 HX.out.2.1 HX.out.2.2.1 H1.1 (Go.Proofs.YtjbdaejkofkcpaaDoor.K.HI.start wh) (by omega) (by omega))
      clear H1
      go_wp2_with fail
      refine EA.out.mono ?_
      rintro e w6 ⟨n1, rfl, e1, -, Z⟩
      have HU0 : HU c T X xs ⟨h, 0, 0, 0⟩ := by rw [HXX.out]; exact Go.Proofs.YtjbdaejkofkcpaaDoor.K.HU.start c T xs h
      obtain ⟨t1, ds, -, t3, -, n13, E1, U1, ⟨a1, J1⟩, -, dl⟩ := Z.fin HE.out HU0 e1
      have HY := hidOf (And.intro (cf_far HX.out.1 HX.out.2.2.1 HX.out.2.1.mm Z.kp) (And.intro J1 (And.intro (hb_far HX.out.2.2.2.1 (by have := HX.out.2.2.2.2; omega) HX.out.2.1.mm Z.kp) (And.intro HX.out.2.2.2.2.2.1 (And.intro E1 (And.intro (U1.dn t3) (And.intro n13 dl)))))))
      clear HX EA Z e1 HU0 E1 U1 J1 dl t3 n13
      have HX := HY
      clear HY
      have TT := HE.out.t0
      go_wp2_with fail
      refine HX.out.2.1.bank.mono ?_
      rintro e w7 ⟨rfl, rfl⟩
      go_wp2_with fail
      refine HX.out.2.1.cells.mono ?_
      rintro e w8 ⟨qr, rfl, hqr, QR, K8⟩
      have HY := hidOf (And.intro (HX.out.1.kept K8 (by simp)) (And.intro (HX.out.2.1.new K8) (And.intro (HX.out.2.2.1.kept K8 (by simp)) (And.intro (And.intro QR hqr.1) HX.out.2.2.2))))
      clear HX QR K8 hqr
      have HX := HY
      clear HY
      have eds := HX.out.2.2.2.2.2.2.2.2
      rw [eds, ← HN.out]
      clear eds
      obtain ⟨K4, hK4, lK4⟩ := cell_at (c := c) (i := X) (f := 4) HE.out.in4
      have nL : n = lnN c := by have := HI.out.2.1; have := lnN_eq c; omega
      have W4 := (CL.out w8 HX.out.2.1.kp K4 (by omega)).1
      have e4 : xs.getD K4 0 = fd c xs X 4 := by unfold fd; rw [hK4, rdG_eq, if_pos (by unfold hasC; have := HN.out; omega)]; rfl
      rw [e4] at W4
      have w4 := fd_word (c := c) HW.out X 4
      unfold isW at w4
      have hT4 := HE.out.tl
      have RR := riB_true.1 HI.out.1
      obtain ⟨V4, hV4⟩ : ∃ V, V = fd c xs X 4 := ⟨_, rfl⟩
      rw [← hV4] at W4 w4 hT4
      have SX : Hid (∀ W' : World, Kept [] w8 W' → (W'.cell? ⟨q, 0, none⟩ = some (.int .i64 c.t) ∧ W'.cell? ⟨q, 1, none⟩ = some (.int .i64 c.s) ∧ W'.cell? ⟨q, 2, none⟩ = some (.int .i64 c.c) ∧ W'.cell? ⟨q, 3, none⟩ = some (.int .i64 c.h) ∧ W'.cell? ⟨q, 4, none⟩ = some (.int .i64 c.k) ∧ W'.cell? ⟨q, 5, none⟩ = some (.int .i64 c.e) ∧ W'.cell? ⟨q, 6, none⟩ = some (.int .i64 c.l)) ∧ W'.cell? ⟨b0, o0 + K4, none⟩ = some (.int .u64 V4)) := hidOf (by
        intro W' kk
        have y := HX.out.1.kept kk (by simp)
        have z := (CL.out W' (HX.out.2.1.kp.trans kk) K4 (by omega)).1
        rw [e4, ← hV4] at z
        exact ⟨⟨cell_of_blk y (i := 0) rfl, cell_of_blk y (i := 1) rfl, cell_of_blk y (i := 2) rfl, cell_of_blk y (i := 3) rfl, cell_of_blk y (i := 4) rfl, cell_of_blk y (i := 5) rfl, cell_of_blk y (i := 6) rfl⟩, z⟩)
      have IX := hidOf (fun (Y : World) (k : Kept [] w8 Y) => (index_any h Y (HX.out.2.1.new k).tab wh.1 wh.2).mono fun _ _ z => And.intro z.1 (k.trans z.2))
      rw [← HXX.out] at IX
      have CE := hidOf (fun (Y : World) (k : Kept [] w8 Y) => (cell_is hK4 Y).mono fun _ _ z => And.intro z.1 (k.trans z.2))
      have hK : (K4 : Int) < n := by omega
      have HTV := hidOf (tl_val RR hT4)
      clear e4 hV4 lK4 nL hK4 W4 RR hT4 w4
      go_wp2_with fail
      go_region_held3 (fun W' => (W'.cell? ⟨q, 0, none⟩ = some (.int .i64 c.t) ∧ W'.cell? ⟨q, 1, none⟩ = some (.int .i64 c.s) ∧ W'.cell? ⟨q, 2, none⟩ = some (.int .i64 c.c) ∧ W'.cell? ⟨q, 3, none⟩ = some (.int .i64 c.h) ∧ W'.cell? ⟨q, 4, none⟩ = some (.int .i64 c.k) ∧ W'.cell? ⟨q, 5, none⟩ = some (.int .i64 c.e) ∧ W'.cell? ⟨q, 6, none⟩ = some (.int .i64 c.l)) ∧ W'.cell? ⟨b0, o0 + K4, none⟩ = some (.int .u64 V4))
        (exact SX.out _ (by first | assumption | exact (Kept.refl _ _).drew | exact Kept.refl _ _))
        (first
          | (go_at_call 17; with_reducible refine (IX.out _ (by first | assumption | exact (Kept.refl _ _).drew)).mono ?_; rintro e w9 ⟨rfl, K9⟩)
          | (go_at_call 18; with_reducible refine (CE.out _ (by first | assumption | exact (Kept.refl _ _).drew)).mono ?_; rintro e w10 ⟨rfl, K10⟩))
      rw [HTV.out]
      generalize (if V4 < 1 then (1 : Int) else V4) = M1
      generalize (if IntKind.u64.wrap c.h < M1 then IntKind.u64.wrap c.h else M1) = M2
      have HY := hidOf (And.intro (HX.out.1.kept K10 (by simp)) (And.intro (HX.out.2.1.new K10) (And.intro (HX.out.2.2.1.kept K10 (by simp)) (And.intro (And.intro (HX.out.2.2.2.1.1.kept K10 (by simp)) HX.out.2.2.2.1.2) HX.out.2.2.2.2))))
      clear K9 K10 SX IX CE HTV HX
      have HX := HY
      clear HY
      obtain ⟨o1, oE, oA, on, od⟩ := HX.out.2.2.2.2
      have EA := hidOf (ends_any w _ b2 m p r c ⟨h, 0, 0, 0⟩ ds (0 + n1) a1 100 HX.out.2.1 HX.out.2.2.1 o1 (Go.Proofs.YtjbdaejkofkcpaaDoor.K.HI.start wh) (by omega) (by omega))
      have HU0 : HU c T X ds ⟨h, 0, 0, 0⟩ := by rw [HXX.out]; exact Go.Proofs.YtjbdaejkofkcpaaDoor.K.HU.start c T ds h
      have HUU := hidOf HU0
      clear HU0 o1 oE oA on od
      go_wp2_with fail
      refine EA.out.mono ?_
      rintro e w12 ⟨n2, rfl, e1, -, Z⟩
      obtain ⟨o1, oE, oA, on, od⟩ := HX.out.2.2.2.2
      obtain ⟨x1, x2, x3⟩ := hx_all oE HUU.out oA (by show ¬ (0 : Nat) = 2; omega) n2 Z.no
      obtain ⟨y1, y2, y3⟩ := hx_end oE HUU.out Z.no e1
      have en : (n2 : Int) = T + 1 := by
        have z0 : nu T ⟨h, 0, 0, 0⟩ = T + 1 := if_pos rfl
        have z1 : nu T (hx c n2 (⟨h, 0, 0, 0⟩, ds)).1 = 0 := by unfold nu; rw [if_neg (by omega), if_neg (by omega)]
        omega
      obtain ⟨a2, J2⟩ := Z.jm
      rw [x1] at J2
      have QN := row_far HX.out.2.2.2.1.1 HX.out.2.2.2.1.2 HX.out.2.2.1 HX.out.2.1.mm Z.kp
      have HN2 := hidOf en
      obtain ⟨t2, ht2⟩ : ∃ t, t = (hx c n2 (⟨h, 0, 0, 0⟩, ds)).1 := ⟨_, rfl⟩
      have B2 := Z.hb
      rw [← ht2] at B2 y1
      have HDL : Hid (ds.length = n) := hidOf (by rw [HN.out]; exact od)
      have HY := hidOf (And.intro J2 (And.intro QN (And.intro B2 y1)))
      clear o1 oE oA on od x1 x2 x3 y1 y2 y3 en J2 QN Z e1 EA HX HUU ht2 B2
      go_wp2_with fail
      refine HY.out.1.bank.mono ?_
      rintro e w13 ⟨rfl, rfl⟩
      go_wp2_with fail
      refine HY.out.1.cells.mono ?_
      rintro e w14 ⟨qs, rfl, hqs, QS, K14⟩
      have HZ := hidOf (And.intro (HY.out.1.new K14) (And.intro (HY.out.2.1.kept K14 (by simp)) (And.intro QS (And.intro (HY.out.2.2.1.kept K14 (by simp)) HY.out.2.2.2))))
      clear HY K14 QS hqs
      rw [HDL.out]
      go_wp2
      go_loopw [80] (fun s80 wr => ∃ i : Nat, i ≤ n ∧ s80 = .int .i64 i ∧ Jm w wr m p r c ds (0 + n1 + n2) a2 ∧ Row wr qr ds ∧ Row wr qs ds ∧ HB wr b2 t2 ∧ t2.ph = 3) (fun s80 _ => n - (intOf s80).toNat)
      case atStart => exact ⟨0, by omega, by first | rfl | go_num, HZ.out⟩
      case round =>
        clear HZ
        obtain ⟨i, hi, rfl, Z⟩ := hrel
        have HZ := hidOf Z
        clear Z
        by_cases hlt : i < n
        · have hltz : (i : Int) < n := by omega
          have z1 := HZ.out.2.1.cell (i := i) (by rw [HDL.out]; exact hlt)
          have z2 := HZ.out.2.2.1.cell (i := i) (by rw [HDL.out]; exact hlt)
          have z3 := HZ.out.2.1.lt
          have z4 := HZ.out.2.2.1.lt
          obtain ⟨V, hV⟩ : ∃ V, V = ds[i]'(by rw [HDL.out]; exact hlt) := ⟨_, rfl⟩
          rw [← hV] at z1 z2
          clear hV
          go_wp2
          go_roundw
          case rel => exact ⟨i + 1, by omega, by go_num, HZ.out⟩
          case measure => simp [intOf]; omega
        · have hie : i = n := by omega
          have hltz : ¬ (i : Int) < n := by omega
          have AL := hidOf (alive_any _ (HT.out.kept HZ.out.1.kp))
          go_wp2_with fail
          refine AL.out.mono ?_
          rintro e WA ⟨rfl, KA⟩
          have DN := hidOf (hdone_any b2 t2 WA (HZ.out.2.2.2.1.kept KA (by simp)) (by have := HZ.out.2.2.2.2; omega))
          rw [show decide (t2.ph = 3) = true from decide_eq_true HZ.out.2.2.2.2] at DN
          have KF := hidOf (HZ.out.1.kp.trans KA)
          clear HZ KA AL
          go_wp2_with fail
          refine DN.out.mono ?_
          rintro e wB ⟨rfl, rfl⟩
          have en := HN2.out
          have t6 : T ≤ 6 := by have := HE.out.t1; have := (riB_true.1 HI.out.1).h1; omega
          go_wp2
          go_ret
          exact ⟨by simp, KF.out⟩
  · have HI := hidOf hW
    clear hW
    go_enter Tryd.func7, Tryd.ntmps7
    go_upto_region 1 with (fail)
    rw [← hq]
    refine gen_world (fun W => RW 23 W q #[.int .i64 c.t, .int .i64 c.s, .int .i64 c.c, .int .i64 c.h, .int .i64 c.k, .int .i64 c.e, .int .i64 c.l] ∧ Kept [] w W) BX.out ?_
    have hqw : w.heap.size ≤ q := by omega
    clear BX hq
    rintro W ⟨CB, K0⟩
    have HX := hidOf (And.intro CB K0)
    clear CB K0
    have OF := hidOf (kof_no c ao n cap W HI.out)
    go_wp2_with (first | ((with_reducible change wpList _ _ _ (Oper.mk _ (Op.load 23 (Operand.tmp 3)) _ _ _ _ :: _) _ _); refine wpList_load_rw 23 isT_cf rfl (.tmp 3) rfl q rfl #[.int .i64 c.t, .int .i64 c.s, .int .i64 c.c, .int .i64 c.h, .int .i64 c.k, .int .i64 c.e, .int .i64 c.l] rfl HX.out.1 ?_))
    refine OF.out.mono ?_
    rintro e w1 ⟨rfl, K1⟩
    have HX1 := hidOf (And.intro (HX.out.1.kept K1 (by simp)) (HX.out.2.trans K1))
    clear K1 OF HX
    go_upto_region 2 with (first | ((with_reducible change wpList _ _ _ (Oper.mk _ (Op.store 35 (Operand.tmp 8) _) _ _ _ _ :: _) _ _); refine wpList_store_rw 35 isT_rm rfl (.tmp 8) (.tmp 22) rfl w1.heap.size rmZ rfl rfl rfl rmZ_one rmZ (RW.new 35 w1 rmZ) rfl ?_))
    refine gen_world (fun V => RW 23 V q #[.int .i64 c.t, .int .i64 c.s, .int .i64 c.c, .int .i64 c.h, .int .i64 c.k, .int .i64 c.e, .int .i64 c.l] ∧ Kept [] w V) ?_ ?_
    · have KV : Kept [] w1 ((w1.alloc (.cells rmZ 35)).setRow w1.heap.size rmZ) := ((Kept.refl [] w1).alloc _).setRow (Or.inr (Nat.le_refl _)) _
      exact ⟨HX1.out.1.kept KV (by simp), HX1.out.2.trans KV⟩
    clear HX1
    rintro V ⟨CB, J⟩
    have HX := hidOf (And.intro CB J)
    clear CB J
    go_wp2_with fail
    refine (hnew_any h _).mono ?_
    rintro e wn0 ⟨bn0, rfl, -, -, KN0⟩
    have HY := hidOf (And.intro (HX.out.1.kept KN0 (by simp)) (HX.out.2.trans KN0))
    clear HX KN0
    have HX := HY
    clear HY
    go_wp2_with fail
    refine (hnew_any h _).mono ?_
    rintro e wn1 ⟨bn1, rfl, -, -, KN1⟩
    have HY := hidOf (And.intro (HX.out.1.kept KN1 (by simp)) (HX.out.2.trans KN1))
    clear HX KN1
    have HX := HY
    clear HY
    go_wp2_with fail
    go_quiet (fail)
    have AL := hidOf (fun (Y : World) (k : Kept [] w Y) => (alive_any Y (HT.out.kept k)).mono fun _ _ z => And.intro z.1 (k.trans z.2))
    go_wp2_with fail
    refine (AL.out _ (Kept.drewN HX.out.2 _)).mono ?_
    rintro e WA ⟨rfl, KA⟩
    have KF := hidOf KA
    clear KA
    go_wp2
    go_ret
    exact ⟨rfl, KF.out⟩

set_option maxRecDepth 100000 in
theorem helpAgain_lifted (os : Os) (started : os.Started) (H : Type) (enc : TypeId × Value → H) :
    ReturnsInHanded {} Tryd.checked os 7 .any (fun w args => (Rows.helpAgainSpec.pre enc Tryd.prog Tryd.f7 [] false w args ∧ laidMetH Tryd.prog laid1 w) ∧ sizedMet enc Tryd.prog Tryd.f7 (OpenSpec.ofChange Rows.helpAgainSpec) false w args)
      (Rows.helpAgainSpec.post enc Tryd.prog Tryd.f7 false true false false) := by
  refine returnsInHanded_of_change_and (C := Tryd.checked) (X := fun w _ => laidMetH Tryd.prog laid1 w) (fun _ _ _ hh h => h.of_heap hh) own started (by kernel_rfl) Tryd.func7
    (ChangeSpec.witness_shaped (enc := enc) (C := Tryd.checked) (os := os) (X := fun w _ => laidMetH Tryd.prog laid1 w) false (World.doorLaid Tryd.prog 400 os) #[.agg #[.int .i64 0, .int .i64 0, .int .i64 0, .int .i64 0, .int .i64 0, .int .i64 0, .int .i64 0], .slice none 0 0, .int .u64 0] 8 rfl (World.shaped_of_RefB (by kernel_rfl) (by kernel_rfl)) (by kernel_rfl) (by kernel_rfl) (by kernel_rfl) (door_met os _)) ?_
  intro W base args ds gs before hval0 hW _ _ hL _
  have hval : ∀ (j : Nat) t v, Tryd.f7.params[j]? = some t → args[j]? = some v → Value.okWide Tryd.prog W .any base t v := hval0
  have hW' := hW
  obtain ⟨p, q, hA0, hV, rfl, _, _⟩ := hW
  have hA : DataW.TrodAll enc Tryd.prog W 0 (fun _ => true) true Tryd.f7.params.toList args.toList ds p := hA0
  rw [Tryd.params7] at hA hval
  clear hA0 hval0
  obtain ⟨v0, vs0, d0, ds0, p0, q0, hargs, rfl, rfl, h0, r0⟩ := trodAll_cons hA
  obtain ⟨v1, vs1, d1, ds1, p1, q1, rfl, rfl, rfl, h1, r1⟩ := trodAll_cons r0
  obtain ⟨v2, vs2, d2, ds2, p2, q2, rfl, rfl, rfl, h2, r2⟩ := trodAll_cons r1
  obtain ⟨rfl, rfl, rfl⟩ := trodAll_nil r2
  obtain rfl : args = #[v0, v1, v2] := by cases args; simp_all
  obtain ⟨rfl, rfl⟩ := trodVars_none hV
  have k0 := h0
  have k1 := h1
  have k2 := h2
  simp only [List.append_nil] at hW'
  have hlt0 : ∀ x ∈ p0, x.block < W.heap.size := fun x hx => hW'.lt x (by simp [hx])
  have hlt1 : ∀ x ∈ p1, x.block < W.heap.size := fun x hx => hW'.lt x (by simp [hx])
  have hlt2 : ∀ x ∈ p2, x.block < W.heap.size := fun x hx => hW'.lt x (by simp [hx])
  obtain ⟨c0, rfl, g0⟩ := open_cfg (hval 0 23 v0 rfl rfl) h0
  obtain ⟨ao1, cap1, xs1, rfl, s1, g1, z1, n1⟩ := open_words (hval 1 24 v1 rfl rfl) h1
  obtain ⟨a2, rfl, rfl, rfl, w2⟩ := open_int Tryd.underlying25 (hval 2 25 v2 rfl rfl) h2
  refine (helpAgain_walk W c0 g0 ao1 xs1 cap1 s1 g1 n1 a2 w2 (tab_of_laid hL)).mono fun e W' ⟨he, hg⟩ => ?_
  subst he
  have hb := hg.below (by simp)
  exact ⟨_, rfl, _, _, _, [], _, [], hW', (trodAll_cons_mk (shut_bool Tryd.underlying4 _) trodAll_mk0), (trodAll_cons_mk (Below.trod laidOut (by kernel_rfl) (of_decide_eq_true (by kernel_rfl)) k0 hb hlt0) (trodAll_cons_mk (Below.trod laidOut (by kernel_rfl) (of_decide_eq_true (by kernel_rfl)) k1 hb hlt1) (trodAll_cons_mk (Below.trod laidOut (by kernel_rfl) (of_decide_eq_true (by kernel_rfl)) k2 hb hlt2) trodAll_mk0))), rfl, hb.frame _, fun h => by cases h⟩

theorem helpAgain_over : Rows.HelpAgainSaid :=
  OpenClaim.holds_of_wide 7 Tryd.f7 rfl rfl rfl rfl rfl rfl rfl ⟨rfl, rfl, rfl, rfl, rfl⟩ rfl rfl rfl rfl rfl (by kernel_rfl) Tryd.func7 (by kernel_rfl)
    (of_decide_eq_true (by kernel_rfl)) (by unfold Func.isWrapper; first | (rw [if_pos (by decide +kernel)]; kernel_rfl) | (rw [if_neg (by decide +kernel)]; exact ⟨rfl, rfl⟩))
    (fun os started H enc _ => helpAgain_lifted os started H enc)

theorem helpAgain_holds : Rows.HelpAgainCardSaid :=
  Claim7.holds_tied_plain_at .later [] [.data] true (true, "8da01a15b0ed21f15b06d493984036c42457dccc076fb2a2ce17b33141c9b120") false
    helpAgain_over (fun _ h => by cases h) (by kernel_rfl) (fun _ h => by cases h) helpAgain_row_tie rfl ⟨rfl, rfl⟩ (by kernel_rfl) rfl
    (fun f fn hf hfn => by
      obtain rfl : f = 7 := Option.some.inj ((show Tryd.prog.funcNamed "stepstone/stepstonelaw12.HelpAgain" = some 7 by kernel_rfl).symm.trans hf) |>.symm
      obtain rfl : fn = Tryd.f7 := (Option.some.inj (Tryd.func7.symm.trans hfn)).symm
      exact ⟨by kernel_rfl, fun j t ht => by
          rw [Tryd.params7] at ht
          rcases j with _ | j
          · have : t = 23 := by simpa using ht.symm
            subst this; exact (show Tryd.prog.wantsStandIn 23 = false by kernel_rfl)
          rcases j with _ | j
          · have : t = 24 := by simpa using ht.symm
            subst this; exact (show Tryd.prog.wantsStandIn 24 = false by kernel_rfl)
          rcases j with _ | j
          · have : t = 25 := by simpa using ht.symm
            subst this; exact (show Tryd.prog.wantsStandIn 25 = false by kernel_rfl)
          simp at ht⟩)
    (by kernel_rfl)
#print axioms helpAgain_holds
end Go.Proofs.YtjbdaejkofkcpaaDoor
