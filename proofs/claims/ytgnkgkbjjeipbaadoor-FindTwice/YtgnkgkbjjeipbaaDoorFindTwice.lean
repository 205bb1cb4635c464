/-
  Found again, alone, all is the same, and nothing is unlinked any more: the law FindTwice is true for every input.
  Conditions: the package variable of handle that the code reads starts as the program's text lays it (the card ties it to that text).
-/
import Derived.Test.YtgnkgkbjjeipbaaDoorFTwo
import Derived.Test.YtgnkgkbjjeipbaaDoorHLaid
import Derived.Test.YtgnkgkbjjeipbaaDoorPArgs
import Derived.Deep.CutRange
import Derived.ProofKit
import Derived.SizedLaws
import Derived.Carry
namespace Go.Proofs.YtgnkgkbjjeipbaaDoor
open Go.ChangeShapes Go.WideShapes Go.ChangeAt Go.RowKit
open Go.Deep
open Go.Proofs.YtgnkgkbjjeipbaaDoor.K
set_option maxRecDepth 100000

set_option maxRecDepth 100000 in
set_option maxHeartbeats 8000000 in
theorem findTwice_walk (w : World) (c : Cfg) (_hg : c.wf) (ao : Option Addr) (ns : List Nn) (cap : Nat) (hs : SlOf 5 nnL w ao ns) (hw : ∀ x ∈ ns, x.wf) (k : Int) (_hk : isWord k) (hT : Tab w) :
    Calls Tryd.prog 4 #[c.val, .slice ao ns.length cap, .int .u64 k] w fun e w' => e = .returned (.bool true) ∧ Kept [] w w' := by
  simp only [Cfg.val]
  obtain ⟨n, hn⟩ : ∃ n, n = ns.length := ⟨_, rfl⟩
  rw [← hn]
  have HNN := hidOf hn
  have HS := hidOf hs
  have HW := hidOf hw
  have HT := hidOf hT
  clear hn hs hw hT
  obtain ⟨q, hq⟩ : ∃ q, q = w.heap.size := ⟨_, rfl⟩
  have BX : Hid (RW 23 (w.alloc (.cells #[.int .i64 c.t, .int .i64 c.s, .int .i64 c.c, .int .i64 c.h, .int .i64 c.k, .int .i64 c.e, .int .i64 c.l] 23)) q #[.int .i64 c.t, .int .i64 c.s, .int .i64 c.c, .int .i64 c.h, .int .i64 c.k, .int .i64 c.e, .int .i64 c.l] ∧ Kept [] w (w.alloc (.cells #[.int .i64 c.t, .int .i64 c.s, .int .i64 c.c, .int .i64 c.h, .int .i64 c.k, .int .i64 c.e, .int .i64 c.l] 23))) := by rw [hq]; exact ⟨RW.new _ _ _, (Kept.refl [] w).alloc _⟩
  go_enter Tryd.func4, Tryd.ntmps4
  go_upto_region 1 with (fail)
  rw [← hq]
  refine gen_world (fun W => RW 23 W q #[.int .i64 c.t, .int .i64 c.s, .int .i64 c.c, .int .i64 c.h, .int .i64 c.k, .int .i64 c.e, .int .i64 c.l] ∧ Kept [] w W) BX.out ?_
  clear BX hq
  rintro W ⟨CB0, K0⟩
  have HX := hidOf (And.intro CB0 K0)
  clear CB0 K0
  go_wp2_with (first | ((with_reducible change wpList _ _ _ (Oper.mk _ (Op.load 23 (Operand.tmp 3)) _ _ _ _ :: _) _ _); refine wpList_load_rw 23 isT_cf rfl (.tmp 3) rfl q rfl #[.int .i64 c.t, .int .i64 c.s, .int .i64 c.c, .int .i64 c.h, .int .i64 c.k, .int .i64 c.e, .int .i64 c.l] rfl HX.out.1 ?_))
  refine (right11_any c ns ao n cap W (HS.out.new HX.out.2) HNN.out).mono ?_
  rintro e w1 ⟨B, rfl, hB, K1⟩
  have HX1 := hidOf (And.intro (HX.out.1.kept K1 (by simp)) (HX.out.2.trans K1))
  clear HX K1
  have HX := HX1
  clear HX1
  cases B with
  | false =>
    have AL := hidOf (alive_any w1 (HT.out.kept HX.out.2))
    go_wp2_with fail
    refine AL.out.mono ?_
    rintro e WA ⟨rfl, KA⟩
    go_wp2
    go_ret
    exact ⟨rfl, HX.out.2.trans KA⟩
  | true =>
    have HR := hidOf (hB.1 rfl)
    have RR := hidOf (riB_true.1 HR.out.r)
    clear hB
    go_wp2_with (first | ((with_reducible change wpList _ _ _ (Oper.mk _ (Op.load 23 (Operand.tmp 3)) _ _ _ _ :: _) _ _); refine wpList_load_rw 23 isT_cf rfl (.tmp 3) rfl q rfl #[.int .i64 c.t, .int .i64 c.s, .int .i64 c.c, .int .i64 c.h, .int .i64 c.k, .int .i64 c.e, .int .i64 c.l] rfl HX.out.1 ?_))
    refine (alone_any c ns ao n cap k w1 (HT.out.kept HX.out.2) HR.out HW.out (HS.out.new HX.out.2) HNN.out).mono ?_
    rintro e w2 ⟨m, fb, gb, p, r, g1, f1, cs1, cnt1, a1, N1, rp1, rs1, pp1, rfl, Z, hd⟩
    have HA := hidOf (And.intro Z hd)
    clear Z hd
    have BD := hidOf (bnd_bd RR.out)
    have HHN := hidOf (HN_eq RR.out)
    go_wp2_with fail
    refine HA.out.1.fw.bank.mono ?_
    rintro e w3 ⟨rfl, rfl⟩
    go_wp2_with fail
    refine (cells_any p r cs1 cnt1 a1 _ HA.out.1.fw.st.mm.bk).mono ?_
    rintro e w4 ⟨rfl, RW4, K4⟩
    have HRL := hidOf HA.out.1.fw.st.mm.bk.row.lt
    obtain ⟨qr, hqr⟩ : ∃ qr, qr = w3.heap.size := ⟨_, rfl⟩
    rw [← hqr] at RW4 ⊢
    have HQR := hidOf (show ¬ qr = r by have := HRL.out; omega)
    clear hqr HRL
    have HA4 := hidOf (HA.out.1.fw.new K4)
    have HRW := hidOf RW4
    clear RW4 K4
    obtain ⟨nw1, hnw1⟩ : ∃ z, z = cs1.length := ⟨_, rfl⟩
    rw [← hnw1]
    have HNW := hidOf hnw1
    clear hnw1
    go_wp2_with fail
    refine (fnew_any k _).mono ?_
    rintro e wf ⟨fb2, rfl, hfb, F7, K7⟩
    have HA7 := hidOf (And.intro (HA4.out.new K7) (And.intro (HRW.out.kept K7 (by simp)) (And.intro F7 (And.intro (show w1.heap.size ≤ fb2 by have := HA4.out.kp.size; omega) (show fb < fb2 ∧ gb < fb2 ∧ m < fb2 ∧ p < fb2 ∧ r < fb2 ∧ qr < fb2 by
      have s := HA4.out.st
      have h1 : fb < w4.heap.size := by
        rcases s.fs.2 with z | ⟨_, _, _, _, _, _, z⟩
        · exact lt_of_blk z.fb
        · exact lt_of_blk z.fb
      have h2 := lt_of_blk s.gd
      have h3 := lt_of_blk s.mm.st
      have h4 := lt_of_blk s.mm.bk.st
      have h5 := s.mm.bk.row.lt
      have h6 := HRW.out.lt
      omega)))))
    clear hfb F7 K7 HA4 HRW
    go_wp2_with fail
    refine (gnew_any 0 _).mono ?_
    rintro e w5 ⟨gb2, rfl, hgb, G9, K9⟩
    have HA9 := hidOf (And.intro (HA7.out.1.new K9) (And.intro (HA7.out.2.1.kept K9 (by simp)) (show fb < fb2 ∧ gb < fb2 ∧ m < fb2 ∧ p < fb2 ∧ r < fb2 ∧ qr < fb2 ∧ fb2 < gb2 from by have := HA7.out.2.2.2.2; have := lt_of_blk HA7.out.2.2.1; omega)))
    have FW0 : Fw w5.heap.size w1 w5 fb2 gb2 m p r c ⟨0, 0, 0⟩ (fmS k) cs1 cnt1 a1 := by
      have z := HA9.out.1
      exact Fw.start (t := 0) HR.out.r z.kp z.t0 z.op z.ow z.kp.size (Nat.le_refl _) z.st.mm (HA7.out.2.2.1.kept K9 (by simp)) G9 HA7.out.2.2.2.1 (by have := HA7.out.1.kp.size; omega) z.st.wd z.n0
    have h1 : ∀ t, t < HN c → Rs (ndOf c ns) k N1 (HN c - 1 - t) (stt rp1 t) (rp1 t) (rs1 t) := fun t ht => HA.out.1.iv.res t (by rw [HA.out.1.iv.done HA.out.2]; exact ht)
    have HH1 := hidOf h1
    have TW0 : TwS w5.heap.size w1 w5 fb2 gb2 m p r c (ndOf c ns) k N1 cs1 (bnd c) cnt1 ⟨0, 0, 0⟩ (fmS k) cs1 cnt1 a1 (fun _ => 0) (fun _ => 0) 0 :=
      ⟨FW0, (show Iv c (ndOf c ns) k cs1 ((⟨k, 0, 0, 0, 0, 0, 0, [], [], [], 0, false⟩ : Fm).anew 0) N1 (fun _ => 0) (fun _ => 0) 0 from Iv.of_anew (f := ⟨k, 0, 0, 0, 0, 0, 0, [], [], [], 0, false⟩) RR.out HR.out.ok HA.out.1.iv.rep HA.out.1.iv.sk rfl 0 _ _), HA.out.1.ln, Or.inr (by
        have z := mu_start (cs := cs1) RR.out HR.out.ok HA.out.1.iv.sk ⟨k, 0, 0, 0, 0, 0, 0, [], [], [], 0, false⟩ 0 0 (T := 0) (by omega)
        have y := full_bnd RR.out HR.out.ok
        have e : (fmS k) = (⟨k, 0, 0, 0, 0, 0, 0, [], [], [], 0, false⟩ : Fm).anew 0 := rfl
        rw [e]; omega), Int.le_refl _, Rsv.refl _ _⟩
    have HTW := hidOf TW0
    have HB5 := hidOf (HX.out.1.kept HA9.out.1.kp (by simp))
    -- what stays: the first find, its row of words
    have FAR := hidOf (show ∀ V, FK w5.heap.size [fb2, gb2, p, r] w5 V → Sf w1.heap.size V fb c f1 ∧ Row V qr cs1 from fun V K => by
      have z := HA9.out.2.2
      have s := HA9.out.1.st
      refine ⟨s.sf.far K (Nat.le_refl _) (by simp; have := fs_nm s.fs s.mm; omega) (fun g2 A hE => ?_), K.blk HA9.out.2.1 (by decide) ?_⟩
      · have n1 := blk_ne (T1 := 82) hE s.mm.bk.st (by decide)
        have n2 := blk_ne (T1 := 82) hE s.mm.bk.row (by decide)
        have n3 := blk_ne (T1 := 82) hE G9 (by decide)
        have n4 := blk_ne (T1 := 82) (T2 := 95) hE (HA7.out.2.2.1.kept K9 (by simp)) (by decide)
        simp; omega
      · have n1 := blk_ne (T1 := 25) HA9.out.2.1 s.mm.bk.st (by decide)
        have n2 : ¬ qr = r := HQR.out
        simp; omega)
    clear hgb G9 K9 FW0 TW0 HA7 h1
    go_wp2_with (first | ((with_reducible change wpList _ _ _ (Oper.mk _ (Op.load 23 (Operand.tmp 3)) _ _ _ _ :: _) _ _); refine wpList_load_rw 23 isT_cf rfl (.tmp 3) rfl q rfl #[.int .i64 c.t, .int .i64 c.s, .int .i64 c.c, .int .i64 c.h, .int .i64 c.k, .int .i64 c.e, .int .i64 c.l] rfl HB5.out ?_))
    refine (fbound_any c _ RR.out).mono ?_
    rintro e w6 ⟨rfl, K6⟩
    obtain ⟨B, hB⟩ : ∃ B : Nat, bnd c = B := ⟨(bnd c).toNat, by have := BD.out; omega⟩
    have HTW1 := hidOf (show TwS w5.heap.size w1 w6 fb2 gb2 m p r c (ndOf c ns) k N1 cs1 (bnd c) cnt1 ⟨0, 0, 0⟩ (fmS k) cs1 cnt1 a1 (fun _ => 0) (fun _ => 0) 0 from ⟨HTW.out.fw.new K6, HTW.out.iv, HTW.out.ln, HTW.out.mu, HTW.out.ct, HTW.out.rv⟩)
    have HFK := hidOf (show FK w5.heap.size [fb2, gb2, p, r] w5 w6 from FK.of (K6.weaken (by simp)))
    rw [hB] at HTW1 ⊢
    have HBB := hidOf hB
    have hB3 : B ≤ 3000 := by have := BD.out; omega
    have c10 : cnt1 ≤ 3000 := by have := HA.out.1.ct; have := BD.out; omega
    clear K6 HTW hB
    go_wp2
    go_loopw [39] (fun s wr => ∃ i : Nat, i ≤ B ∧ s = .int .i64 i ∧ FK w5.heap.size [fb2, gb2, p, r] w5 wr ∧ ∃ g f cs cnt a rp rs pp, TwS w5.heap.size w1 wr fb2 gb2 m p r c (ndOf c ns) k N1 cs1 ((B : Int) - i) (cnt1 + i) g f cs cnt a rp rs pp) (fun s _ => B - (intOf s).toNat)
    case atStart => exact ⟨0, by omega, by first | rfl | go_num, HFK.out, _, _, _, _, _, _, _, _, by have z := HTW1.out; simpa using z⟩
    case round =>
      clear HTW1 HFK
      obtain ⟨i, hi, rfl, KF, g, f, cs, cnt, a, rp, rs, pp, Z⟩ := hrel
      have HZ := hidOf Z
      have HFK := hidOf KF
      clear Z KF
      by_cases hlt : i < B
      · have hltz : (i : Int) < (B : Int) := by omega
        have DN := hidOf (HZ.out.fw.st.done)
        obtain ⟨D, hD⟩ : ∃ D, f.d = D := ⟨_, rfl⟩
        rw [hD] at DN
        have HD := hidOf hD
        clear hD
        go_wp2_with fail
        refine DN.out.mono ?_
        rintro e w7 ⟨rfl, rfl⟩
        clear DN
        cases D with
        | true =>
          go_wp2
          go_roundw
          case rel => exact ⟨i + 1, by omega, by go_num, HFK.out, g, f, cs, cnt, a, rp, rs, pp, HZ.out.stay HD.out (by omega)⟩
          case measure => simp [intOf]; omega
        | false =>
          have SP := hidOf (HZ.out.fw.step (by have := HZ.out.ct; omega))
          go_wp2_with fail
          refine SP.out.mono ?_
          rintro e w8 ⟨rfl, Z2, K2⟩
          obtain ⟨rp', rs', p', Q⟩ := HZ.out.next HR.out.ok HR.out.r HD.out HH1.out Z2
          have HQ := hidOf (And.intro Q (HFK.out.then K2))
          clear SP Z2 K2 Q
          go_wp2
          go_roundw
          case rel => exact ⟨i + 1, by omega, by go_num, HQ.out.2, _, _, _, _, _, rp', rs', p', by
            have z := HQ.out.1
            rw [show (B : Int) - i - 1 = (B : Int) - ((i + 1 : Nat) : Int) by omega, show cnt1 + (i : Int) + 1 = cnt1 + ((i + 1 : Nat) : Int) by omega] at z
            exact z⟩
          case measure => simp [intOf]; omega
      · have hie : i = B := by omega
        have hltz : ¬ (i : Int) < (B : Int) := by omega
        have hd := HZ.out.done HR.out.ok (by omega)
        have HD := hidOf hd
        have F1 := hidOf (FAR.out wr HFK.out)
        have SA := hidOf (fun (Y : World) (kk : Kept [] wr Y) => HZ.out.fw.st.sf.new kk)
        have SB := hidOf (fun (Y : World) (kk : Kept [] wr Y) => F1.out.1.new kk)
        have RB := hidOf (fun (Y : World) (kk : Kept [] wr Y) => F1.out.2.kept kk (by simp))
        have CB := hidOf (fun (Y : World) (kk : Kept [] wr Y) => (HX.out.1.kept HZ.out.fw.kp (by simp)).kept kk (by simp))
        have HKZ := hidOf (show ∀ Y, Kept [] wr Y → Kept [] w Y ∧ Tab Y from fun Y kk => ⟨HX.out.2.trans (HZ.out.fw.kp.trans kk), (HZ.out.fw.new kk).st.tb⟩)
        have FZ := hidOf (fun (Y : World) (kk : Kept [] wr Y) => HZ.out.fw.new kk)
        have y3 := cell_of_blk (CB.out wr (Kept.refl _ _)) (i := 3) (v := .int .i64 c.h) rfl
        clear hd
        go_wp2
        clear y3
        go_loopw [51, 13] (fun s51 s13 wr2 => ∃ L : Nat, L ≤ HN c ∧ s51 = .int .i64 L ∧ Kept [] wr wr2) (fun s51 _ _ => HN c - (intOf s51).toNat)
        case atStart => exact ⟨0, by omega, by first | rfl | go_num, Kept.refl _ _⟩
        case round =>
          obtain ⟨L, hL, rfl, KL⟩ := hrel
          have HKL := hidOf KL
          clear KL
          by_cases hltL : L < HN c
          · have hLz : (L : Int) < c.h := by have := HHN.out; omega
            have hL6 : (L : Int) ≤ 6 := by have := RR.out.h1; have := HHN.out; omega
            obtain ⟨e1, e2, e3⟩ := Iv.same HR.out.ok HZ.out.iv HA.out.1.iv HD.out HA.out.2 hltL
            have HE := hidOf (And.intro e1 (And.intro e2 e3))
            clear e1 e2 e3
            have CA := hidOf (tpred_any (SA.out _ HKL.out) (L : Int))
            rw [HD.out, HE.out.1] at CA
            go_wp2_with fail
            refine CA.out.mono ?_
            rintro e w11 ⟨rfl, K11⟩
            have HKL1 := hidOf (HKL.out.trans K11)
            clear CA K11 HKL
            have HKL := HKL1
            clear HKL1
            have CA := hidOf (tpred_any (SB.out _ HKL.out) (L : Int))
            rw [HA.out.2] at CA
            go_wp2_with fail
            refine CA.out.mono ?_
            rintro e w12 ⟨rfl, K11⟩
            have HKL1 := hidOf (HKL.out.trans K11)
            clear CA K11 HKL
            have HKL := HKL1
            clear HKL1
            have CA := hidOf (tsucc_any (SA.out _ HKL.out) (L : Int))
            rw [HD.out, HE.out.2.1] at CA
            go_wp2_with fail
            refine CA.out.mono ?_
            rintro e w11 ⟨rfl, K11⟩
            have HKL1 := hidOf (HKL.out.trans K11)
            clear CA K11 HKL
            have HKL := HKL1
            clear HKL1
            have CA := hidOf (tsucc_any (SB.out _ HKL.out) (L : Int))
            rw [HA.out.2] at CA
            go_wp2_with fail
            refine CA.out.mono ?_
            rintro e w12 ⟨rfl, K11⟩
            have HKL1 := hidOf (HKL.out.trans K11)
            clear CA K11 HKL
            have HKL := HKL1
            clear HKL1
            have CA := hidOf (tkey_any (SA.out _ HKL.out) (L : Int))
            rw [HD.out, HE.out.2.2] at CA
            go_wp2_with fail
            refine CA.out.mono ?_
            rintro e w11 ⟨rfl, K11⟩
            have HKL1 := hidOf (HKL.out.trans K11)
            clear CA K11 HKL
            have HKL := HKL1
            clear HKL1
            have CA := hidOf (tkey_any (SB.out _ HKL.out) (L : Int))
            rw [HA.out.2] at CA
            go_wp2_with fail
            refine CA.out.mono ?_
            rintro e w12 ⟨rfl, K11⟩
            have HKL1 := hidOf (HKL.out.trans K11)
            clear CA K11 HKL
            have HKL := HKL1
            clear HKL1
            go_wp2
            go_roundw
            case rel => exact ⟨L + 1, by omega, by go_num, HKL.out⟩
            case measure => simp [intOf]; omega
          · have hLz : ¬ (L : Int) < c.h := by have := HHN.out; omega
            go_wp2_with fail
            refine (FZ.out _ HKL.out).bank.mono ?_
            rintro e w13 ⟨rfl, rfl⟩
            go_wp2_with fail
            refine (cells_any p r cs cnt a _ (FZ.out _ HKL.out).st.mm.bk).mono ?_
            rintro e w14 ⟨rfl, R14, K14⟩
            obtain ⟨qc, hqc⟩ : ∃ qc, qc = w13.heap.size := ⟨_, rfl⟩
            rw [← hqc] at R14 ⊢
            have HKW := hidOf (HKL.out.trans K14)
            have HRC := hidOf R14
            have eln : cs.length = nw1 := by have := HZ.out.rv.1; have := HNW.out; omega
            rw [eln]
            have HEL := hidOf eln
            have nl : (nw1 : Int) ≤ 900 := by have := HA.out.1.ln; have := ln_bd c; have := HNW.out; omega
            clear hqc R14 K14 HKL eln
            go_wp2
            go_loopw [84, 14, 15] (fun s84 s14 s15 wr2 => ∃ x : Nat, x ≤ nw1 ∧ s84 = .int .i64 x ∧ Kept [] w14 wr2) (fun s84 _ _ _ => nw1 - (intOf s84).toNat)
            case atStart => exact ⟨0, by omega, by first | rfl | go_num, Kept.refl _ _⟩
            case round =>
              obtain ⟨x, hx, rfl, KX⟩ := hrel
              have HKX := hidOf KX
              clear KX
              by_cases hltx : x < nw1
              · have hxz : (x : Int) < (nw1 : Int) := by omega
                have ra := row_getD (HRC.out.kept HKX.out (by simp)) (i := x) (by rw [HEL.out]; exact hltx)
                have rb := row_getD (RB.out _ (HKW.out.trans HKX.out)) (i := x) (by rw [← HNW.out]; exact hltx)
                have RVX := hidOf (HZ.out.rv.2 x (by rw [← HNW.out]; exact hltx))
                generalize cs.getD x 0 = va at ra RVX
                generalize cs1.getD x 0 = vb at rb RVX
                by_cases hv : va = vb
                · have hvb : (va != vb) = false := by simp [hv]
                  have HV := hidOf hv
                  clear hv
                  go_wp2
                  go_roundw
                  case rel => exact ⟨x + 1, by omega, by go_num, HKX.out⟩
                  case measure => simp [intOf]; omega
                · have hvb : (va != vb) = true := by simp [hv]
                  have HKD := hidOf (show (whV c x).k = 2 from RVX.out.resolve_left hv)
                  obtain ⟨⟨pk, pa, pb⟩, hpl⟩ : ∃ q, whV c x = q := ⟨_, rfl⟩
                  have epk : pk = 2 := by have z := HKD.out; rw [hpl] at z; exact z
                  subst epk
                  have WH := hidOf (fun (Y : World) => where_is hpl Y)
                  have FP := plc_field
                  have CB2 := CB.out _ (HKW.out.trans HKX.out)
                  have y0 := cell_of_blk CB2 (i := 0) (v := .int .i64 c.t) rfl
                  have y1 := cell_of_blk CB2 (i := 1) (v := .int .i64 c.s) rfl
                  have y2 := cell_of_blk CB2 (i := 2) (v := .int .i64 c.c) rfl
                  have y3 := cell_of_blk CB2 (i := 3) (v := .int .i64 c.h) rfl
                  have y4 := cell_of_blk CB2 (i := 4) (v := .int .i64 c.k) rfl
                  have y5 := cell_of_blk CB2 (i := 5) (v := .int .i64 c.e) rfl
                  have y6 := cell_of_blk CB2 (i := 6) (v := .int .i64 c.l) rfl
                  clear hpl CB2 hv RVX
                  go_wp2_with fail
                  refine (WH.out _).mono ?_
                  rintro e w15 ⟨rfl, K15⟩
                  have HKX1 := hidOf (HKX.out.trans K15)
                  clear WH K15 HKX y0 y1 y2 y3 y4 y5 y6
                  go_wp2
                  go_roundw
                  case rel => exact ⟨x + 1, by omega, by go_num, HKX1.out⟩
                  case measure => simp [intOf]; omega
              · have hxz : ¬ (x : Int) < (nw1 : Int) := by omega
                have AL := hidOf (alive_any _ (HKZ.out _ (HKW.out.trans HKX.out)).2)
                go_wp2_with fail
                refine AL.out.mono ?_
                rintro e WA ⟨rfl, KA⟩
                have HK1 := hidOf ((HKW.out.trans HKX.out).trans KA)
                have DN := hidOf ((SA.out _ HK1.out).done)
                rw [HD.out] at DN
                clear AL KA
                go_wp2_with fail
                refine DN.out.mono ?_
                rintro e w16 ⟨rfl, rfl⟩
                go_wp2
                go_ret
                exact ⟨rfl, (HKZ.out _ HK1.out).1⟩

set_option maxRecDepth 100000 in
theorem findTwice_lifted (os : Os) (started : os.Started) (H : Type) (enc : TypeId × Value → H) :
    ReturnsInHanded {} Tryd.checked os 4 .any (fun w args => (Rows.findTwiceSpec.pre enc Tryd.prog Tryd.f4 [] false w args ∧ laidMetH Tryd.prog laid1 w) ∧ sizedMet enc Tryd.prog Tryd.f4 (OpenSpec.ofChange Rows.findTwiceSpec) false w args)
      (Rows.findTwiceSpec.post enc Tryd.prog Tryd.f4 false true false false) := by
  refine returnsInHanded_of_change_and (C := Tryd.checked) (X := fun w _ => laidMetH Tryd.prog laid1 w) (fun _ _ _ hh h => h.of_heap hh) own started (by kernel_rfl) Tryd.func4
    (ChangeSpec.witness_shaped (enc := enc) (C := Tryd.checked) (os := os) (X := fun w _ => laidMetH Tryd.prog laid1 w) false (World.doorLaid Tryd.prog 400 os) #[.agg #[.int .i64 0, .int .i64 0, .int .i64 0, .int .i64 0, .int .i64 0, .int .i64 0, .int .i64 0], .slice none 0 0, .int .u64 0] 8 rfl (World.shaped_of_RefB (by kernel_rfl) (by kernel_rfl)) (by kernel_rfl) (by kernel_rfl) (by kernel_rfl) (door_met os _)) ?_
  intro W base args ds gs before hval0 hW _ _ hL _
  have hval : ∀ (j : Nat) t v, Tryd.f4.params[j]? = some t → args[j]? = some v → Value.okWide Tryd.prog W .any base t v := hval0
  have hW' := hW
  obtain ⟨p, q, hA0, hV, rfl, _, _⟩ := hW
  have hA : DataW.TrodAll enc Tryd.prog W 0 (fun _ => true) true Tryd.f4.params.toList args.toList ds p := hA0
  rw [Tryd.params4] at hA hval
  clear hA0 hval0
  obtain ⟨v0, vs0, d0, ds0, p0, q0, hargs, rfl, rfl, h0, r0⟩ := trodAll_cons hA
  obtain ⟨v1, vs1, d1, ds1, p1, q1, rfl, rfl, rfl, h1, r1⟩ := trodAll_cons r0
  obtain ⟨v2, vs2, d2, ds2, p2, q2, rfl, rfl, rfl, h2, r2⟩ := trodAll_cons r1
  obtain ⟨rfl, rfl, rfl⟩ := trodAll_nil r2
  obtain rfl : args = #[v0, v1, v2] := by cases args; simp_all
  obtain ⟨rfl, rfl⟩ := trodVars_none hV
  have k0 := h0
  have k1 := h1
  have k2 := h2
  simp only [List.append_nil] at hW'
  have hlt0 : ∀ x ∈ p0, x.block < W.heap.size := fun x hx => hW'.lt x (by simp [hx])
  have hlt1 : ∀ x ∈ p1, x.block < W.heap.size := fun x hx => hW'.lt x (by simp [hx])
  have hlt2 : ∀ x ∈ p2, x.block < W.heap.size := fun x hx => hW'.lt x (by simp [hx])
  obtain ⟨c0, rfl, g0⟩ := open_cfg (hval 0 23 v0 rfl rfl) h0
  obtain ⟨ao1, cap1, ns1, rfl, s1, g1⟩ := open_nodes (hval 1 24 v1 rfl rfl) h1
  obtain ⟨a2, rfl, rfl, rfl, w2⟩ := open_int Tryd.underlying25 (hval 2 25 v2 rfl rfl) h2
  refine (findTwice_walk W c0 g0 ao1 ns1 cap1 s1 g1 a2 w2 (tab_of_laid hL)).mono fun e W' ⟨he, hg⟩ => ?_
  subst he
  have hb := hg.below (by simp)
  exact ⟨_, rfl, _, _, _, [], _, [], hW', (trodAll_cons_mk (shut_bool Tryd.underlying4 _) trodAll_mk0), (trodAll_cons_mk (Below.trod laidOut (by kernel_rfl) (of_decide_eq_true (by kernel_rfl)) k0 hb hlt0) (trodAll_cons_mk (Below.trod laidOut (by kernel_rfl) (of_decide_eq_true (by kernel_rfl)) k1 hb hlt1) (trodAll_cons_mk (Below.trod laidOut (by kernel_rfl) (of_decide_eq_true (by kernel_rfl)) k2 hb hlt2) trodAll_mk0))), rfl, hb.frame _, fun h => by cases h⟩

theorem findTwice_over : Rows.FindTwiceSaid :=
  OpenClaim.holds_of_wide 4 Tryd.f4 rfl rfl rfl rfl rfl rfl rfl ⟨rfl, rfl, rfl, rfl, rfl⟩ rfl rfl rfl rfl rfl (by kernel_rfl) Tryd.func4 (by kernel_rfl)
    (of_decide_eq_true (by kernel_rfl)) (by unfold Func.isWrapper; first | (rw [if_pos (by decide +kernel)]; kernel_rfl) | (rw [if_neg (by decide +kernel)]; exact ⟨rfl, rfl⟩))
    (fun os started H enc _ => findTwice_lifted os started H enc)

theorem findTwice_holds : Rows.FindTwiceCardSaid :=
  Claim7.holds_tied_plain_at .later [] [.data] true (true, "7f80696f4898032b1e9ebe7e0048ae521e445675cf0580a22aeeebebced35714") false
    findTwice_over (fun _ h => by cases h) (by kernel_rfl) (fun _ h => by cases h) findTwice_row_tie rfl ⟨rfl, rfl⟩ (by kernel_rfl) rfl
    (fun f fn hf hfn => by
      obtain rfl : f = 4 := Option.some.inj ((show Tryd.prog.funcNamed "stepstone/stepstonelaw11.FindTwice" = some 4 by kernel_rfl).symm.trans hf) |>.symm
      obtain rfl : fn = Tryd.f4 := (Option.some.inj (Tryd.func4.symm.trans hfn)).symm
      exact ⟨by kernel_rfl, fun j t ht => by
          rw [Tryd.params4] at ht
          rcases j with _ | j
          · have : t = 23 := by simpa using ht.symm
            subst this; exact (show Tryd.prog.wantsStandIn 23 = false by kernel_rfl)
          rcases j with _ | j
          · have : t = 24 := by simpa using ht.symm
            subst this; exact (show Tryd.prog.wantsStandIn 24 = false by kernel_rfl)
          rcases j with _ | j
          · have : t = 25 := by simpa using ht.symm
            subst this; exact (show Tryd.prog.wantsStandIn 25 = false by kernel_rfl)
          simp at ht⟩)
    (by kernel_rfl)
#print axioms findTwice_holds
end Go.Proofs.YtgnkgkbjjeipbaaDoor
