/-
  Behind a find that ended alone no node of its key that is deleted is linked on any level on which it is deleted: the law FindUnlinks is true for every input.
  Conditions: the package variable of handle that the code reads starts as the program's text lays it (the card ties it to that text).
-/
import Derived.Test.YtgnkgkbjjeipbaaDoorFOver
import Derived.Test.YtgnkgkbjjeipbaaDoorHLaid
import Derived.Test.YtgnkgkbjjeipbaaDoorPArgs
import Derived.Deep.CutRange
import Derived.ProofKit
import Derived.SizedLaws
import Derived.Carry
namespace Go.Proofs.YtgnkgkbjjeipbaaDoor
open Go.ChangeShapes Go.WideShapes Go.ChangeAt Go.RowKit
open Go.Deep
open Go.Proofs.YtgnkgkbjjeipbaaDoor.K
set_option maxRecDepth 100000

set_option maxRecDepth 100000 in
set_option maxHeartbeats 8000000 in
theorem findUnlinks_walk (w : World) (c : Cfg) (_hg : c.wf) (ao : Option Addr) (ns : List Nn) (cap : Nat) (hs : SlOf 5 nnL w ao ns) (hw : ∀ x ∈ ns, x.wf) (k : Int) (_hk : isWord k) (hT : Tab w) :
    Calls Tryd.prog 6 #[c.val, .slice ao ns.length cap, .int .u64 k] w fun e w' => e = .returned (.bool true) ∧ Kept [] w w' := by
  simp only [Cfg.val]
  obtain ⟨n, hn⟩ : ∃ n, n = ns.length := ⟨_, rfl⟩
  rw [← hn]
  have HNN := hidOf hn
  have HS := hidOf hs
  have HW := hidOf hw
  have HT := hidOf hT
  clear hn hs hw hT
  obtain ⟨q, hq⟩ : ∃ q, q = w.heap.size := ⟨_, rfl⟩
  have BX : Hid (RW 23 (w.alloc (.cells #[.int .i64 c.t, .int .i64 c.s, .int .i64 c.c, .int .i64 c.h, .int .i64 c.k, .int .i64 c.e, .int .i64 c.l] 23)) q #[.int .i64 c.t, .int .i64 c.s, .int .i64 c.c, .int .i64 c.h, .int .i64 c.k, .int .i64 c.e, .int .i64 c.l] ∧ Kept [] w (w.alloc (.cells #[.int .i64 c.t, .int .i64 c.s, .int .i64 c.c, .int .i64 c.h, .int .i64 c.k, .int .i64 c.e, .int .i64 c.l] 23))) := by rw [hq]; exact ⟨RW.new _ _ _, (Kept.refl [] w).alloc _⟩
  go_enter Tryd.func6, Tryd.ntmps6
  go_upto_region 1 with (fail)
  rw [← hq]
  refine gen_world (fun W => RW 23 W q #[.int .i64 c.t, .int .i64 c.s, .int .i64 c.c, .int .i64 c.h, .int .i64 c.k, .int .i64 c.e, .int .i64 c.l] ∧ Kept [] w W) BX.out ?_
  clear BX hq
  rintro W ⟨CB0, K0⟩
  have HX := hidOf (And.intro CB0 K0)
  clear CB0 K0
  go_wp2_with (first | ((with_reducible change wpList _ _ _ (Oper.mk _ (Op.load 23 (Operand.tmp 3)) _ _ _ _ :: _) _ _); refine wpList_load_rw 23 isT_cf rfl (.tmp 3) rfl q rfl #[.int .i64 c.t, .int .i64 c.s, .int .i64 c.c, .int .i64 c.h, .int .i64 c.k, .int .i64 c.e, .int .i64 c.l] rfl HX.out.1 ?_))
  refine (right11_any c ns ao n cap W (HS.out.new HX.out.2) HNN.out).mono ?_
  rintro e w1 ⟨B, rfl, hB, K1⟩
  have HX1 := hidOf (And.intro (HX.out.1.kept K1 (by simp)) (HX.out.2.trans K1))
  clear HX K1
  have HX := HX1
  clear HX1
  cases B with
  | false =>
    have AL := hidOf (alive_any w1 (HT.out.kept HX.out.2))
    go_wp2_with fail
    refine AL.out.mono ?_
    rintro e WA ⟨rfl, KA⟩
    go_wp2
    go_ret
    exact ⟨rfl, HX.out.2.trans KA⟩
  | true =>
    have HR := hidOf (hB.1 rfl)
    have RR := hidOf (riB_true.1 HR.out.r)
    clear hB
    go_wp2_with (first | ((with_reducible change wpList _ _ _ (Oper.mk _ (Op.load 23 (Operand.tmp 3)) _ _ _ _ :: _) _ _); refine wpList_load_rw 23 isT_cf rfl (.tmp 3) rfl q rfl #[.int .i64 c.t, .int .i64 c.s, .int .i64 c.c, .int .i64 c.h, .int .i64 c.k, .int .i64 c.e, .int .i64 c.l] rfl HX.out.1 ?_))
    refine (alone_any c ns ao n cap k w1 (HT.out.kept HX.out.2) HR.out HW.out (HS.out.new HX.out.2) HNN.out).mono ?_
    rintro e w2 ⟨m, fb, gb, p, r, g, f, cs, cnt, a, N, rp, rs, pp, rfl, Z, hd⟩
    have HA := hidOf (And.intro Z hd)
    clear Z hd
    have BD := hidOf (bnd_bd RR.out)
    have n64 : (n : Int) ≤ 64 := by have := HR.out.n; have := HNN.out; have := RR.out.c1; omega
    have NL := hidOf (n_lt RR.out HR.out.ok)
    have HH := hidOf (And.intro (HN_eq RR.out) (And.intro RR.out.h0 RR.out.h1))
    go_wp2
    go_loopw [31] (fun s wr => ∃ i : Nat, i ≤ n ∧ s = .int .i64 i ∧ ∃ cnt a, Fw w1.heap.size w1 wr fb gb m p r c g f cs cnt a ∧ cnt ≤ 3000 + 500 * i) (fun s _ => n - (intOf s).toNat)
    case atStart => exact ⟨0, by omega, by first | rfl | go_num, cnt, a, HA.out.1.fw, by have := HA.out.1.ct; have := BD.out; omega⟩
    case round =>
      obtain ⟨i, hi, rfl, cnt, a, Z, hc⟩ := hrel
      have HZ := hidOf (And.intro Z hc)
      clear Z hc
      by_cases hlt : i < n
      · have hltz : (i : Int) < (n : Int) := by omega
        obtain ⟨b1, o1, e1, l1, s0, s1, s2, s3, s4⟩ := nn_row (HS.out.new (HX.out.2.trans HZ.out.1.kp)) (k := i) (by rw [← HNN.out]; exact hlt)
        obtain ⟨x, hx⟩ : ∃ x, x = ns.getD i nn0 := ⟨_, rfl⟩
        rw [← hx] at s0 s1 s2 s3 s4
        have HXE := hidOf hx
        have nb1 := HR.out.b i (by rw [← HNN.out]; exact hlt)
        rw [← hx] at nb1
        have HNB := hidOf nb1
        have t0 : 0 ≤ x.t := by have := nb1.1; omega
        have t1 : x.t ≤ 6 := by have := nb1.2.1; have := HH.out; omega
        have m0 : 0 ≤ x.m := nb1.2.2.1
        have m1 : x.m ≤ x.t := nb1.2.2.2.1
        clear hx nb1
        rw [e1]
        obtain ⟨nb, hnb⟩ : ∃ nb, nb = wr.heap.size := ⟨_, rfl⟩
        go_upto_region 9 with (fail)
        rw [← hnb]
        refine gen_world (fun U => Fw w1.heap.size w1 U fb gb m p r c g f cs cnt a ∧ RW 34 U nb (nnA x)) ?_ ?_
        · rw [hnb]; exact ⟨HZ.out.1.new ((Kept.refl [] wr).alloc _), RW.new 34 wr (nnA x)⟩
        have HC := hidOf HZ.out.2
        clear hnb s0 s1 s2 s3 s4 l1 HZ
        rintro U ⟨UL, UB⟩
        have HU := hidOf (And.intro UL UB)
        have z0 := cell_of_blk UB (i := 0) (v := .int .u64 x.k) rfl
        clear UL UB
        by_cases hk : x.k = k
        · have hkb : (x.k != k) = false := by simp [hk]
          have z2 := cell_of_blk HU.out.2 (i := 2) (v := .int .i64 x.t) rfl
          have z3 := cell_of_blk HU.out.2 (i := 3) (v := .int .i64 x.m) rfl
          have HK := hidOf hk
          clear hk
          go_upto_region 11 with (fail)
          clear z0 z2 z3
          have TU := hidOf (show (((ndOf c ns).tl (i + 1) : Nat) : Int) = x.t ∧ (((ndOf c ns).um (i + 1) : Nat) : Int) = x.t - x.m ∧ (ndOf c ns).K (i + 1) = k from by
            have e := HXE.out
            have e1 : (ndOf c ns).tl (i + 1) = x.t.toNat := by rw [e]; rfl
            have e2 : (ndOf c ns).um (i + 1) = (x.t - x.m).toNat := by rw [e]; rfl
            refine ⟨by omega, by omega, ?_⟩
            rw [← HK.out, e]; rfl)
          go_loopw [12, 13] (fun s12 s13 wr2 => ∃ L : Nat, (ndOf c ns).um (i + 1) ≤ L ∧ L ≤ (ndOf c ns).tl (i + 1) ∧ s12 = .int .i64 L ∧ ∃ cnt a, Fw w1.heap.size w1 wr2 fb gb m p r c g f cs cnt a ∧ RW 34 wr2 nb (nnA x) ∧ cnt ≤ 3000 + 500 * i + 80 * ((L : Int) - (ndOf c ns).um (i + 1))) (fun s12 _ _ => (ndOf c ns).tl (i + 1) - (intOf s12).toNat)
          case atStart => exact ⟨(ndOf c ns).um (i + 1), by omega, by have := TU.out; omega, by have := TU.out.2.1; first | (rw [this]; done) | (congr 1; omega) | go_num, cnt, a, HU.out.1, HU.out.2, by have := HC.out; omega⟩
          case round =>
            obtain ⟨L, hL0, hL1, rfl, cnt, a, Z, UB, hc⟩ := hrel
            have HZ := hidOf (And.intro Z hc)
            have z2 := cell_of_blk UB (i := 2) (v := .int .i64 x.t) rfl
            have HB := hidOf UB
            clear Z hc UB
            by_cases hltL : L < (ndOf c ns).tl (i + 1)
            · have hzL : (L : Int) < x.t := by have := TU.out; omega
              have hLH : L < HN c := Nat.lt_of_lt_of_le hltL (HR.out.ok.tl (i + 1) (by show i + 1 ≤ ns.length; have := HNN.out; omega))
              obtain ⟨P, S, v1, v2, v3, v4⟩ := HA.out.1.iv.level HR.out.ok HA.out.2 hLH
              have nP := v4 (i + 1) (by omega) (by show i + 1 ≤ ns.length; have := HNN.out; omega) TU.out.2.2 (fun h => by have := h.2; omega)
              have HV := hidOf (And.intro v1 (And.intro v2 (And.intro v3 nP)))
              clear v1 v2 v3 v4 nP
              have HDA := hidOf (head_any wr HZ.out.1.st.tb)
              have o0 : fd c cs 0 (6 + L : Nat) = nw (ndOf c ns).n (N L 0) (decide ((ndOf c ns).um 0 ≤ L)) := HA.out.1.iv.rep.nx L 0 ⟨Nat.zero_le _, by rw [HR.out.ok.h0.1]; exact hLH⟩
              have e6 : ((6 + L : Nat) : Int) = 6 + (L : Int) := by omega
              rw [e6] at o0
              have HO := hidOf o0
              clear o0
              have HCC := hidOf (show cnt ≤ 3000 + 500 * i + 80 * ((L : Int) - (ndOf c ns).um (i + 1)) ∧ (L : Int) - (ndOf c ns).um (i + 1) ≤ 5 ∧ (L : Int) ≤ 5 ∧ (i : Int) ≤ 63 from ⟨HZ.out.2, by have := HR.out.ok.tl (i + 1) (by show i + 1 ≤ ns.length; have := HNN.out; omega); have := HH.out; omega, by have := HH.out; omega, by omega⟩)
              have hL5 : (L : Int) ≤ 5 := HCC.out.2.2.1
              go_wp2_with fail
              refine HDA.out.mono ?_
              rintro e w3 ⟨rfl, K3⟩
              have HZ3 := hidOf (HZ.out.1.new K3)
              have HB3 := hidOf (HB.out.kept K3 (by simp))
              clear K3 HDA HZ HB z2
              have LD := hidOf (HZ3.out.load 9223372036854775808 (6 + (L : Int)) (by unfold isW; omega) (by have := HCC.out; omega))
              rw [show ixV 9223372036854775808 = 0 by decide, HO.out] at LD
              obtain ⟨V, hV⟩ : ∃ V, V = nw (ndOf c ns).n (N L 0) (decide ((ndOf c ns).um 0 ≤ L)) := ⟨_, rfl⟩
              rw [← hV] at LD
              have HVV := hidOf hV
              clear hV
              go_wp2_with fail
              refine LD.out.mono ?_
              rintro e w4 ⟨a4, rfl, Z4, K4⟩
              have HZ4 := hidOf Z4
              have HB4 := hidOf (HB3.out.kept K4 (nin2 (fun e => blk_ne HB3.out HZ3.out.st.mm.bk.st (by decide) e) (fun e => blk_ne HB3.out HZ3.out.st.mm.bk.row (by decide) e)))
              clear LD Z4 K4 HZ3 HB3
              go_wp2
              go_loopw [59, 13] (fun s59 s13 wr3 => ∃ j : Nat, j ≤ n + 1 ∧ s59 = .int .i64 j ∧ ∃ V jj bm, s13 = .int .u64 V ∧ Hid (V = nw (ndOf c ns).n jj bm) ∧ Hid (Pst P S jj) ∧ Hid (jj ≤ (ndOf c ns).n → On (ndOf c ns) L jj) ∧ ∃ cnt2 a, Fw w1.heap.size w1 wr3 fb gb m p r c g f cs cnt2 a ∧ RW 34 wr3 nb (nnA x) ∧ cnt2 ≤ cnt + 1 + j) (fun s59 _ _ => n + 1 - (intOf s59).toNat)
              case atStart => exact ⟨0, by omega, by first | rfl | go_num, V, _, _, rfl, HVV.out, HV.out.1, HV.out.2.1, cnt + 1, a4, HZ4.out, HB4.out, by omega⟩
              case round =>
                clear HZ4 HB4 HVV
                obtain ⟨j, hj, rfl, V, jj, bm, rfl, HVV, HP, HON, cnt2, a, Z, UB, hc⟩ := hrel
                have HZ := hidOf (And.intro Z hc)
                have HB := hidOf UB
                clear Z hc UB
                by_cases hltj : j < n + 1
                · have hzj : (j : Int) < (n : Int) + 1 := by omega
                  have wV := nw_word (n := (ndOf c ns).n) (j := jj) NL.out bm
                  rw [← HVV.out] at wV
                  have VL := hidOf (fun (Y : World) (T : Tab Y) => valid_any V Y T wV.1 wV.2)
                  have evl : vlB V = decide (jj ≤ (ndOf c ns).n) := by rw [HVV.out]; exact nw_vl2 NL.out bm
                  by_cases hv : jj ≤ (ndOf c ns).n
                  · rw [evl, decide_eq_true hv] at VL
                    have eix : ixV V = jj := by rw [HVV.out]; exact nw_ix NL.out hv bm
                    have IX := hidOf (fun (Y : World) (T : Tab Y) => index_is eix Y T wV.1 wV.2)
                    have on1 := HON.out hv
                    have hne : (((jj : Nat) : Int) == (i : Int) + 1) = false := by
                      have : ¬ jj = i + 1 := fun e => HV.out.2.2.2 (by rw [← e]; exact HP.out)
                      simp; omega
                    have hne2 : ¬ ((jj : Nat) : Int) = (i : Int) + 1 := by simpa using hne
                    have enx : fd c cs jj (6 + L : Nat) = nw (ndOf c ns).n (N L jj) (decide ((ndOf c ns).um jj ≤ L)) := HA.out.1.iv.rep.nx L jj on1
                    rw [show ((6 + L : Nat) : Int) = 6 + (L : Int) by omega] at enx
                    have nx := HV.out.2.2.1 jj on1 HP.out
                    have HNX := hidOf nx
                    have HWV := hidOf wV
                    have HEN := hidOf (And.intro eix enx)
                    clear nx on1 enx eix evl hv wV
                    go_wp2_with fail
                    refine (VL.out _ HZ.out.1.st.tb).mono ?_
                    rintro e w5 ⟨rfl, K5⟩
                    have HZ5 := hidOf (HZ.out.1.new K5)
                    have HB5 := hidOf (HB.out.kept K5 (by simp))
                    have HC5 := hidOf HZ.out.2
                    clear K5 HZ HB
                    go_wp2_with fail
                    refine (IX.out _ HZ5.out.st.tb).mono ?_
                    rintro e w6 ⟨rfl, K6⟩
                    have HZ6 := hidOf (HZ5.out.new K6)
                    have HB6 := hidOf (HB5.out.kept K6 (by simp))
                    clear K6 HZ5 HB5 IX
                    go_wp2_with fail
                    refine (VL.out _ HZ6.out.st.tb).mono ?_
                    rintro e w7 ⟨rfl, K7⟩
                    have HZ7 := hidOf (HZ6.out.new K7)
                    have HB7 := hidOf (HB6.out.kept K7 (by simp))
                    clear K7 HZ6 HB6 VL
                    have LD := hidOf (HZ7.out.load V (6 + (L : Int)) HWV.out (by have := HC5.out; have := HCC.out; omega))
                    rw [HEN.out.1, HEN.out.2] at LD
                    obtain ⟨V2, hV2⟩ : ∃ V2, V2 = nw (ndOf c ns).n (N L jj) (decide ((ndOf c ns).um jj ≤ L)) := ⟨_, rfl⟩
                    rw [← hV2] at LD
                    have HV2 := hidOf hV2
                    clear hV2
                    go_wp2_with fail
                    refine LD.out.mono ?_
                    rintro e w8 ⟨a8, rfl, Z8, K8⟩
                    have HZ8 := hidOf Z8
                    have HB8 := hidOf (HB7.out.kept K8 (nin2 (fun e => blk_ne HB7.out HZ7.out.st.mm.bk.st (by decide) e) (fun e => blk_ne HB7.out HZ7.out.st.mm.bk.row (by decide) e)))
                    clear LD Z8 K8 HZ7 HB7
                    go_wp2
                    go_roundw
                    case rel => exact ⟨j + 1, by omega, by go_num, V2, N L jj, _, rfl, HV2.out, HNX.out.1, HNX.out.2, cnt2 + 1, a8, HZ8.out, HB8.out, by have := HC5.out; omega⟩
                    case measure => simp [intOf]; omega
                  · rw [evl, decide_eq_false hv] at VL
                    clear evl hv wV
                    go_wp2_with fail
                    refine (VL.out _ HZ.out.1.st.tb).mono ?_
                    rintro e w5 ⟨rfl, K5⟩
                    have HZ5 := hidOf (HZ.out.1.new K5)
                    have HB5 := hidOf (HB.out.kept K5 (by simp))
                    have HC5 := hidOf HZ.out.2
                    clear K5 HZ HB
                    go_wp2_with fail
                    refine (VL.out _ HZ5.out.st.tb).mono ?_
                    rintro e w7 ⟨rfl, K7⟩
                    have HZ7 := hidOf (HZ5.out.new K7)
                    have HB7 := hidOf (HB5.out.kept K7 (by simp))
                    clear K7 HZ5 HB5 VL
                    go_wp2
                    go_roundw
                    case rel => exact ⟨j + 1, by omega, by go_num, V, jj, bm, rfl, HVV, HP, HON, cnt2, a, HZ7.out, HB7.out, by have := HC5.out; omega⟩
                    case measure => simp [intOf]; omega
                · have hzj : ¬ (j : Int) < (n : Int) + 1 := by omega
                  have hje : j = n + 1 := by omega
                  have HC9 := hidOf (show cnt2 ≤ 3000 + 500 * i + 80 * (((L + 1 : Nat) : Int) - (ndOf c ns).um (i + 1)) by have := HZ.out.2; have := HCC.out; omega)
                  go_wp2
                  go_roundw
                  case rel => exact ⟨L + 1, by omega, by omega, by go_num, cnt2, a, HZ.out.1, HB.out, HC9.out⟩
                  case measure => simp [intOf]; omega
            · have hzL : ¬ (L : Int) < x.t := by have := TU.out; omega
              have HC9 := hidOf (show cnt ≤ 3000 + 500 * (((i + 1 : Nat) : Int)) by
                have := HZ.out.2; have := HR.out.ok.tl (i + 1) (by show i + 1 ≤ ns.length; have := HNN.out; omega); have := HH.out; omega)
              go_wp2
              go_roundw
              case rel => exact ⟨i + 1, by omega, by go_num, cnt, a, HZ.out.1, HC9.out⟩
              case measure => simp [intOf]; omega
        · have hkb : (x.k != k) = true := by simp [hk]
          clear hk
          go_wp2
          go_roundw
          case rel => exact ⟨i + 1, by omega, by go_num, cnt, a, HU.out.1, by have := HC.out; omega⟩
          case measure => simp [intOf]; omega
      · have hie : i = n := by omega
        have hltz : ¬ (i : Int) < (n : Int) := by omega
        have AL := hidOf (alive_any wr (HZ.out.1.st.tb))
        go_wp2_with fail
        refine AL.out.mono ?_
        rintro e WA ⟨rfl, KA⟩
        go_wp2
        go_ret
        exact ⟨rfl, (HX.out.2.trans HZ.out.1.kp).trans KA⟩

set_option maxRecDepth 100000 in
theorem findUnlinks_lifted (os : Os) (started : os.Started) (H : Type) (enc : TypeId × Value → H) :
    ReturnsInHanded {} Tryd.checked os 6 .any (fun w args => (Rows.findUnlinksSpec.pre enc Tryd.prog Tryd.f6 [] false w args ∧ laidMetH Tryd.prog laid1 w) ∧ sizedMet enc Tryd.prog Tryd.f6 (OpenSpec.ofChange Rows.findUnlinksSpec) false w args)
      (Rows.findUnlinksSpec.post enc Tryd.prog Tryd.f6 false true false false) := by
  refine returnsInHanded_of_change_and (C := Tryd.checked) (X := fun w _ => laidMetH Tryd.prog laid1 w) (fun _ _ _ hh h => h.of_heap hh) own started (by kernel_rfl) Tryd.func6
    (ChangeSpec.witness_shaped (enc := enc) (C := Tryd.checked) (os := os) (X := fun w _ => laidMetH Tryd.prog laid1 w) false (World.doorLaid Tryd.prog 400 os) #[.agg #[.int .i64 0, .int .i64 0, .int .i64 0, .int .i64 0, .int .i64 0, .int .i64 0, .int .i64 0], .slice none 0 0, .int .u64 0] 8 rfl (World.shaped_of_RefB (by kernel_rfl) (by kernel_rfl)) (by kernel_rfl) (by kernel_rfl) (by kernel_rfl) (door_met os _)) ?_
  intro W base args ds gs before hval0 hW _ _ hL _
  have hval : ∀ (j : Nat) t v, Tryd.f6.params[j]? = some t → args[j]? = some v → Value.okWide Tryd.prog W .any base t v := hval0
  have hW' := hW
  obtain ⟨p, q, hA0, hV, rfl, _, _⟩ := hW
  have hA : DataW.TrodAll enc Tryd.prog W 0 (fun _ => true) true Tryd.f6.params.toList args.toList ds p := hA0
  rw [Tryd.params6] at hA hval
  clear hA0 hval0
  obtain ⟨v0, vs0, d0, ds0, p0, q0, hargs, rfl, rfl, h0, r0⟩ := trodAll_cons hA
  obtain ⟨v1, vs1, d1, ds1, p1, q1, rfl, rfl, rfl, h1, r1⟩ := trodAll_cons r0
  obtain ⟨v2, vs2, d2, ds2, p2, q2, rfl, rfl, rfl, h2, r2⟩ := trodAll_cons r1
  obtain ⟨rfl, rfl, rfl⟩ := trodAll_nil r2
  obtain rfl : args = #[v0, v1, v2] := by cases args; simp_all
  obtain ⟨rfl, rfl⟩ := trodVars_none hV
  have k0 := h0
  have k1 := h1
  have k2 := h2
  simp only [List.append_nil] at hW'
  have hlt0 : ∀ x ∈ p0, x.block < W.heap.size := fun x hx => hW'.lt x (by simp [hx])
  have hlt1 : ∀ x ∈ p1, x.block < W.heap.size := fun x hx => hW'.lt x (by simp [hx])
  have hlt2 : ∀ x ∈ p2, x.block < W.heap.size := fun x hx => hW'.lt x (by simp [hx])
  obtain ⟨c0, rfl, g0⟩ := open_cfg (hval 0 23 v0 rfl rfl) h0
  obtain ⟨ao1, cap1, ns1, rfl, s1, g1⟩ := open_nodes (hval 1 24 v1 rfl rfl) h1
  obtain ⟨a2, rfl, rfl, rfl, w2⟩ := open_int Tryd.underlying25 (hval 2 25 v2 rfl rfl) h2
  refine (findUnlinks_walk W c0 g0 ao1 ns1 cap1 s1 g1 a2 w2 (tab_of_laid hL)).mono fun e W' ⟨he, hg⟩ => ?_
  subst he
  have hb := hg.below (by simp)
  exact ⟨_, rfl, _, _, _, [], _, [], hW', (trodAll_cons_mk (shut_bool Tryd.underlying4 _) trodAll_mk0), (trodAll_cons_mk (Below.trod laidOut (by kernel_rfl) (of_decide_eq_true (by kernel_rfl)) k0 hb hlt0) (trodAll_cons_mk (Below.trod laidOut (by kernel_rfl) (of_decide_eq_true (by kernel_rfl)) k1 hb hlt1) (trodAll_cons_mk (Below.trod laidOut (by kernel_rfl) (of_decide_eq_true (by kernel_rfl)) k2 hb hlt2) trodAll_mk0))), rfl, hb.frame _, fun h => by cases h⟩

theorem findUnlinks_over : Rows.FindUnlinksSaid :=
  OpenClaim.holds_of_wide 6 Tryd.f6 rfl rfl rfl rfl rfl rfl rfl ⟨rfl, rfl, rfl, rfl, rfl⟩ rfl rfl rfl rfl rfl (by kernel_rfl) Tryd.func6 (by kernel_rfl)
    (of_decide_eq_true (by kernel_rfl)) (by unfold Func.isWrapper; first | (rw [if_pos (by decide +kernel)]; kernel_rfl) | (rw [if_neg (by decide +kernel)]; exact ⟨rfl, rfl⟩))
    (fun os started H enc _ => findUnlinks_lifted os started H enc)

theorem findUnlinks_holds : Rows.FindUnlinksCardSaid :=
  Claim7.holds_tied_plain_at .later [] [.data] true (true, "7f80696f4898032b1e9ebe7e0048ae521e445675cf0580a22aeeebebced35714") false
    findUnlinks_over (fun _ h => by cases h) (by kernel_rfl) (fun _ h => by cases h) findUnlinks_row_tie rfl ⟨rfl, rfl⟩ (by kernel_rfl) rfl
    (fun f fn hf hfn => by
      obtain rfl : f = 6 := Option.some.inj ((show Tryd.prog.funcNamed "stepstone/stepstonelaw11.FindUnlinks" = some 6 by kernel_rfl).symm.trans hf) |>.symm
      obtain rfl : fn = Tryd.f6 := (Option.some.inj (Tryd.func6.symm.trans hfn)).symm
      exact ⟨by kernel_rfl, fun j t ht => by
          rw [Tryd.params6] at ht
          rcases j with _ | j
          · have : t = 23 := by simpa using ht.symm
            subst this; exact (show Tryd.prog.wantsStandIn 23 = false by kernel_rfl)
          rcases j with _ | j
          · have : t = 24 := by simpa using ht.symm
            subst this; exact (show Tryd.prog.wantsStandIn 24 = false by kernel_rfl)
          rcases j with _ | j
          · have : t = 25 := by simpa using ht.symm
            subst this; exact (show Tryd.prog.wantsStandIn 25 = false by kernel_rfl)
          simp at ht⟩)
    (by kernel_rfl)
#print axioms findUnlinks_holds
end Go.Proofs.YtgnkgkbjjeipbaaDoor
