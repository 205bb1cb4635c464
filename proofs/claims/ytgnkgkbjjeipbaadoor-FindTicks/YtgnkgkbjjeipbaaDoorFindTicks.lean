/-
  A find ends, and tells the same, however often the clock goes on ahead of its steps: the law FindTicks is true for every input.
  Conditions: the package variable of handle that the code reads starts as the program's text lays it (the card ties it to that text).
-/
import Derived.Test.YtgnkgkbjjeipbaaDoorFSame
import Derived.Test.YtgnkgkbjjeipbaaDoorHLaid
import Derived.Test.YtgnkgkbjjeipbaaDoorPArgs
import Derived.Deep.CutRange
import Derived.ProofKit
import Derived.SizedLaws
import Derived.Carry
namespace Go.Proofs.YtgnkgkbjjeipbaaDoor
open Go.ChangeShapes Go.WideShapes Go.ChangeAt Go.RowKit
open Go.Deep
open Go.Proofs.YtgnkgkbjjeipbaaDoor.K
set_option maxRecDepth 100000

set_option maxRecDepth 100000 in
set_option maxHeartbeats 8000000 in
theorem findTicks_walk (w : World) (c : Cfg) (_hg : c.wf) (ao : Option Addr) (ns : List Nn) (cap : Nat) (hs : SlOf 5 nnL w ao ns) (hw : ∀ x ∈ ns, x.wf) (k : Int) (ta : Option Addr) (tcap : Nat) (ts : List Int) (hu : SlOf 1 iwC w ta ts) (hT : Tab w) :
    Calls Tryd.prog 7 #[c.val, .slice ao ns.length cap, .agg (tkA k ta ts.length tcap)] w fun e w' => e = .returned (.bool true) ∧ Kept [] w w' := by
  simp only [Cfg.val]
  obtain ⟨n, hn⟩ : ∃ n, n = ns.length := ⟨_, rfl⟩
  rw [← hn]
  have HNN := hidOf hn
  obtain ⟨l, hl⟩ : ∃ l, l = ts.length := ⟨_, rfl⟩
  rw [← hl]
  have HLL := hidOf hl
  have HS := hidOf hs
  have HW := hidOf hw
  have HT := hidOf hT
  have HU := hidOf hu
  clear hn hl hs hw hT hu
  obtain ⟨q, hq⟩ : ∃ q, q = w.heap.size := ⟨_, rfl⟩
  have BX := hidOf (two_new 23 75 w #[.int .i64 c.t, .int .i64 c.s, .int .i64 c.c, .int .i64 c.h, .int .i64 c.k, .int .i64 c.e, .int .i64 c.l] (tkA k ta l tcap) hq)
  go_enter Tryd.func7, Tryd.ntmps7
  go_upto_region 1 with (fail)
  rw [← hq]
  refine gen_world (fun W => RW 23 W q #[.int .i64 c.t, .int .i64 c.s, .int .i64 c.c, .int .i64 c.h, .int .i64 c.k, .int .i64 c.e, .int .i64 c.l] ∧ RW 75 W (q + 1) (tkA k ta l tcap) ∧ Kept [] w W) BX.out ?_
  clear BX hq
  rintro W ⟨CB0, PB0, K0⟩
  have HX := hidOf (And.intro CB0 (And.intro PB0 K0))
  clear CB0 PB0 K0
  have y0 := cell_of_blk HX.out.1 (i := 0) (v := .int .i64 c.t) rfl
  have y1 := cell_of_blk HX.out.1 (i := 1) (v := .int .i64 c.s) rfl
  have y2 := cell_of_blk HX.out.1 (i := 2) (v := .int .i64 c.c) rfl
  have y3 := cell_of_blk HX.out.1 (i := 3) (v := .int .i64 c.h) rfl
  have y4 := cell_of_blk HX.out.1 (i := 4) (v := .int .i64 c.k) rfl
  have y5 := cell_of_blk HX.out.1 (i := 5) (v := .int .i64 c.e) rfl
  have y6 := cell_of_blk HX.out.1 (i := 6) (v := .int .i64 c.l) rfl
  have y7 := cell_of_blk HX.out.2.1 (i := 1) (v := .slice ta l tcap) rfl
  go_wp2_with fail
  refine (right11_any c ns ao n cap W (HS.out.new HX.out.2.2) HNN.out).mono ?_
  rintro e w1 ⟨B, rfl, hB, K1⟩
  have HX1 := hidOf (And.intro (HX.out.1.kept K1 (by simp)) (And.intro (HX.out.2.1.kept K1 (by simp)) (HX.out.2.2.trans K1)))
  clear HX K1 y0 y1 y2 y3 y4 y5 y6 y7
  have HX := HX1
  clear HX1
  have AL := hidOf (alive_any w1 (HT.out.kept HX.out.2.2))
  cases B with
  | false =>
    clear hB
    go_wp2_with fail
    refine AL.out.mono ?_
    rintro e WA ⟨rfl, KA⟩
    go_wp2
    go_ret
    exact ⟨rfl, HX.out.2.2.trans KA⟩
  | true =>
    have HR := hidOf (hB.1 rfl)
    have RR := hidOf (riB_true.1 HR.out.r)
    clear hB
    have y7 := cell_of_blk HX.out.2.1 (i := 1) (v := .slice ta l tcap) rfl
    by_cases hl20 : 20 < (l : Int)
    · go_wp2_with fail
      refine AL.out.mono ?_
      rintro e WA ⟨rfl, KA⟩
      go_wp2
      go_ret
      exact ⟨rfl, HX.out.2.2.trans KA⟩
    clear AL
    have hl20z : (l : Int) ≤ 20 := by omega
    have z0 := cell_of_blk HX.out.2.1 (i := 0) (v := .int .u64 k) rfl
    clear hl20
    go_wp2_with (first | ((with_reducible change wpList _ _ _ (Oper.mk _ (Op.load 23 (Operand.tmp 3)) _ _ _ _ :: _) _ _); refine wpList_load_rw 23 isT_cf rfl (.tmp 3) rfl q rfl #[.int .i64 c.t, .int .i64 c.s, .int .i64 c.c, .int .i64 c.h, .int .i64 c.k, .int .i64 c.e, .int .i64 c.l] rfl HX.out.1 ?_))
    refine (alone_any c ns ao n cap k w1 (HT.out.kept HX.out.2.2) HR.out HW.out (HS.out.new HX.out.2.2) HNN.out).mono ?_
    rintro e w2 ⟨m, fb, gb, p, r, g1, f1, cs1, cnt1, a1, N1, rp1, rs1, pp1, rfl, Z, hd⟩
    have HA := hidOf (And.intro Z hd)
    have BD := hidOf (bnd_bd RR.out)
    clear Z hd z0 y7
    have HX2 := hidOf (And.intro (HX.out.1.kept HA.out.1.fw.kp (by simp)) (And.intro (HX.out.2.1.kept HA.out.1.fw.kp (by simp)) (HX.out.2.2.trans HA.out.1.fw.kp)))
    go_upto_region 4 with (fail)
    have SX : Hid (∀ W' : World, Kept [] w2 W' → W'.cell? ⟨q, 0, none⟩ = some (.int .i64 c.t) ∧ W'.cell? ⟨q, 1, none⟩ = some (.int .i64 c.s) ∧ W'.cell? ⟨q, 2, none⟩ = some (.int .i64 c.c) ∧ W'.cell? ⟨q, 3, none⟩ = some (.int .i64 c.h) ∧ W'.cell? ⟨q, 4, none⟩ = some (.int .i64 c.k) ∧ W'.cell? ⟨q, 5, none⟩ = some (.int .i64 c.e) ∧ W'.cell? ⟨q, 6, none⟩ = some (.int .i64 c.l)) := hidOf (by
      intro W' kk
      have y := HX2.out.1.kept kk (by simp)
      exact ⟨cell_of_blk y (i := 0) rfl, cell_of_blk y (i := 1) rfl, cell_of_blk y (i := 2) rfl, cell_of_blk y (i := 3) rfl, cell_of_blk y (i := 4) rfl, cell_of_blk y (i := 5) rfl, cell_of_blk y (i := 6) rfl⟩)
    have LY : Hid (∀ (W' : World), Kept [] w2 W' → Calls Tryd.prog 33 #[.agg #[.int .i64 c.t, .int .i64 c.s, .int .i64 c.c, .int .i64 c.h, .int .i64 c.k, .int .i64 c.e, .int .i64 c.l], .slice ao n cap] W' fun e w' => ∃ g c', e = .returned (.slice (some ⟨g, 0, none⟩) (lnN c) c') ∧ RowR w' g (layV c ns) c' ∧ Kept [] w2 w') := hidOf (fun W' kk => (lay_any c ns ao n cap W' HR.out HW.out (HS.out.new (HX2.out.2.2.trans kk)) HNN.out).mono fun _ _ hh => by obtain ⟨g, c', e, _, R, K⟩ := hh; exact ⟨g, c', e, R, kk.trans K⟩)
    have OF : Hid (∀ (W' : World) (g c' : Nat), Kept [] w2 W' → RowR W' g (layV c ns) c' → Calls Tryd.prog 28 #[.agg #[.int .i64 c.t, .int .i64 c.s, .int .i64 c.c, .int .i64 c.h, .int .i64 c.k, .int .i64 c.e, .int .i64 c.l], .slice (some ⟨g, 0, none⟩) (lnN c) c'] W' fun e w' => ∃ m p r, e = .returned (.tuple #[.pointer (some ⟨m, 0, none⟩), .int .i64 0]) ∧ (w2.heap.size ≤ p ∧ w2.heap.size ≤ r) ∧ Mm w' m p r c (layV c ns) 0 Acc.zero ∧ Kept [] w2 w') := hidOf (fun W' g c' kk R => (mof_yes c (some ⟨g, 0, none⟩) (layV c ns) (lnN c) c' W' HR.out.r (by rw [lnN_eq]) (by unfold layV; rw [lyAll_len]) R.sl).mono fun _ _ hh => by obtain ⟨m, p, r, e, ⟨_, h2, h3⟩, M, K⟩ := hh; have := kk.size; exact ⟨m, p, r, e, ⟨by omega, by omega⟩, M, kk.trans K⟩)
    obtain ⟨LN, hLN⟩ : ∃ LN, LN = lnN c := ⟨_, rfl⟩
    rw [← hLN] at LY OF
    obtain ⟨LV, hLV⟩ : ∃ LV, LV = layV c ns := ⟨_, rfl⟩
    rw [← hLV] at LY OF
    have HLV := hidOf hLV
    clear hLN hLV
    go_region_held3 (fun W' => W'.cell? ⟨q, 0, none⟩ = some (.int .i64 c.t) ∧ W'.cell? ⟨q, 1, none⟩ = some (.int .i64 c.s) ∧ W'.cell? ⟨q, 2, none⟩ = some (.int .i64 c.c) ∧ W'.cell? ⟨q, 3, none⟩ = some (.int .i64 c.h) ∧ W'.cell? ⟨q, 4, none⟩ = some (.int .i64 c.k) ∧ W'.cell? ⟨q, 5, none⟩ = some (.int .i64 c.e) ∧ W'.cell? ⟨q, 6, none⟩ = some (.int .i64 c.l))
      (exact SX.out _ (by first | assumption | exact (Kept.refl _ _).drew | exact Kept.refl _ _))
      (first
        | (go_at_call 33; with_reducible refine (LY.out _ (Kept.refl _ _).drew).mono ?_; rintro e w5 ⟨g, c', rfl, R5, K5⟩)
        | (go_at_call 28; with_reducible refine (OF.out _ _ _ (by assumption) (by assumption)).mono ?_; rintro e w6 ⟨m2, p2, r2, rfl, hpr, M6, K6⟩))
    have HY := hidOf (And.intro hpr (And.intro M6 K6))
    have z0 := cell_of_blk (HX2.out.2.1.kept K6 (by simp)) (i := 0) (v := .int .u64 k) rfl
    clear R5 K5 hpr M6 K6 SX LY OF
    go_wp2_with fail
    refine (fnew_any k _).mono ?_
    rintro e w7 ⟨fb2, rfl, hfb, F7, K7⟩
    have HY7 := hidOf (And.intro HY.out.1 (And.intro (HY.out.2.1.new K7) (And.intro (HY.out.2.2.trans K7) (And.intro F7 (show w2.heap.size ≤ fb2 by have := HY.out.2.2.size; omega)))))
    clear hfb F7 K7 HY z0
    go_wp2_with fail
    refine (gnew_any 0 _).mono ?_
    rintro e w9 ⟨gb2, rfl, hgb, G9, K9⟩
    have TW2 := hidOf (HT.out.kept HX2.out.2.2)
    have FW0 : Fw w2.heap.size w2 w9 fb2 gb2 m2 p2 r2 c ⟨0, 0, 0⟩ (fmS k) (layV c ns) 0 Acc.zero := by
      obtain ⟨⟨h1, h2⟩, M, K, F, h3⟩ := HY7.out
      have hs := (K.trans K9).size
      have z := Fw.start (t := 0) HR.out.r (K.trans K9) TW2.out h1 h2 (Nat.le_refl _) hs (M.new K9) (F.kept K9 (by simp)) G9 h3 (by have := K.size; omega) (by rw [HLV.out]; exact wds_all HR.out HW.out ns.length (Nat.le_refl _)) (by omega)
      rw [HLV.out] at z
      exact z
    have ok := HR.out.ok
    have LL := Ld.laid HR.out
    have AL0 : AlS w2 w9 fb2 gb2 m2 p2 r2 c (ndOf c ns) k l (((l : Int) + 1) * bnd c) 0 ⟨0, 0, 0⟩ (fmS k) (layV c ns) 0 Acc.zero (N0 (ndOf c ns)) (fun _ => 0) (fun _ => 0) 0 :=
      ⟨FW0, (show Iv c (ndOf c ns) k (layV c ns) ((⟨k, 0, 0, 0, 0, 0, 0, [], [], [], 0, false⟩ : Fm).anew 0) (N0 (ndOf c ns)) (fun _ => 0) (fun _ => 0) 0 from Iv.of_anew (f := ⟨k, 0, 0, 0, 0, 0, 0, [], [], [], 0, false⟩) RR.out ok (LL.rep ok) (Sk.laid ok) rfl 0 _ _), LL.len, Or.inr (by
        have z := mu_start (cs := layV c ns) RR.out ok (Sk.laid ok) ⟨k, 0, 0, 0, 0, 0, 0, [], [], [], 0, false⟩ 0 0 (T := (l : Int)) (by omega)
        have y := full_bnd RR.out ok
        have e : (fmS k) = (⟨k, 0, 0, 0, 0, 0, 0, [], [], [], 0, false⟩ : Fm).anew 0 := rfl
        have mm := Int.mul_le_mul_of_nonneg_left y (show 0 ≤ (l : Int) + 1 by omega)
        rw [e]; omega), by omega⟩
    have HAL := hidOf AL0
    have KW := hidOf (HY7.out.2.2.1.trans K9)
    clear hgb G9 K9 FW0 AL0 ok LL HY7
    have BX9 := hidOf (And.intro (HX2.out.1.kept KW.out (by simp)) (HX2.out.2.1.kept KW.out (by simp)))
    go_upto_region 8 with (fail)
    have SX9 : Hid (∀ W' : World, Kept [] w9 W' → W'.cell? ⟨q, 0, none⟩ = some (.int .i64 c.t) ∧ W'.cell? ⟨q, 1, none⟩ = some (.int .i64 c.s) ∧ W'.cell? ⟨q, 2, none⟩ = some (.int .i64 c.c) ∧ W'.cell? ⟨q, 3, none⟩ = some (.int .i64 c.h) ∧ W'.cell? ⟨q, 4, none⟩ = some (.int .i64 c.k) ∧ W'.cell? ⟨q, 5, none⟩ = some (.int .i64 c.e) ∧ W'.cell? ⟨q, 6, none⟩ = some (.int .i64 c.l) ∧ W'.cell? ⟨q + 1, 1, none⟩ = some (.slice ta l tcap)) := hidOf (by
      intro W' kk
      have y := BX9.out.1.kept kk (by simp)
      exact ⟨cell_of_blk y (i := 0) rfl, cell_of_blk y (i := 1) rfl, cell_of_blk y (i := 2) rfl, cell_of_blk y (i := 3) rfl, cell_of_blk y (i := 4) rfl, cell_of_blk y (i := 5) rfl, cell_of_blk y (i := 6) rfl, cell_of_blk (BX9.out.2.kept kk (by simp)) (i := 1) rfl⟩)
    have FB9 := hidOf (fun (W' : World) (kk : Kept [] w9 W') => (fbound_any c W' RR.out).mono fun _ _ hh => And.intro hh.1 (kk.trans hh.2))
    go_region_held3 (fun W' => W'.cell? ⟨q, 0, none⟩ = some (.int .i64 c.t) ∧ W'.cell? ⟨q, 1, none⟩ = some (.int .i64 c.s) ∧ W'.cell? ⟨q, 2, none⟩ = some (.int .i64 c.c) ∧ W'.cell? ⟨q, 3, none⟩ = some (.int .i64 c.h) ∧ W'.cell? ⟨q, 4, none⟩ = some (.int .i64 c.k) ∧ W'.cell? ⟨q, 5, none⟩ = some (.int .i64 c.e) ∧ W'.cell? ⟨q, 6, none⟩ = some (.int .i64 c.l) ∧ W'.cell? ⟨q + 1, 1, none⟩ = some (.slice ta l tcap))
      (exact SX9.out _ (by first | assumption | exact (Kept.refl _ _).drew | exact Kept.refl _ _))
      (first
        | (go_at_call 21; with_reducible refine (FB9.out _ (by first | assumption | exact (Kept.refl _ _).drew)).mono ?_; rintro e w10 ⟨rfl, K10⟩))
    have n0b := BD.out
    obtain ⟨R, hR⟩ : ∃ R : Nat, ((l : Int) + 1) * bnd c = R := ⟨(((l : Int) + 1) * bnd c).toNat, by have := Int.mul_nonneg (show 0 ≤ (l : Int) + 1 by omega) BD.out.1; omega⟩
    have hR3 : (R : Int) ≤ 63000 := by
      have := Int.mul_le_mul (show (l : Int) + 1 ≤ 21 by omega) BD.out.2 BD.out.1 (by omega); omega
    have ew : IntKind.i64.wrap (IntKind.i64.wrap ((l : Int) + 1) * bnd c) = (R : Int) := by
      rw [show IntKind.i64.wrap ((l : Int) + 1) = (l : Int) + 1 by rw [IntKind.wrap_i64]; omega, hR, IntKind.wrap_i64]; omega
    have ew2 : IntKind.i64.wrap (((l : Int) + 1) * bnd c) = (R : Int) := by rw [hR, IntKind.wrap_i64]; omega
    have HAL1 := hidOf (show AlS w2 w10 fb2 gb2 m2 p2 r2 c (ndOf c ns) k l R 0 ⟨0, 0, 0⟩ (fmS k) (layV c ns) 0 Acc.zero (N0 (ndOf c ns)) (fun _ => 0) (fun _ => 0) 0 from ⟨HAL.out.fw.new K10, HAL.out.iv, HAL.out.ln, by rw [← hR]; exact HAL.out.mu, HAL.out.ct⟩)
    have HTB := hidOf (BX9.out.2.kept K10 (by simp))
    have HCB := hidOf (BX9.out.1.kept K10 (by simp))
    have HEW := hidOf (And.intro ew ew2)
    clear HAL K10 SX9 FB9 BX9 ew ew2 n0b hR
    go_upto_region 9 with (fail)
    try rw [HEW.out.1]
    try rw [HEW.out.2]
    go_loopw [67] (fun s wr => ∃ i : Nat, i ≤ R ∧ s = .int .i64 i ∧ ∃ g f cs cnt a N rp rs pp, AlS w2 wr fb2 gb2 m2 p2 r2 c (ndOf c ns) k ((l : Int) - (tkN ts i : Nat)) ((R : Int) - i) ((i : Int) + (tkN ts i : Nat)) g f cs cnt a N rp rs pp) (fun s _ => R - (intOf s).toNat)
    case atStart => exact ⟨0, by omega, by first | rfl | go_num, _, _, _, _, _, _, _, _, _, by
      have z := HAL1.out
      have e : tkN ts 0 = 0 := by unfold tkN; rw [List.countP_eq_zero]; intro x _; simp
      rw [e]; simpa using z⟩
    case round =>
      clear HAL1
      obtain ⟨i, hi, rfl, g, f, cs, cnt, a, N, rp, rs, pp, Z⟩ := hrel
      have HZ := hidOf Z
      clear Z
      by_cases hlt : i < R
      · have hltz : (i : Int) < (R : Int) := by omega
        have y7 := cell_of_blk (HX2.out.2.1.kept HZ.out.fw.kp (by simp)) (i := 1) (v := .slice ta l tcap) rfl
        have iR : (i : Int) ≤ 63000 := by omega
        go_wp2
        clear y7
        go_loopw [73, 16] (fun s73 s16 wr2 => ∃ j : Nat, j ≤ l ∧ s73 = .int .i64 j ∧ ∃ cs cnt a N rp rs pp, AlS w2 wr2 fb2 gb2 m2 p2 r2 c (ndOf c ns) k ((l : Int) - (tkN ts i : Nat) - (tkI ts i j : Nat)) ((R : Int) - i) ((i : Int) + (tkN ts i : Nat) + (tkI ts i j : Nat)) g f cs cnt a N rp rs pp) (fun s73 _ _ => l - (intOf s73).toNat)
        case atStart => exact ⟨0, by omega, by first | rfl | go_num, cs, cnt, a, N, rp, rs, pp, HZ.out.re (by simp [tkI]) rfl (by simp [tkI])⟩
        case round =>
          clear HZ
          obtain ⟨j, hj, rfl, cs, cnt, a, N, rp, rs, pp, Z⟩ := hrel
          have HZ := hidOf Z
          clear Z
          have HTK := hidOf (tk_le ts i j)
          by_cases hltj : j < l
          · have hjz : (j : Int) < (l : Int) := by omega
            obtain ⟨b1, o1, e1, l1, s0⟩ := iw_row (HU.out.new (HX2.out.2.2.trans HZ.out.fw.kp)) (k := j) (by rw [← HLL.out]; exact hltj)
            have TS := hidOf (tk_step ts i j (by rw [← HLL.out]; exact hltj))
            obtain ⟨t, ht⟩ : ∃ t, t = ts.getD j 0 := ⟨_, rfl⟩
            rw [← ht] at s0 TS
            clear ht
            rw [e1]
            by_cases hti : t = (i : Int)
            · have htb : (t == (i : Int)) = true := by simp [hti]
              have TI := hidOf (HZ.out.fw.tick (by have := HZ.out.ct; have := HTK.out; have := HLL.out; omega))
              have HTI := hidOf hti
              clear hti
              go_wp2_with fail
              refine TI.out.mono ?_
              rintro e w11 ⟨v, a11, rfl, Z11, -⟩
              have HQ := hidOf (HZ.out.tick Z11)
              clear TI Z11 HZ s0
              go_wp2
              go_roundw
              case rel => exact ⟨j + 1, by omega, by go_num, _, _, _, _, _, _, _, HQ.out.re (by rw [TS.out, if_pos HTI.out]; omega) rfl (by rw [TS.out, if_pos HTI.out]; omega)⟩
              case measure => simp [intOf]; omega
            · have htb : (t == (i : Int)) = false := by simp [hti]
              have HTI := hidOf hti
              go_wp2
              go_roundw
              case rel => exact ⟨j + 1, by omega, by go_num, cs, cnt, a, N, rp, rs, pp, HZ.out.re (by rw [TS.out, if_neg HTI.out]; omega) rfl (by rw [TS.out, if_neg HTI.out]; omega)⟩
              case measure => simp [intOf]; omega
          · have hjz : ¬ (j : Int) < (l : Int) := by omega
            have TF := hidOf (tk_full ts i j (by rw [← HLL.out]; omega))
            have SP := hidOf (HZ.out.fw.step (by have := HZ.out.ct; have := HTK.out; have := HLL.out; omega))
            go_wp2_with fail
            refine SP.out.mono ?_
            rintro e w11 ⟨rfl, Z2, K2⟩
            obtain ⟨N', rp', rs', p', Q⟩ := HZ.out.go HR.out.ok HR.out.r (by have := HTK.out; have := HLL.out; omega) Z2
            have HQ := hidOf Q
            clear SP Z2 K2 Q HZ
            go_wp2
            go_roundw
            case rel => exact ⟨i + 1, by omega, by go_num, _, _, _, _, _, N', rp', rs', p', HQ.out.re (by have := TF.out; omega) (by omega) (by have := TF.out; omega)⟩
            case measure => simp [intOf]; omega
      · have hie : i = R := by omega
        have hltz : ¬ (i : Int) < (R : Int) := by omega
        have HTK := hidOf (tk_le ts i 0)
        have hd := HZ.out.done HR.out.ok (by have := HTK.out; have := HLL.out; omega) (by omega)
        have HD := hidOf hd
        clear hd
        have HHN := hidOf (HN_eq RR.out)
        have y3 := cell_of_blk (HX2.out.1.kept HZ.out.fw.kp (by simp)) (i := 3) (v := .int .i64 c.h) rfl
        go_wp2
        clear y3
        have SA := hidOf (fun (Y : World) (kk : Kept [] wr Y) => HZ.out.fw.st.sf.new kk)
        have SB := hidOf (fun (Y : World) (kk : Kept [] wr Y) => (HA.out.1.fw.new (HZ.out.fw.kp.trans kk)).st.sf)
        have HKZ := hidOf (show ∀ Y, Kept [] wr Y → Kept [] w Y ∧ Tab Y from fun Y kk => ⟨HX2.out.2.2.trans (HZ.out.fw.kp.trans kk), (HZ.out.new kk).fw.st.tb⟩)
        go_loopw [90, 17] (fun s90 s17 wr2 => ∃ L : Nat, L ≤ HN c ∧ s90 = .int .i64 L ∧ Kept [] wr wr2) (fun s90 _ _ => HN c - (intOf s90).toNat)
        case atStart => exact ⟨0, by omega, by first | rfl | go_num, Kept.refl _ _⟩
        case round =>
          obtain ⟨L, hL, rfl, KL⟩ := hrel
          have HKL := hidOf KL
          clear KL
          by_cases hltL : L < HN c
          · have hLz : (L : Int) < c.h := by have := HHN.out; omega
            have hL6 : (L : Int) ≤ 6 := by have := RR.out.h1; have := HHN.out; omega
            obtain ⟨e1, e2, _⟩ := Iv.same HR.out.ok HZ.out.iv HA.out.1.iv HD.out HA.out.2 hltL
            have HE := hidOf (And.intro e1 e2)
            clear e1 e2
            have CA := hidOf (tpred_any (SA.out _ HKL.out) (L : Int))
            rw [HD.out, HE.out.1] at CA
            go_wp2_with fail
            refine CA.out.mono ?_
            rintro e w11 ⟨rfl, K11⟩
            have HKL1 := hidOf (HKL.out.trans K11)
            clear CA K11 HKL
            have HKL := HKL1
            clear HKL1
            have CA := hidOf (tpred_any (SB.out _ HKL.out) (L : Int))
            rw [HA.out.2] at CA
            go_wp2_with fail
            refine CA.out.mono ?_
            rintro e w12 ⟨rfl, K11⟩
            have HKL1 := hidOf (HKL.out.trans K11)
            clear CA K11 HKL
            have HKL := HKL1
            clear HKL1
            have CA := hidOf (tsucc_any (SA.out _ HKL.out) (L : Int))
            rw [HD.out, HE.out.2] at CA
            go_wp2_with fail
            refine CA.out.mono ?_
            rintro e w11 ⟨rfl, K11⟩
            have HKL1 := hidOf (HKL.out.trans K11)
            clear CA K11 HKL
            have HKL := HKL1
            clear HKL1
            have CA := hidOf (tsucc_any (SB.out _ HKL.out) (L : Int))
            rw [HA.out.2] at CA
            go_wp2_with fail
            refine CA.out.mono ?_
            rintro e w12 ⟨rfl, K11⟩
            have HKL1 := hidOf (HKL.out.trans K11)
            clear CA K11 HKL
            have HKL := HKL1
            clear HKL1
            go_wp2
            go_roundw
            case rel => exact ⟨L + 1, by omega, by go_num, HKL.out⟩
            case measure => simp [intOf]; omega
          · have hLz : ¬ (L : Int) < c.h := by have := HHN.out; omega
            have AL := hidOf (alive_any wr (HKZ.out _ HKL.out).2)
            go_wp2_with fail
            refine AL.out.mono ?_
            rintro e WA ⟨rfl, KA⟩
            have HKL1 := hidOf (HKL.out.trans KA)
            clear AL KA HKL
            have DN := hidOf ((SA.out _ HKL1.out).done)
            rw [HD.out] at DN
            go_wp2_with fail
            refine DN.out.mono ?_
            rintro e w11 ⟨rfl, rfl⟩
            go_wp2
            go_ret
            exact ⟨rfl, (HKZ.out _ HKL1.out).1⟩

set_option maxRecDepth 100000 in
theorem findTicks_lifted (os : Os) (started : os.Started) (H : Type) (enc : TypeId × Value → H) :
    ReturnsInHanded {} Tryd.checked os 7 .any (fun w args => (Rows.findTicksSpec.pre enc Tryd.prog Tryd.f7 [] false w args ∧ laidMetH Tryd.prog laid1 w) ∧ sizedMet enc Tryd.prog Tryd.f7 (OpenSpec.ofChange Rows.findTicksSpec) false w args)
      (Rows.findTicksSpec.post enc Tryd.prog Tryd.f7 false true false false) := by
  refine returnsInHanded_of_change_and (C := Tryd.checked) (X := fun w _ => laidMetH Tryd.prog laid1 w) (fun _ _ _ hh h => h.of_heap hh) own started (by kernel_rfl) Tryd.func7
    (ChangeSpec.witness_shaped (enc := enc) (C := Tryd.checked) (os := os) (X := fun w _ => laidMetH Tryd.prog laid1 w) false (World.doorLaid Tryd.prog 400 os) #[.agg #[.int .i64 0, .int .i64 0, .int .i64 0, .int .i64 0, .int .i64 0, .int .i64 0, .int .i64 0], .slice none 0 0, .agg #[.int .u64 0, .slice none 0 0]] 8 rfl (World.shaped_of_RefB (by kernel_rfl) (by kernel_rfl)) (by kernel_rfl) (by kernel_rfl) (by kernel_rfl) (door_met os _)) ?_
  intro W base args ds gs before hval0 hW _ _ hL _
  have hval : ∀ (j : Nat) t v, Tryd.f7.params[j]? = some t → args[j]? = some v → Value.okWide Tryd.prog W .any base t v := hval0
  have hW' := hW
  obtain ⟨p, q, hA0, hV, rfl, _, _⟩ := hW
  have hA : DataW.TrodAll enc Tryd.prog W 0 (fun _ => true) true Tryd.f7.params.toList args.toList ds p := hA0
  rw [Tryd.params7] at hA hval
  clear hA0 hval0
  obtain ⟨v0, vs0, d0, ds0, p0, q0, hargs, rfl, rfl, h0, r0⟩ := trodAll_cons hA
  obtain ⟨v1, vs1, d1, ds1, p1, q1, rfl, rfl, rfl, h1, r1⟩ := trodAll_cons r0
  obtain ⟨v2, vs2, d2, ds2, p2, q2, rfl, rfl, rfl, h2, r2⟩ := trodAll_cons r1
  obtain ⟨rfl, rfl, rfl⟩ := trodAll_nil r2
  obtain rfl : args = #[v0, v1, v2] := by cases args; simp_all
  obtain ⟨rfl, rfl⟩ := trodVars_none hV
  have k0 := h0
  have k1 := h1
  have k2 := h2
  simp only [List.append_nil] at hW'
  have hlt0 : ∀ x ∈ p0, x.block < W.heap.size := fun x hx => hW'.lt x (by simp [hx])
  have hlt1 : ∀ x ∈ p1, x.block < W.heap.size := fun x hx => hW'.lt x (by simp [hx])
  have hlt2 : ∀ x ∈ p2, x.block < W.heap.size := fun x hx => hW'.lt x (by simp [hx])
  obtain ⟨c0, rfl, g0⟩ := open_cfg (hval 0 23 v0 rfl rfl) h0
  obtain ⟨ao1, cap1, ns1, rfl, s1, g1⟩ := open_nodes (hval 1 24 v1 rfl rfl) h1
  obtain ⟨kk2, ta2, tc2, ts2, rfl, u2⟩ := open_ticks (hval 2 75 v2 rfl rfl) h2
  refine (findTicks_walk W c0 g0 ao1 ns1 cap1 s1 g1 kk2 ta2 tc2 ts2 u2 (tab_of_laid hL)).mono fun e W' ⟨he, hg⟩ => ?_
  subst he
  have hb := hg.below (by simp)
  exact ⟨_, rfl, _, _, _, [], _, [], hW', (trodAll_cons_mk (shut_bool Tryd.underlying4 _) trodAll_mk0), (trodAll_cons_mk (Below.trod laidOut (by kernel_rfl) (of_decide_eq_true (by kernel_rfl)) k0 hb hlt0) (trodAll_cons_mk (Below.trod laidOut (by kernel_rfl) (of_decide_eq_true (by kernel_rfl)) k1 hb hlt1) (trodAll_cons_mk (Below.trod laidOut (by kernel_rfl) (of_decide_eq_true (by kernel_rfl)) k2 hb hlt2) trodAll_mk0))), rfl, hb.frame _, fun h => by cases h⟩

theorem findTicks_over : Rows.FindTicksSaid :=
  OpenClaim.holds_of_wide 7 Tryd.f7 rfl rfl rfl rfl rfl rfl rfl ⟨rfl, rfl, rfl, rfl, rfl⟩ rfl rfl rfl rfl rfl (by kernel_rfl) Tryd.func7 (by kernel_rfl)
    (of_decide_eq_true (by kernel_rfl)) (by unfold Func.isWrapper; first | (rw [if_pos (by decide +kernel)]; kernel_rfl) | (rw [if_neg (by decide +kernel)]; exact ⟨rfl, rfl⟩))
    (fun os started H enc _ => findTicks_lifted os started H enc)

theorem findTicks_holds : Rows.FindTicksCardSaid :=
  Claim7.holds_tied_plain_at .later [] [.data] true (true, "7f80696f4898032b1e9ebe7e0048ae521e445675cf0580a22aeeebebced35714") false
    findTicks_over (fun _ h => by cases h) (by kernel_rfl) (fun _ h => by cases h) findTicks_row_tie rfl ⟨rfl, rfl⟩ (by kernel_rfl) rfl
    (fun f fn hf hfn => by
      obtain rfl : f = 7 := Option.some.inj ((show Tryd.prog.funcNamed "stepstone/stepstonelaw11.FindTicks" = some 7 by kernel_rfl).symm.trans hf) |>.symm
      obtain rfl : fn = Tryd.f7 := (Option.some.inj (Tryd.func7.symm.trans hfn)).symm
      exact ⟨by kernel_rfl, fun j t ht => by
          rw [Tryd.params7] at ht
          rcases j with _ | j
          · have : t = 23 := by simpa using ht.symm
            subst this; exact (show Tryd.prog.wantsStandIn 23 = false by kernel_rfl)
          rcases j with _ | j
          · have : t = 24 := by simpa using ht.symm
            subst this; exact (show Tryd.prog.wantsStandIn 24 = false by kernel_rfl)
          rcases j with _ | j
          · have : t = 75 := by simpa using ht.symm
            subst this; exact (show Tryd.prog.wantsStandIn 75 = false by kernel_rfl)
          simp at ht⟩)
    (by kernel_rfl)
#print axioms findTicks_holds
end Go.Proofs.YtgnkgkbjjeipbaaDoor
