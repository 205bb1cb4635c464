/-
  At each step a level of the node, below its highest one, has the mark by this only if all levels above it have.
  Conditions: the package variable of handle that the code reads starts as the program's text lays it (the card ties it to that text).
-/
import Derived.Test.YtjbdaejkofkcpaaDoorJAlv
import Derived.Test.YtjbdaejkofkcpaaDoorJDown
import Derived.Test.YtjbdaejkofkcpaaDoorFRight
import Derived.Test.YtjbdaejkofkcpaaDoorHLaid
import Derived.Test.YtjbdaejkofkcpaaDoorPArgs
import Derived.Deep.CutRange
import Derived.ProofKit
import Derived.SizedLaws
import Derived.Carry
namespace Go.Proofs.YtjbdaejkofkcpaaDoor
open Go.ChangeShapes Go.WideShapes Go.ChangeAt Go.RowKit
open Go.Deep
open Go.Proofs.YtjbdaejkofkcpaaDoor.K
set_option maxRecDepth 100000

set_option maxRecDepth 100000 in
set_option maxHeartbeats 8000000 in
theorem helpDown_walk (w : World) (c : Cfg) (_g : c.wf) (ao : Option Addr) (ns : List Nn) (cap : Nat) (hs : SlOf 5 nnL w ao ns) (hw : ∀ x ∈ ns, x.wf) (h : Int) (lo : Option Addr) (lc : Nat) (ts : List Bool) (wh : isW h) (hl : SlOf 1 boC w lo ts) (hT : Tab w) :
    Calls Tryd.prog 6 #[c.val, .slice ao ns.length cap, .agg (tuA h lo ts.length lc)] w fun e w' => e = .returned (.bool true) ∧ Kept [] w w' := by
  simp only [Cfg.val]
  obtain ⟨n, hn⟩ : ∃ n, n = ns.length := ⟨_, rfl⟩
  rw [← hn]
  have HN := hidOf hn
  have HS := hidOf hs
  have HWN := hidOf hw
  have HT := hidOf hT
  clear hn hs hw hT
  obtain ⟨k, hk⟩ : ∃ k, k = ts.length := ⟨_, rfl⟩
  rw [← hk]
  have HK := hidOf hk
  have HL := hidOf hl
  clear hk hl
  obtain ⟨q, hq⟩ : ∃ q, q = w.heap.size := ⟨_, rfl⟩
  have BX : Hid (Bx 63 ((w.alloc (.cells #[.int .i64 c.t, .int .i64 c.s, .int .i64 c.c, .int .i64 c.h, .int .i64 c.k, .int .i64 c.e, .int .i64 c.l] 23)).alloc (.cells (tuA h lo k lc) 63)) q c (tuA h lo k lc) ∧ Kept [] w ((w.alloc (.cells #[.int .i64 c.t, .int .i64 c.s, .int .i64 c.c, .int .i64 c.h, .int .i64 c.k, .int .i64 c.e, .int .i64 c.l] 23)).alloc (.cells (tuA h lo k lc) 63))) := by
    have z := two_new 23 63 w #[.int .i64 c.t, .int .i64 c.s, .int .i64 c.c, .int .i64 c.h, .int .i64 c.k, .int .i64 c.e, .int .i64 c.l] (tuA h lo k lc) hq
    exact ⟨⟨z.1, z.2.1⟩, z.2.2⟩
  go_enter Tryd.func6, Tryd.ntmps6
  go_upto_region 1 with (fail)
  rw [← hq]
  refine gen_world (fun W => Bx 63 W q c (tuA h lo k lc) ∧ Kept [] w W) BX.out ?_
  have hqw : w.heap.size ≤ q := by omega
  clear BX hq
  rintro W ⟨CB, K0⟩
  have HX := hidOf (And.intro CB K0)
  clear CB K0
  go_wp2_with (first | ((with_reducible change wpList _ _ _ (Oper.mk _ (Op.load 23 (Operand.tmp 3)) _ _ _ _ :: _) _ _); refine wpList_load_rw 23 isT_cf rfl (.tmp 3) rfl q rfl #[.int .i64 c.t, .int .i64 c.s, .int .i64 c.c, .int .i64 c.h, .int .i64 c.k, .int .i64 c.e, .int .i64 c.l] rfl HX.out.1.c ?_))
  refine (right11_any c ns ao n cap W (HS.out.new HX.out.2) HN.out).mono ?_
  rintro e w1 ⟨B, rfl, hB, K1⟩
  have HY := hidOf (And.intro (HX.out.1.new K1) (HX.out.2.trans K1))
  clear HX K1
  have HX := HY
  clear HY
  cases B with
  | false =>
    clear hB
    have AL := hidOf (alive_any _ (HT.out.kept HX.out.2))
    go_wp2_with fail
    refine AL.out.mono ?_
    rintro e WA ⟨rfl, KA⟩
    have KF := hidOf ((HX.out.2).trans KA)
    clear KA
    go_wp2
    go_ret
    exact ⟨rfl, KF.out⟩
  | true =>
    have HR := hidOf (hB.1 rfl)
    clear hB
    have y1 := cell_of_blk HX.out.1.z (i := 1) (v := .slice lo k lc) rfl
    by_cases hk100 : 100 < (k : Int)
    · 
      have AL := hidOf (alive_any _ (HT.out.kept HX.out.2))
      go_wp2_with fail
      refine AL.out.mono ?_
      rintro e WA ⟨rfl, KA⟩
      have KF := hidOf ((HX.out.2).trans KA)
      clear KA
      go_wp2
      go_ret
      exact ⟨rfl, KF.out⟩
    · go_wp2_with fail
      clear y1
      have LY := hidOf (fun (Y : World) (kk : Kept [] w1 Y) => lay_k c ns ao n cap w1 Y HR.out HWN.out (HS.out.new HX.out.2) HN.out kk)
      have OF := hidOf (fun (Y : World) (g c' : Nat) (kk : Kept [] w1 Y) (R : RowR Y g (layV c ns) c') => of_k c ns w w1 Y g c' HR.out HWN.out R HX.out.2 kk HT.out)
      obtain ⟨LN, hLN⟩ : ∃ LN, LN = lnN c := ⟨_, rfl⟩
      rw [← hLN] at LY OF
      clear hLN
      have SX := hidOf (fun (W' : World) (kk : Kept [] w1 W') => (show W'.cell? ⟨q, 0, none⟩ = some (.int .i64 c.t) ∧ W'.cell? ⟨q, 1, none⟩ = some (.int .i64 c.s) ∧ W'.cell? ⟨q, 2, none⟩ = some (.int .i64 c.c) ∧ W'.cell? ⟨q, 3, none⟩ = some (.int .i64 c.h) ∧ W'.cell? ⟨q, 4, none⟩ = some (.int .i64 c.k) ∧ W'.cell? ⟨q, 5, none⟩ = some (.int .i64 c.e) ∧ W'.cell? ⟨q, 6, none⟩ = some (.int .i64 c.l) from by
        have y := HX.out.1.c.kept kk (by simp)
        exact ⟨cell_of_blk y (i := 0) rfl, cell_of_blk y (i := 1) rfl, cell_of_blk y (i := 2) rfl, cell_of_blk y (i := 3) rfl, cell_of_blk y (i := 4) rfl, cell_of_blk y (i := 5) rfl, cell_of_blk y (i := 6) rfl⟩))
      go_wp2_with fail
      go_region_held3 (fun W' => W'.cell? ⟨q, 0, none⟩ = some (.int .i64 c.t) ∧ W'.cell? ⟨q, 1, none⟩ = some (.int .i64 c.s) ∧ W'.cell? ⟨q, 2, none⟩ = some (.int .i64 c.c) ∧ W'.cell? ⟨q, 3, none⟩ = some (.int .i64 c.h) ∧ W'.cell? ⟨q, 4, none⟩ = some (.int .i64 c.k) ∧ W'.cell? ⟨q, 5, none⟩ = some (.int .i64 c.e) ∧ W'.cell? ⟨q, 6, none⟩ = some (.int .i64 c.l))
        (exact SX.out _ (by first | assumption | exact (Kept.refl _ _).drew | exact Kept.refl _ _))
        (first
          | (go_at_call 27; with_reducible refine (LY.out _ (by first | assumption | exact (Kept.refl _ _).drew)).mono ?_; rintro e w5 ⟨g, c', rfl, R5, K5⟩)
          | (go_at_call 26; with_reducible refine (OF.out _ _ _ (by assumption) (by assumption)).mono ?_; rintro e w6 ⟨m, p, r, rfl, J6, K6⟩))
      have HY := hidOf (And.intro (HX.out.1.new K6) J6)
      clear R5 K5 J6 K6 SX LY OF HX
      have HX := HY
      clear HY
      have hX0 : 0 ≤ ixV h := by unfold ixV; omega
      have NA := hidOf (fun (Y : World) (kk : Kept [] w6 Y) => N1.of h kk)
      have SX := hidOf (fun (Y : World) (kk : Kept [] w6 Y) => cell_of_blk (HX.out.1.z.kept kk (by simp)) (i := 0) (v := .int .u64 h) rfl)
      go_wp2_with fail
      go_region_held3 (fun W' => W'.cell? ⟨q + 1, 0, none⟩ = some (.int .u64 h))
        (first | exact SX.out _ (Kept.refl _ _).drew | exact SX.out _ (N2.k (by assumption)) | exact SX.out _ (N1.k (by assumption)))
        (first
          | (go_at_call 10; with_reducible refine (NA.out _ (by exact (Kept.refl _ _).drew)).mono ?_; rintro e w3 ⟨a, rfl, A3⟩)
          | (go_at_call 10; with_reducible refine (N2.of (by assumption)).mono ?_; rintro e w4 ⟨b, rfl, A4⟩))
      have HY := hidOf (And.intro (HX.out.1.new A4.k) (And.intro (HX.out.2.new A4.k) (And.intro A4 HX.out.2.kp.size)))
      clear HX A3 A4 NA SX
      have HX := HY
      clear HY
      have IX := hidOf (index_any h w4 HX.out.2.1.tab wh.1 wh.2)
      have hX1 : ixV h < 4294967296 := by unfold ixV; omega
      obtain ⟨X, hX⟩ : ∃ X, X = ixV h := ⟨_, rfl⟩
      rw [← hX] at IX hX0 hX1
      have HXX := hidOf hX
      clear hX
      rcases (show X = 0 ∨ ∃ K : Nat, X = (K : Int) + 1 from by
        by_cases z : X = 0
        · exact Or.inl z
        · exact Or.inr ⟨(X - 1).toNat, by omega⟩) with rfl | ⟨K, rfl⟩
      · 
        have y0 := cell_of_blk HX.out.1.z (i := 0) (v := .int .u64 h) rfl
        go_wp2_with fail
        refine IX.out.mono ?_
        rintro e w5' ⟨rfl, K5'⟩
        have HY := hidOf (And.intro (HX.out.1.new K5') (And.intro (HX.out.2.1.new K5') (And.intro (HX.out.2.2.1.A.kept K5' (by simp)) (And.intro (HX.out.2.2.1.B.kept K5' (by simp)) (And.intro HX.out.2.2.1.ge (And.intro HX.out.2.2.1.lt HX.out.2.2.2))))))
        clear HX IX K5' y0
        have HX := HY
        clear HY
        have AL := hidOf (alive_any _ (HT.out.kept HX.out.2.1.kp))
        go_wp2_with fail
        refine AL.out.mono ?_
        rintro e WA ⟨rfl, KA⟩
        have KF := hidOf ((HX.out.2.1.kp).trans KA)
        clear KA
        go_wp2
        go_ret
        exact ⟨rfl, KF.out⟩
      · have hKb : (K : Int) < 4294967296 := by omega
        have hK0 : (0 : Int) ≤ (K : Int) := by omega
        clear hX0 hX1
        have y0 := cell_of_blk HX.out.1.z (i := 0) (v := .int .u64 h) rfl
        go_wp2_with fail
        refine IX.out.mono ?_
        rintro e w5' ⟨rfl, K5'⟩
        have HY := hidOf (And.intro (HX.out.1.new K5') (And.intro (HX.out.2.1.new K5') (And.intro (HX.out.2.2.1.A.kept K5' (by simp)) (And.intro (HX.out.2.2.1.B.kept K5' (by simp)) (And.intro HX.out.2.2.1.ge (And.intro HX.out.2.2.1.lt HX.out.2.2.2))))))
        clear HX IX K5' y0
        have HX := HY
        clear HY
        by_cases h1 : (n : Int) ≤ (K : Int)
        · 
          have AL := hidOf (alive_any _ (HT.out.kept HX.out.2.1.kp))
          go_wp2_with fail
          refine AL.out.mono ?_
          rintro e WA ⟨rfl, KA⟩
          have KF := hidOf ((HX.out.2.1.kp).trans KA)
          clear KA
          go_wp2
          go_ret
          exact ⟨rfl, KF.out⟩
        · have hKn := hidOf (show K < n by omega)
          have hd1 : decide ((n : Int) ≤ (K : Int)) = false := decide_eq_false h1
          have hd2 : decide (n ≤ K) = false := decide_eq_false (by omega)
          have hd3 : ((K : Int) < 0) = False := by simp
          clear h1
          have y1 := cell_of_blk HX.out.1.z (i := 1) (v := .slice lo k lc) rfl
          go_upto_region 10 with (fail)
          obtain ⟨b5, o5, e5, -⟩ := nn_row HS.out (k := K) (by rw [← HN.out]; exact hKn.out)
          subst e5
          obtain ⟨T, hTT⟩ : ∃ T, T = (ns.getD K nn0).t := ⟨_, rfl⟩
          have NT : Hid (∀ Y : World, Kept [] w Y → Y.cell? ⟨b5, o5 + K * 5 + 2, none⟩ = some (.int .i64 T) ∧ b5 < Y.heap.size) := hidOf (by
            intro Y kk
            obtain ⟨b, o, e, l, -, -, nt, -, -⟩ := nn_row (HS.out.new kk) (k := K) (by rw [← HN.out]; exact hKn.out)
            cases e
            rw [← hTT] at nt
            exact ⟨nt, l⟩)
          have HE := hidOf (En.laid HR.out (k := K) (by rw [← HN.out]; exact hKn.out))
          have HUC0 := hidOf (Uc.laid HR.out (k := K) (by rw [← HN.out]; exact hKn.out))
          rw [← hTT] at HE HUC0
          clear hTT hd1 hd2 hd3
          obtain ⟨LV, hLV⟩ : ∃ LV, LV = layV c ns := ⟨_, rfl⟩
          rw [← hLV] at HX HE HUC0
          clear hLV
          have t0 : 1 ≤ T := HE.out.t0
          have t6 : T ≤ 6 := by have := HE.out.t1; have := (riB_true.1 HR.out.r).h1; omega
          have HZ0 : Hid ((Tw w w5' m p r a b c T ((K : Int) + 1) LV LV ⟨h, 0, 0, 0⟩ ⟨h, 0, 0, 0⟩ 0 ∧ Uc c T ((K : Int) + 1) LV) ∧ Bx 63 w5' q c (tuA h lo k lc)) := hidOf (by
            obtain ⟨x1, x2, x3, x4, x5, x6, x7⟩ := HX.out
            have hu : HU c T ((K : Int) + 1) LV ⟨h, 0, 0, 0⟩ := by rw [HXX.out]; exact Go.Proofs.YtjbdaejkofkcpaaDoor.K.HU.start c T LV h
            have h0 := Go.Proofs.YtjbdaejkofkcpaaDoor.K.HI.start (c := c) wh
            have s0 := Go.Proofs.YtjbdaejkofkcpaaDoor.K.HS.start c ((K : Int) + 1) LV h
            exact ⟨⟨⟨⟨_, x2⟩, x3, x4, h0, h0, by omega, by omega, by omega, HE.out, hu, hu, CI.refl _ _ _ _, s0, s0⟩, HUC0.out⟩, x1⟩)
          clear HX HUC0
          go_wp2
          clear y1
          go_loopw [73] (fun s73 wr => ∃ i : Nat, i ≤ k ∧ s73 = .int .i64 i ∧ ∃ cs s t cnt, (Tw w wr m p r a b c T ((K : Int) + 1) LV cs s t cnt ∧ Uc c T ((K : Int) + 1) cs) ∧ Bx 63 wr q c (tuA h lo k lc) ∧ 0 ≤ cnt ∧ cnt ≤ (i : Int)) (fun s73 _ => k - (intOf s73).toNat)
          case atStart => exact ⟨0, by omega, by first | rfl | go_num, _, _, _, _, HZ0.out.1, HZ0.out.2, by omega, by omega⟩
          case round =>
            clear HZ0
            obtain ⟨i, hi, rfl, cs, s, t, cnt, Z⟩ := hrel
            have HZ := hidOf Z
            clear Z
            by_cases hlt : i < k
            · have hltz : (i : Int) < (k : Int) := by omega
              obtain ⟨acc, j⟩ := HZ.out.1.1.J
              obtain ⟨b3, o3, el, bl, z3⟩ := bo_row (HL.out.new j.kp) (k := i) (by rw [← HK.out]; exact hlt)
              clear j acc
              rw [el]
              obtain ⟨B, hB⟩ : ∃ B, B = ts.getD i false := ⟨_, rfl⟩
              rw [← hB] at z3
              clear hB
              cases B with
              | true =>
                  have ST := hidOf (HZ.out.1.1.step (by have := HZ.out.2.2; omega))
                  go_wp2_with fail
                  refine ST.out.mono ?_
                  rintro e w7 ⟨rfl, TW7, K7⟩
                  have HN7 : Hid (∃ cs s t cnt, (Tw w w7 m p r a b c T ((K : Int) + 1) LV cs s t cnt ∧ Uc c T ((K : Int) + 1) cs) ∧ Bx 63 w7 q c (tuA h lo k lc) ∧ 0 ≤ cnt ∧ cnt ≤ ((i + 1 : Nat) : Int)) := hidOf (by
                    obtain ⟨acc, j⟩ := HZ.out.1.1.J
                    have l := hN_le cnt s
                    have z := HZ.out.2.2
                    exact ⟨_, _, _, _, ⟨TW7, HZ.out.1.2.step HZ.out.1.1.E HZ.out.1.1.ua⟩, HZ.out.2.1.far (by decide) (by decide) (by decide) HZ.out.1.1.A j.mm K7, by omega, by omega⟩)
                  clear ST TW7 K7 HZ
                  obtain ⟨cs, s, t, cnt, z7⟩ := HN7.out
                  have HZ := hidOf z7
                  clear z7 HN7
                  obtain ⟨acc, j⟩ := HZ.out.1.1.J
                  have HJ := hidOf j
                  clear j
                  go_wp2_with fail
                  refine HJ.out.bank.mono ?_
                  rintro e w8 ⟨rfl, rfl⟩
                  go_wp2_with fail
                  refine HJ.out.cells.mono ?_
                  rintro e w9 ⟨qr, rfl, -, QR, K9⟩
                  have HF := hidOf (And.intro (HJ.out.new K9) (And.intro (HZ.out.2.1.new K9) QR))
                  have HT9 := hidOf (HZ.out.1.1.new K9)
                  have HUC := hidOf HZ.out.1.2
                  have HCC := hidOf HZ.out.2.2
                  have HCL : Hid ((cs.length : Int) = lnV c) := hidOf HZ.out.1.1.E.ln
                  obtain ⟨CN, hCN⟩ : ∃ CN, CN = cs.length := ⟨_, rfl⟩
                  rw [← hCN]
                  have HCN := hidOf hCN
                  clear QR K9 HJ HZ hCN
                  go_upto_region 18 with (fail)
                  go_loopw [15] (fun s15 wr => ∃ L : Nat, 1 ≤ L ∧ (L : Int) ≤ T ∧ s15 = .int .i64 L ∧ Kept [] w9 wr) (fun s15 _ => T.toNat - (intOf s15).toNat)
                  case atStart => exact ⟨1, by omega, by omega, by first | rfl | go_num, Kept.refl _ _⟩
                  case round =>
                    obtain ⟨L, hL1, hL, rfl, KW⟩ := hrel
                    have HK1 := hidOf KW
                    clear KW
                    have hKz : (K : Int) < n := by have := hKn.out; omega
                    obtain ⟨nt, l5⟩ := NT.out wr (HF.out.1.kp.trans HK1.out)
                    by_cases hLt : (L : Int) < T
                    · obtain ⟨X1, hX1, lX1⟩ := cell_at (c := c) (i := (K : Int) + 1) (f := 6 + ((L : Int) - 1)) (HT9.out.E.has (by omega) (by omega))
                      obtain ⟨X2, hX2, lX2⟩ := cell_at (c := c) (i := (K : Int) + 1) (f := 6 + (L : Int)) (HT9.out.E.has (by omega) (by omega))
                      have cl : CN = lnN c := by have := HCL.out; have := lnN_eq c; have := HCN.out; omega
                      have Q1 := HF.out.2.2.kept HK1.out (by simp)
                      have f1 : fd c cs ((K : Int) + 1) (6 + ((L : Int) - 1)) = cs.getD X1 0 := by unfold fd; rw [hX1, rdG_eq, if_pos (by unfold hasC; have := HCN.out; omega)]; rfl
                      have f2 : fd c cs ((K : Int) + 1) (6 + (L : Int)) = cs.getD X2 0 := by unfold fd; rw [hX2, rdG_eq, if_pos (by unfold hasC; have := HCN.out; omega)]; rfl
                      have uc := HUC.out ((L : Int) - 1) (by omega) (by omega)
                      rw [show 6 + ((L : Int) - 1 + 1) = 6 + (L : Int) by omega, f1, f2] at uc
                      have c1 := Q1.cell (i := X1) (by have := HCN.out; omega)
                      have c2 := Q1.cell (i := X2) (by have := HCN.out; omega)
                      have g1 : ∀ (i : Nat) (hi : i < cs.length), cs[i] = cs.getD i 0 := fun i hi => by simp [hi]
                      rw [g1] at c1 c2
                      have wd1 := wd_getD HF.out.1.wd X1
                      have wd2 := wd_getD HF.out.1.wd X2
                      have CE1 := hidOf (fun (Y : World) => cell_is hX1 Y)
                      have CE2 := hidOf (fun (Y : World) => cell_is hX2 Y)
                      rw [show 6 + ((L : Int) - 1) = 6 + (L : Int) - 1 by omega] at CE1
                      have x1 : (X1 : Int) < CN := by omega
                      have x2 : (X2 : Int) < CN := by omega
                      have ql := Q1.lt
                      obtain ⟨V1, hV1⟩ : ∃ V, V = cs.getD X1 0 := ⟨_, rfl⟩
                      obtain ⟨V2, hV2⟩ : ∃ V, V = cs.getD X2 0 := ⟨_, rfl⟩
                      rw [← hV1] at c1 uc wd1
                      rw [← hV2] at c2 uc wd2
                      have HUCC := hidOf uc
                      have HW2 := hidOf (And.intro wd1 wd2)
                      have L6 : (L : Int) ≤ 6 := by omega
                      have HCC1 := hidOf (fun (Y : World) (kk : Kept [] wr Y) => And.intro (cell_of_blk (i := X1) (v := .int .u64 V1) ((HF.out.2.2.kept HK1.out (by simp)).kept kk (by simp)) (by rw [hV1, ← g1 X1 (by have := HCN.out; omega)]; exact wd_get cs _)) (cell_of_blk (i := X2) (v := .int .u64 V2) ((HF.out.2.2.kept HK1.out (by simp)).kept kk (by simp)) (by rw [hV2, ← g1 X2 (by have := HCN.out; omega)]; exact wd_get cs _)))
                      clear hV1 hV2 f1 f2 g1 uc wd1 wd2 cl hX1 hX2 lX1 lX2 Q1 c1 c2
                      have cb := hidOf (fun (Y : World) (kk : Kept [] wr Y) => (HF.out.2.1.new HK1.out).c.kept kk (by simp))
                      go_wp2_with (first | ((with_reducible change wpList _ _ _ (Oper.mk _ (Op.load 23 (Operand.tmp 3)) _ _ _ _ :: _) _ _); refine wpList_load_rw 23 isT_cf rfl (.tmp 3) rfl q rfl #[.int .i64 c.t, .int .i64 c.s, .int .i64 c.c, .int .i64 c.h, .int .i64 c.k, .int .i64 c.e, .int .i64 c.l] rfl (cb.out _ (Kept.refl _ _)) ?_))
                      refine (CE1.out _).mono ?_
                      rintro e w10 ⟨rfl, K10⟩
                      have c1 := (HCC1.out _ K10).1
                      have ql2 : qr < w10.heap.size := by have := K10.size; omega
                      have HK2 := hidOf K10
                      clear K10 nt
                      go_wp2_with (first | ((with_reducible change wpList _ _ _ (Oper.mk _ (Op.load 23 (Operand.tmp 3)) _ _ _ _ :: _) _ _); refine wpList_load_rw 23 isT_cf rfl (.tmp 3) rfl q rfl #[.int .i64 c.t, .int .i64 c.s, .int .i64 c.c, .int .i64 c.h, .int .i64 c.k, .int .i64 c.e, .int .i64 c.l] rfl (cb.out _ HK2.out) ?_))
                      refine (CE2.out _).mono ?_
                      rintro e w11 ⟨rfl, K11⟩
                      have HK3 := hidOf (HK2.out.trans K11)
                      clear c1 K11
                      have c2 := (HCC1.out _ HK3.out).2
                      have ql3 : qr < w11.heap.size := by have := HK3.out.size; omega
                      have MK1 := hidOf (fun (Y : World) (kk : Kept [] wr Y) => marked_any V1 Y (((HF.out.1.new HK1.out).new kk).tab) HW2.out.1.1 HW2.out.1.2)
                      have MK2 := hidOf (fun (Y : World) (kk : Kept [] wr Y) => marked_any V2 Y (((HF.out.1.new HK1.out).new kk).tab) HW2.out.2.1 HW2.out.2.2)
                      obtain ⟨B1, hB1⟩ : ∃ B, B = mkB V1 := ⟨_, rfl⟩
                      rw [← hB1] at MK1 HUCC
                      clear hB1
                      go_wp2_with fail
                      refine (MK1.out _ HK3.out).mono ?_
                      rintro e w12 ⟨rfl, K12⟩
                      have HK4 := hidOf (HK3.out.trans K12)
                      clear K12 c2
                      cases B1 with
                      | true =>
                        have m2 := HUCC.out rfl
                        rw [m2] at MK2
                        clear m2
                        go_wp2_with fail
                        refine (MK2.out _ HK4.out).mono ?_
                        rintro e w13 ⟨rfl, K13⟩
                        have HK5 := hidOf (HK1.out.trans (HK4.out.trans K13))
                        clear K13
                        go_wp2
                        go_roundw
                        case rel => exact ⟨L + 1, by omega, by omega, by go_num, HK5.out⟩
                        case measure => simp [intOf]; omega
                      | false =>
                        have HK5 := hidOf (HK1.out.trans HK4.out)
                        go_wp2
                        go_roundw
                        case rel => exact ⟨L + 1, by omega, by omega, by go_num, HK5.out⟩
                        case measure => simp [intOf]; omega
                    · have HO : Hid (∃ cs s t cnt, (Tw w wr m p r a b c T ((K : Int) + 1) LV cs s t cnt ∧ Uc c T ((K : Int) + 1) cs) ∧ Bx 63 wr q c (tuA h lo k lc) ∧ 0 ≤ cnt ∧ cnt ≤ ((i + 1 : Nat) : Int)) := hidOf ⟨cs, s, t, cnt, ⟨HT9.out.new HK1.out, HUC.out⟩, HF.out.2.1.new HK1.out, HCC.out⟩
                      clear HT9 HUC HF HCC HK1
                      go_wp2
                      go_roundw
                      case rel => exact ⟨i + 1, by omega, by go_num, by rw [← el]; exact HO.out⟩
                      case measure => simp [intOf]; omega
              | false =>
                  have ST := hidOf (HZ.out.1.1.symm.step (by have := HZ.out.2.2; omega))
                  go_wp2_with fail
                  refine ST.out.mono ?_
                  rintro e w7 ⟨rfl, TW7, K7⟩
                  have HN7 : Hid (∃ cs s t cnt, (Tw w w7 m p r a b c T ((K : Int) + 1) LV cs s t cnt ∧ Uc c T ((K : Int) + 1) cs) ∧ Bx 63 w7 q c (tuA h lo k lc) ∧ 0 ≤ cnt ∧ cnt ≤ ((i + 1 : Nat) : Int)) := hidOf (by
                    obtain ⟨acc, j⟩ := HZ.out.1.1.J
                    have l := hN_le cnt t
                    have z := HZ.out.2.2
                    exact ⟨_, _, _, _, ⟨TW7.symm, HZ.out.1.2.step HZ.out.1.1.symm.E HZ.out.1.1.symm.ua⟩, HZ.out.2.1.far (by decide) (by decide) (by decide) HZ.out.1.1.symm.A j.mm K7, by omega, by omega⟩)
                  clear ST TW7 K7 HZ
                  obtain ⟨cs, s, t, cnt, z7⟩ := HN7.out
                  have HZ := hidOf z7
                  clear z7 HN7
                  obtain ⟨acc, j⟩ := HZ.out.1.1.J
                  have HJ := hidOf j
                  clear j
                  go_wp2_with fail
                  refine HJ.out.bank.mono ?_
                  rintro e w8 ⟨rfl, rfl⟩
                  go_wp2_with fail
                  refine HJ.out.cells.mono ?_
                  rintro e w9 ⟨qr, rfl, -, QR, K9⟩
                  have HF := hidOf (And.intro (HJ.out.new K9) (And.intro (HZ.out.2.1.new K9) QR))
                  have HT9 := hidOf (HZ.out.1.1.new K9)
                  have HUC := hidOf HZ.out.1.2
                  have HCC := hidOf HZ.out.2.2
                  have HCL : Hid ((cs.length : Int) = lnV c) := hidOf HZ.out.1.1.E.ln
                  obtain ⟨CN, hCN⟩ : ∃ CN, CN = cs.length := ⟨_, rfl⟩
                  rw [← hCN]
                  have HCN := hidOf hCN
                  clear QR K9 HJ HZ hCN
                  go_upto_region 18 with (fail)
                  go_loopw [15] (fun s15 wr => ∃ L : Nat, 1 ≤ L ∧ (L : Int) ≤ T ∧ s15 = .int .i64 L ∧ Kept [] w9 wr) (fun s15 _ => T.toNat - (intOf s15).toNat)
                  case atStart => exact ⟨1, by omega, by omega, by first | rfl | go_num, Kept.refl _ _⟩
                  case round =>
                    obtain ⟨L, hL1, hL, rfl, KW⟩ := hrel
                    have HK1 := hidOf KW
                    clear KW
                    have hKz : (K : Int) < n := by have := hKn.out; omega
                    obtain ⟨nt, l5⟩ := NT.out wr (HF.out.1.kp.trans HK1.out)
                    by_cases hLt : (L : Int) < T
                    · obtain ⟨X1, hX1, lX1⟩ := cell_at (c := c) (i := (K : Int) + 1) (f := 6 + ((L : Int) - 1)) (HT9.out.E.has (by omega) (by omega))
                      obtain ⟨X2, hX2, lX2⟩ := cell_at (c := c) (i := (K : Int) + 1) (f := 6 + (L : Int)) (HT9.out.E.has (by omega) (by omega))
                      have cl : CN = lnN c := by have := HCL.out; have := lnN_eq c; have := HCN.out; omega
                      have Q1 := HF.out.2.2.kept HK1.out (by simp)
                      have f1 : fd c cs ((K : Int) + 1) (6 + ((L : Int) - 1)) = cs.getD X1 0 := by unfold fd; rw [hX1, rdG_eq, if_pos (by unfold hasC; have := HCN.out; omega)]; rfl
                      have f2 : fd c cs ((K : Int) + 1) (6 + (L : Int)) = cs.getD X2 0 := by unfold fd; rw [hX2, rdG_eq, if_pos (by unfold hasC; have := HCN.out; omega)]; rfl
                      have uc := HUC.out ((L : Int) - 1) (by omega) (by omega)
                      rw [show 6 + ((L : Int) - 1 + 1) = 6 + (L : Int) by omega, f1, f2] at uc
                      have c1 := Q1.cell (i := X1) (by have := HCN.out; omega)
                      have c2 := Q1.cell (i := X2) (by have := HCN.out; omega)
                      have g1 : ∀ (i : Nat) (hi : i < cs.length), cs[i] = cs.getD i 0 := fun i hi => by simp [hi]
                      rw [g1] at c1 c2
                      have wd1 := wd_getD HF.out.1.wd X1
                      have wd2 := wd_getD HF.out.1.wd X2
                      have CE1 := hidOf (fun (Y : World) => cell_is hX1 Y)
                      have CE2 := hidOf (fun (Y : World) => cell_is hX2 Y)
                      rw [show 6 + ((L : Int) - 1) = 6 + (L : Int) - 1 by omega] at CE1
                      have x1 : (X1 : Int) < CN := by omega
                      have x2 : (X2 : Int) < CN := by omega
                      have ql := Q1.lt
                      obtain ⟨V1, hV1⟩ : ∃ V, V = cs.getD X1 0 := ⟨_, rfl⟩
                      obtain ⟨V2, hV2⟩ : ∃ V, V = cs.getD X2 0 := ⟨_, rfl⟩
                      rw [← hV1] at c1 uc wd1
                      rw [← hV2] at c2 uc wd2
                      have HUCC := hidOf uc
                      have HW2 := hidOf (And.intro wd1 wd2)
                      have L6 : (L : Int) ≤ 6 := by omega
                      have HCC1 := hidOf (fun (Y : World) (kk : Kept [] wr Y) => And.intro (cell_of_blk (i := X1) (v := .int .u64 V1) ((HF.out.2.2.kept HK1.out (by simp)).kept kk (by simp)) (by rw [hV1, ← g1 X1 (by have := HCN.out; omega)]; exact wd_get cs _)) (cell_of_blk (i := X2) (v := .int .u64 V2) ((HF.out.2.2.kept HK1.out (by simp)).kept kk (by simp)) (by rw [hV2, ← g1 X2 (by have := HCN.out; omega)]; exact wd_get cs _)))
                      clear hV1 hV2 f1 f2 g1 uc wd1 wd2 cl hX1 hX2 lX1 lX2 Q1 c1 c2
                      have cb := hidOf (fun (Y : World) (kk : Kept [] wr Y) => (HF.out.2.1.new HK1.out).c.kept kk (by simp))
                      go_wp2_with (first | ((with_reducible change wpList _ _ _ (Oper.mk _ (Op.load 23 (Operand.tmp 3)) _ _ _ _ :: _) _ _); refine wpList_load_rw 23 isT_cf rfl (.tmp 3) rfl q rfl #[.int .i64 c.t, .int .i64 c.s, .int .i64 c.c, .int .i64 c.h, .int .i64 c.k, .int .i64 c.e, .int .i64 c.l] rfl (cb.out _ (Kept.refl _ _)) ?_))
                      refine (CE1.out _).mono ?_
                      rintro e w10 ⟨rfl, K10⟩
                      have c1 := (HCC1.out _ K10).1
                      have ql2 : qr < w10.heap.size := by have := K10.size; omega
                      have HK2 := hidOf K10
                      clear K10 nt
                      go_wp2_with (first | ((with_reducible change wpList _ _ _ (Oper.mk _ (Op.load 23 (Operand.tmp 3)) _ _ _ _ :: _) _ _); refine wpList_load_rw 23 isT_cf rfl (.tmp 3) rfl q rfl #[.int .i64 c.t, .int .i64 c.s, .int .i64 c.c, .int .i64 c.h, .int .i64 c.k, .int .i64 c.e, .int .i64 c.l] rfl (cb.out _ HK2.out) ?_))
                      refine (CE2.out _).mono ?_
                      rintro e w11 ⟨rfl, K11⟩
                      have HK3 := hidOf (HK2.out.trans K11)
                      clear c1 K11
                      have c2 := (HCC1.out _ HK3.out).2
                      have ql3 : qr < w11.heap.size := by have := HK3.out.size; omega
                      have MK1 := hidOf (fun (Y : World) (kk : Kept [] wr Y) => marked_any V1 Y (((HF.out.1.new HK1.out).new kk).tab) HW2.out.1.1 HW2.out.1.2)
                      have MK2 := hidOf (fun (Y : World) (kk : Kept [] wr Y) => marked_any V2 Y (((HF.out.1.new HK1.out).new kk).tab) HW2.out.2.1 HW2.out.2.2)
                      obtain ⟨B1, hB1⟩ : ∃ B, B = mkB V1 := ⟨_, rfl⟩
                      rw [← hB1] at MK1 HUCC
                      clear hB1
                      go_wp2_with fail
                      refine (MK1.out _ HK3.out).mono ?_
                      rintro e w12 ⟨rfl, K12⟩
                      have HK4 := hidOf (HK3.out.trans K12)
                      clear K12 c2
                      cases B1 with
                      | true =>
                        have m2 := HUCC.out rfl
                        rw [m2] at MK2
                        clear m2
                        go_wp2_with fail
                        refine (MK2.out _ HK4.out).mono ?_
                        rintro e w13 ⟨rfl, K13⟩
                        have HK5 := hidOf (HK1.out.trans (HK4.out.trans K13))
                        clear K13
                        go_wp2
                        go_roundw
                        case rel => exact ⟨L + 1, by omega, by omega, by go_num, HK5.out⟩
                        case measure => simp [intOf]; omega
                      | false =>
                        have HK5 := hidOf (HK1.out.trans HK4.out)
                        go_wp2
                        go_roundw
                        case rel => exact ⟨L + 1, by omega, by omega, by go_num, HK5.out⟩
                        case measure => simp [intOf]; omega
                    · have HO : Hid (∃ cs s t cnt, (Tw w wr m p r a b c T ((K : Int) + 1) LV cs s t cnt ∧ Uc c T ((K : Int) + 1) cs) ∧ Bx 63 wr q c (tuA h lo k lc) ∧ 0 ≤ cnt ∧ cnt ≤ ((i + 1 : Nat) : Int)) := hidOf ⟨cs, s, t, cnt, ⟨HT9.out.new HK1.out, HUC.out⟩, HF.out.2.1.new HK1.out, HCC.out⟩
                      clear HT9 HUC HF HCC HK1
                      go_wp2
                      go_roundw
                      case rel => exact ⟨i + 1, by omega, by go_num, by rw [← el]; exact HO.out⟩
                      case measure => simp [intOf]; omega
            · have hie : i = k := by omega
              have hltz : ¬ (i : Int) < (k : Int) := by omega
              obtain ⟨acc, j⟩ := HZ.out.1.1.J
              have HJ := hidOf j.kp
              clear j acc
              have AL := hidOf (alive_any _ (HT.out.kept HJ.out))
              go_wp2_with fail
              refine AL.out.mono ?_
              rintro e WA ⟨rfl, KA⟩
              have KF := hidOf ((HJ.out).trans KA)
              clear KA
              go_wp2
              go_ret
              exact ⟨rfl, KF.out⟩

set_option maxRecDepth 100000 in
theorem helpDown_lifted (os : Os) (started : os.Started) (H : Type) (enc : TypeId × Value → H) :
    ReturnsInHanded {} Tryd.checked os 6 .any (fun w args => (Rows.helpDownSpec.pre enc Tryd.prog Tryd.f6 [] false w args ∧ laidMetH Tryd.prog laid1 w) ∧ sizedMet enc Tryd.prog Tryd.f6 (OpenSpec.ofChange Rows.helpDownSpec) false w args)
      (Rows.helpDownSpec.post enc Tryd.prog Tryd.f6 false true false false) := by
  refine returnsInHanded_of_change_and (C := Tryd.checked) (X := fun w _ => laidMetH Tryd.prog laid1 w) (fun _ _ _ hh h => h.of_heap hh) own started (by kernel_rfl) Tryd.func6
    (ChangeSpec.witness_shaped (enc := enc) (C := Tryd.checked) (os := os) (X := fun w _ => laidMetH Tryd.prog laid1 w) false (World.doorLaid Tryd.prog 400 os) #[.agg #[.int .i64 0, .int .i64 0, .int .i64 0, .int .i64 0, .int .i64 0, .int .i64 0, .int .i64 0], .slice none 0 0, .agg #[.int .u64 0, .slice none 0 0]] 8 rfl (World.shaped_of_RefB (by kernel_rfl) (by kernel_rfl)) (by kernel_rfl) (by kernel_rfl) (by kernel_rfl) (door_met os _)) ?_
  intro W base args ds gs before hval0 hW _ _ hL _
  have hval : ∀ (j : Nat) t v, Tryd.f6.params[j]? = some t → args[j]? = some v → Value.okWide Tryd.prog W .any base t v := hval0
  have hW' := hW
  obtain ⟨p, q, hA0, hV, rfl, _, _⟩ := hW
  have hA : DataW.TrodAll enc Tryd.prog W 0 (fun _ => true) true Tryd.f6.params.toList args.toList ds p := hA0
  rw [Tryd.params6] at hA hval
  clear hA0 hval0
  obtain ⟨v0, vs0, d0, ds0, p0, q0, hargs, rfl, rfl, h0, r0⟩ := trodAll_cons hA
  obtain ⟨v1, vs1, d1, ds1, p1, q1, rfl, rfl, rfl, h1, r1⟩ := trodAll_cons r0
  obtain ⟨v2, vs2, d2, ds2, p2, q2, rfl, rfl, rfl, h2, r2⟩ := trodAll_cons r1
  obtain ⟨rfl, rfl, rfl⟩ := trodAll_nil r2
  obtain rfl : args = #[v0, v1, v2] := by cases args; simp_all
  obtain ⟨rfl, rfl⟩ := trodVars_none hV
  have k0 := h0
  have k1 := h1
  have k2 := h2
  simp only [List.append_nil] at hW'
  have hlt0 : ∀ x ∈ p0, x.block < W.heap.size := fun x hx => hW'.lt x (by simp [hx])
  have hlt1 : ∀ x ∈ p1, x.block < W.heap.size := fun x hx => hW'.lt x (by simp [hx])
  have hlt2 : ∀ x ∈ p2, x.block < W.heap.size := fun x hx => hW'.lt x (by simp [hx])
  obtain ⟨c0, rfl, g0⟩ := open_cfg (hval 0 23 v0 rfl rfl) h0
  obtain ⟨ao1, cap1, ns1, rfl, s1, g1⟩ := open_nodes (hval 1 65 v1 rfl rfl) h1
  obtain ⟨hh2, lo2, lc2, ts2, rfl, wh2, sl2⟩ := open_turns (hval 2 63 v2 rfl rfl) h2
  refine (helpDown_walk W c0 g0 ao1 ns1 cap1 s1 g1 hh2 lo2 lc2 ts2 wh2 sl2 (tab_of_laid hL)).mono fun e W' ⟨he, hg⟩ => ?_
  subst he
  have hb := hg.below (by simp)
  exact ⟨_, rfl, _, _, _, [], _, [], hW', (trodAll_cons_mk (shut_bool Tryd.underlying4 _) trodAll_mk0), (trodAll_cons_mk (Below.trod laidOut (by kernel_rfl) (of_decide_eq_true (by kernel_rfl)) k0 hb hlt0) (trodAll_cons_mk (Below.trod laidOut (by kernel_rfl) (of_decide_eq_true (by kernel_rfl)) k1 hb hlt1) (trodAll_cons_mk (Below.trod laidOut (by kernel_rfl) (of_decide_eq_true (by kernel_rfl)) k2 hb hlt2) trodAll_mk0))), rfl, hb.frame _, fun h => by cases h⟩

theorem helpDown_over : Rows.HelpDownSaid :=
  OpenClaim.holds_of_wide 6 Tryd.f6 rfl rfl rfl rfl rfl rfl rfl ⟨rfl, rfl, rfl, rfl, rfl⟩ rfl rfl rfl rfl rfl (by kernel_rfl) Tryd.func6 (by kernel_rfl)
    (of_decide_eq_true (by kernel_rfl)) (by unfold Func.isWrapper; first | (rw [if_pos (by decide +kernel)]; kernel_rfl) | (rw [if_neg (by decide +kernel)]; exact ⟨rfl, rfl⟩))
    (fun os started H enc _ => helpDown_lifted os started H enc)

theorem helpDown_holds : Rows.HelpDownCardSaid :=
  Claim7.holds_tied_plain_at .later [] [.data] true (true, "8da01a15b0ed21f15b06d493984036c42457dccc076fb2a2ce17b33141c9b120") false
    helpDown_over (fun _ h => by cases h) (by kernel_rfl) (fun _ h => by cases h) helpDown_row_tie rfl ⟨rfl, rfl⟩ (by kernel_rfl) rfl
    (fun f fn hf hfn => by
      obtain rfl : f = 6 := Option.some.inj ((show Tryd.prog.funcNamed "stepstone/stepstonelaw12.HelpDown" = some 6 by kernel_rfl).symm.trans hf) |>.symm
      obtain rfl : fn = Tryd.f6 := (Option.some.inj (Tryd.func6.symm.trans hfn)).symm
      exact ⟨by kernel_rfl, fun j t ht => by
          rw [Tryd.params6] at ht
          rcases j with _ | j
          · have : t = 23 := by simpa using ht.symm
            subst this; exact (show Tryd.prog.wantsStandIn 23 = false by kernel_rfl)
          rcases j with _ | j
          · have : t = 65 := by simpa using ht.symm
            subst this; exact (show Tryd.prog.wantsStandIn 65 = false by kernel_rfl)
          rcases j with _ | j
          · have : t = 63 := by simpa using ht.symm
            subst this; exact (show Tryd.prog.wantsStandIn 63 = false by kernel_rfl)
          simp at ht⟩)
    (by kernel_rfl)
#print axioms helpDown_holds
end Go.Proofs.YtjbdaejkofkcpaaDoor
