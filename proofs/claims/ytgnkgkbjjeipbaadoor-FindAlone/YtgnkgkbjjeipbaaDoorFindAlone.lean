/-
  Alone it ends; on each level it tells the head, or a node below the key that is not deleted there, and what is behind that: a node that is neither below the key nor deleted, or none: the law FindAlone is true for every input.
  Conditions: the package variable of handle that the code reads starts as the program's text lays it (the card ties it to that text).
-/
import Derived.Test.YtgnkgkbjjeipbaaDoorFAt
import Derived.Test.YtgnkgkbjjeipbaaDoorHLaid
import Derived.Test.YtgnkgkbjjeipbaaDoorPArgs
import Derived.Deep.CutRange
import Derived.ProofKit
import Derived.SizedLaws
import Derived.Carry
namespace Go.Proofs.YtgnkgkbjjeipbaaDoor
open Go.ChangeShapes Go.WideShapes Go.ChangeAt Go.RowKit
open Go.Deep
open Go.Proofs.YtgnkgkbjjeipbaaDoor.K
set_option maxRecDepth 100000

set_option maxRecDepth 100000 in
set_option maxHeartbeats 8000000 in
theorem findAlone_walk (w : World) (c : Cfg) (_hg : c.wf) (ao : Option Addr) (ns : List Nn) (cap : Nat) (hs : SlOf 5 nnL w ao ns) (hw : ∀ x ∈ ns, x.wf) (k : Int) (_hk : isWord k) (hT : Tab w) :
    Calls Tryd.prog 3 #[c.val, .slice ao ns.length cap, .int .u64 k] w fun e w' => e = .returned (.bool true) ∧ Kept [] w w' := by
  simp only [Cfg.val]
  obtain ⟨n, hn⟩ : ∃ n, n = ns.length := ⟨_, rfl⟩
  rw [← hn]
  have HNN := hidOf hn
  have HS := hidOf hs
  have HW := hidOf hw
  have HT := hidOf hT
  clear hn hs hw hT
  obtain ⟨q, hq⟩ : ∃ q, q = w.heap.size := ⟨_, rfl⟩
  have BX : Hid (RW 23 (w.alloc (.cells #[.int .i64 c.t, .int .i64 c.s, .int .i64 c.c, .int .i64 c.h, .int .i64 c.k, .int .i64 c.e, .int .i64 c.l] 23)) q #[.int .i64 c.t, .int .i64 c.s, .int .i64 c.c, .int .i64 c.h, .int .i64 c.k, .int .i64 c.e, .int .i64 c.l] ∧ Kept [] w (w.alloc (.cells #[.int .i64 c.t, .int .i64 c.s, .int .i64 c.c, .int .i64 c.h, .int .i64 c.k, .int .i64 c.e, .int .i64 c.l] 23))) := by rw [hq]; exact ⟨RW.new _ _ _, (Kept.refl [] w).alloc _⟩
  go_enter Tryd.func3, Tryd.ntmps3
  go_upto_region 1 with (fail)
  rw [← hq]
  refine gen_world (fun W => RW 23 W q #[.int .i64 c.t, .int .i64 c.s, .int .i64 c.c, .int .i64 c.h, .int .i64 c.k, .int .i64 c.e, .int .i64 c.l] ∧ Kept [] w W) BX.out ?_
  clear BX hq
  rintro W ⟨CB0, K0⟩
  have HX := hidOf (And.intro CB0 K0)
  clear CB0 K0
  go_wp2_with (first | ((with_reducible change wpList _ _ _ (Oper.mk _ (Op.load 23 (Operand.tmp 3)) _ _ _ _ :: _) _ _); refine wpList_load_rw 23 isT_cf rfl (.tmp 3) rfl q rfl #[.int .i64 c.t, .int .i64 c.s, .int .i64 c.c, .int .i64 c.h, .int .i64 c.k, .int .i64 c.e, .int .i64 c.l] rfl HX.out.1 ?_))
  refine (right11_any c ns ao n cap W (HS.out.new HX.out.2) HNN.out).mono ?_
  rintro e w1 ⟨B, rfl, hB, K1⟩
  have HX1 := hidOf (And.intro (HX.out.1.kept K1 (by simp)) (HX.out.2.trans K1))
  clear HX K1
  have HX := HX1
  clear HX1
  cases B with
  | false =>
    have AL := hidOf (alive_any w1 (HT.out.kept HX.out.2))
    go_wp2_with fail
    refine AL.out.mono ?_
    rintro e WA ⟨rfl, KA⟩
    go_wp2
    go_ret
    exact ⟨rfl, HX.out.2.trans KA⟩
  | true =>
    have HR := hidOf (hB.1 rfl)
    have RR := hidOf (riB_true.1 HR.out.r)
    clear hB
    go_wp2_with (first | ((with_reducible change wpList _ _ _ (Oper.mk _ (Op.load 23 (Operand.tmp 3)) _ _ _ _ :: _) _ _); refine wpList_load_rw 23 isT_cf rfl (.tmp 3) rfl q rfl #[.int .i64 c.t, .int .i64 c.s, .int .i64 c.c, .int .i64 c.h, .int .i64 c.k, .int .i64 c.e, .int .i64 c.l] rfl HX.out.1 ?_))
    refine (alone_any c ns ao n cap k w1 (HT.out.kept HX.out.2) HR.out HW.out (HS.out.new HX.out.2) HNN.out).mono ?_
    rintro e w2 ⟨m, fb, gb, p, r, g, f, cs, cnt, a, N, rp, rs, pp, rfl, Z, hd⟩
    have HA := hidOf (And.intro Z hd)
    clear Z hd
    have BD := hidOf (bnd_bd RR.out)
    have n64 : (n : Int) ≤ 64 := by have := HR.out.n; have := HNN.out; have := RR.out.c1; omega
    have NL := hidOf (n_lt RR.out HR.out.ok)
    have HHN := hidOf (HN_eq RR.out)
    have y3 := cell_of_blk (HX.out.1.kept HA.out.1.fw.kp (by simp)) (i := 3) (v := .int .i64 c.h) rfl
    go_wp2
    clear y3
    go_loopw [36] (fun s36 wr => ∃ L : Nat, L ≤ HN c ∧ s36 = .int .i64 L ∧ ∃ cnt a, Fw w1.heap.size w1 wr fb gb m p r c g f cs cnt a ∧ cnt ≤ 3000 + L) (fun s36 _ => HN c - (intOf s36).toNat)
    case atStart => exact ⟨0, by omega, by first | rfl | go_num, cnt, a, HA.out.1.fw, by have := HA.out.1.ct; have := BD.out; omega⟩
    case round =>
      obtain ⟨L, hL, rfl, cnt, a, Z, hc⟩ := hrel
      have HZ := hidOf (And.intro Z hc)
      clear Z hc
      by_cases hltL : L < HN c
      · have hLz : (L : Int) < c.h := by have := HHN.out; omega
        have hL6 : (L : Int) ≤ 5 := by have := RR.out.h1; have := HHN.out; omega
        obtain ⟨e1, e2, e3⟩ := HA.out.1.iv.tells HA.out.2 hltL
        have R0 := HA.out.1.iv.noted HA.out.2 hltL
        obtain ⟨P, hP⟩ : ∃ P, P = rp (HN c - 1 - L) := ⟨_, rfl⟩
        obtain ⟨S, hS⟩ : ∃ S, S = rs (HN c - 1 - L) := ⟨_, rfl⟩
        rw [← hP] at e1 R0
        rw [← hS] at e2 e3 R0
        have HRS := hidOf R0
        have ok := HR.out.ok
        have hPn : P ≤ n := by have := R0.pl.1; have z : (ndOf c ns).n = ns.length := rfl; have := HNN.out; omega
        have hSn : 1 ≤ S := by have := HA.out.1.iv.sk.lt L P (R0.pl.on ok); have := R0.e; omega
        have lnn : (ndOf c ns).n = n := by have := HNN.out; show ns.length = n; omega
        have HPW := hidOf (show isW (hw P) ∧ ixV (hw P) = (P : Int) ∧ fd c cs P (6 + (L : Int)) = nw (ndOf c ns).n S false from ⟨by unfold isW hw; omega, hw_ix (by omega), by
          have z := HA.out.1.iv.rep.nx L P (R0.pl.on ok)
          rw [live_um R0.pl, R0.e, show ((6 + L : Nat) : Int) = 6 + (L : Int) by omega] at z; exact z⟩)
        obtain ⟨SW, hSW⟩ : ∃ SW, SW = nw (ndOf c ns).n S false := ⟨_, rfl⟩
        rw [← hSW] at HPW e2
        have wS : isW SW := by rw [hSW]; exact nw_word NL.out false
        obtain ⟨PW, hPW⟩ : ∃ PW, PW = hw P := ⟨_, rfl⟩
        obtain ⟨xn, bn, n1, n2, AN⟩ := at_any ns ao n cap P PW HNN.out (by omega) (by rw [hPW]; exact HPW.out.1) (by
          rw [hPW]
          by_cases h0 : 1 ≤ P
          · exact Or.inl ⟨h0, hPn, hw_vl (by omega), hw_ix (by omega)⟩
          · exact Or.inr ⟨by omega, Or.inr ⟨hw_vl (by omega), by rw [hw_ix (by omega)]; omega⟩⟩)
        obtain ⟨xx, bx, x1, x2, AX⟩ := at_any ns ao n cap S SW HNN.out (by omega) wS (by
          rw [hSW]
          by_cases h0 : S ≤ n
          · exact Or.inl ⟨hSn, h0, by rw [nw_vl NL.out]; exact decide_eq_true (by omega), nw_ix NL.out (by omega) false⟩
          · exact Or.inr ⟨by omega, Or.inl (by rw [nw_vl NL.out]; exact decide_eq_false (by omega))⟩)
        obtain ⟨KY, hKY⟩ : ∃ KY, KY = enV true f.ks L := ⟨_, rfl⟩
        rw [← hKY] at e3
    
        have FN := hidOf (show (bn = true → PW ≠ 9223372036854775808 ∧ xn.k < k ∧ (L : Int) < xn.t - xn.m) ∧ (bn = false → PW = 9223372036854775808 ∧ P = 0) from ⟨fun h => by
          obtain ⟨q1, q2, q3⟩ := n1 h
          refine ⟨by rw [hPW]; unfold hw; omega, ?_, ?_⟩
          · rcases R0.pk with z | z
            · omega
            · rw [q3]; exact z
          · have z := R0.pl.2
            have e : (ndOf c ns).um P = (xn.t - xn.m).toNat := by rw [q3]; show (if P = 0 then HN c else ((ns.getD (P - 1) nn0).t - (ns.getD (P - 1) nn0).m).toNat) = _; rw [if_neg (by omega)]
            omega, fun h => by
          have q := n2 h
          have p0 : P = 0 := by omega
          exact ⟨by rw [hPW, p0]; rfl, p0⟩⟩)
        have FX := hidOf (show (bx = true → SW ≠ 0 ∧ k ≤ xx.k ∧ KY = xx.k ∧ (L : Int) < xx.t - xx.m) ∧ (bx = false → SW = 0 ∧ KY = 0) from ⟨fun h => by
          obtain ⟨q1, q2, q3⟩ := x1 h
          have sl := R0.sl (by omega)
          refine ⟨by rw [hSW, nw_hw (by omega)]; unfold hw; omega, by rw [q3]; exact sl.2, by rw [e3, if_pos (by omega), q3]; rfl, ?_⟩
          have z := sl.1.2
          have e : (ndOf c ns).um S = (xx.t - xx.m).toNat := by rw [q3]; show (if S = 0 then HN c else ((ns.getD (S - 1) nn0).t - (ns.getD (S - 1) nn0).m).toNat) = _; rw [if_neg (by omega)]
          omega, fun h => by
          have q := x2 h
          exact ⟨by rw [hSW]; unfold nw; rw [if_neg (by omega)]; rfl, by rw [e3, if_neg (by omega)]⟩⟩)
        have MT := hidOf (show (bn = true → 0 ≤ xn.t ∧ xn.t ≤ 6 ∧ 0 ≤ xn.m ∧ xn.m ≤ xn.t) ∧ (bx = true → 0 ≤ xx.t ∧ xx.t ≤ 6 ∧ 0 ≤ xx.m ∧ xx.m ≤ xx.t) from ⟨fun h => by
          obtain ⟨q1, q2, q3⟩ := n1 h
          have b := HR.out.b (P - 1) (by rw [← HNN.out]; omega)
          rw [← q3] at b; unfold nnB at b; have := RR.out.h1; omega, fun h => by
          obtain ⟨q1, q2, q3⟩ := x1 h
          have b := HR.out.b (S - 1) (by rw [← HNN.out]; omega)
          rw [← q3] at b; unfold nnB at b; have := RR.out.h1; omega⟩)
    
        have NB := hidOf (show ∀ i, i < n → (L : Int) < (ns.getD i nn0).t - (ns.getD i nn0).m → ((ns.getD i nn0).k < k → bn = true ∧ (ns.getD i nn0).k ≤ xn.k) ∧ (k ≤ (ns.getD i nn0).k → bx = true ∧ xx.k ≤ (ns.getD i nn0).k) from fun i hi hl => by
          have lv1 : Live (ndOf c ns) L (i + 1) := ⟨by omega, by show L < ((ns.getD i nn0).t - (ns.getD i nn0).m).toNat; omega⟩
          have ek : (ndOf c ns).K (i + 1) = (ns.getD i nn0).k := rfl
          refine ⟨fun h => ?_, fun h => ?_⟩
          · have le := R0.low ok HA.out.1.iv.sk lv1 (Or.inr (by rw [ek]; exact h))
            have bt : bn = true := by cases hb : bn with | true => rfl | false => exact absurd ⟨by omega, hPn⟩ (n2 hb)
            obtain ⟨q1, q2, q3⟩ := n1 bt
            refine ⟨bt, ?_⟩
            by_cases e : i + 1 = P
            · rw [q3, show P - 1 = i by omega]; exact Int.le_refl _
            · have z := ok.up (i + 1) P (by omega) (by omega) (by omega)
              rw [q3]; exact Int.le_of_lt z
          · have le := R0.high ok HA.out.1.iv.sk lv1 (by omega) (by rw [ek]; exact h)
            have bt : bx = true := by cases hb : bx with | true => rfl | false => exact absurd ⟨hSn, by omega⟩ (x2 hb)
            obtain ⟨q1, q2, q3⟩ := x1 bt
            refine ⟨bt, ?_⟩
            by_cases e : i + 1 = S
            · rw [q3, show S - 1 = i by omega]; exact Int.le_refl _
            · have z := ok.up S (i + 1) (by omega) (by omega) (by omega)
              rw [q3]; exact Int.le_of_lt z)
        rw [← hPW] at HPW e1
        have HE := hidOf (And.intro e1 (And.intro e2 (hKY.symm)))
        have HAN := hidOf (And.intro AN AX)
        have HCC := hidOf HZ.out.2
        clear e1 e2 e3 hKY hPW hSW AN AX n1 n2 x1 x2 R0 hP hS ok hPn hSn lnn
        have CA := hidOf (tpred_any HZ.out.1.st.sf (L : Int))
        rw [HA.out.2, HE.out.1] at CA
        go_wp2_with fail
        refine CA.out.mono ?_
        rintro e w3 ⟨rfl, K3⟩
        have HU3 := hidOf (HZ.out.1.new K3)
        clear CA K3 HZ
        have CA := hidOf (tsucc_any HU3.out.st.sf (L : Int))
        rw [HA.out.2, HE.out.2.1] at CA
        go_wp2_with fail
        refine CA.out.mono ?_
        rintro e w4 ⟨rfl, K4⟩
        have HU4 := hidOf (HU3.out.new K4)
        clear CA K4 HU3
        go_wp2_with fail
        refine (HAN.out.1 _ HU4.out.st.tb (HS.out.new (HX.out.2.trans HU4.out.kp))).mono ?_
        rintro e w5 ⟨rfl, K5⟩
        have HU5 := hidOf (HU4.out.new K5)
        clear K5 HU4
        obtain ⟨nb, hnb⟩ : ∃ nb, nb = w5.heap.size := ⟨_, rfl⟩
        go_upto_region 11 with (fail)
        rw [← hnb]
        refine gen_world (fun U => Fw w1.heap.size w1 U fb gb m p r c g f cs cnt a ∧ RW 34 U nb #[.int .u64 xn.k, .int .u64 xn.v, .int .i64 xn.t, .int .i64 xn.m, .bool xn.d]) ?_ ?_
        · rw [hnb]; exact ⟨HU5.out.new ((Kept.refl [] w5).alloc _), RW.new 34 w5 #[.int .u64 xn.k, .int .u64 xn.v, .int .i64 xn.t, .int .i64 xn.m, .bool xn.d]⟩
        clear hnb HU5
        rintro U ⟨UL, UB⟩
        have HU := hidOf (And.intro UL UB)
        clear UL UB
        go_wp2_with fail
        refine (HAN.out.2 _ HU.out.1.st.tb (HS.out.new (HX.out.2.trans HU.out.1.kp))).mono ?_
        rintro e w6 ⟨rfl, K6⟩
        have HU6 := hidOf (And.intro (HU.out.1.new K6) (HU.out.2.kept K6 (by simp)))
        clear K6 HU HAN
        obtain ⟨xb, hxb⟩ : ∃ xb, xb = w6.heap.size := ⟨_, rfl⟩
        go_upto_region 12 with (fail)
        rw [← hxb]
        refine gen_world (fun U => Fw w1.heap.size w1 U fb gb m p r c g f cs cnt a ∧ RW 34 U nb #[.int .u64 xn.k, .int .u64 xn.v, .int .i64 xn.t, .int .i64 xn.m, .bool xn.d] ∧ RW 34 U xb #[.int .u64 xx.k, .int .u64 xx.v, .int .i64 xx.t, .int .i64 xx.m, .bool xx.d]) ?_ ?_
        · rw [hxb]; exact ⟨HU6.out.1.new ((Kept.refl [] w6).alloc _), HU6.out.2.kept ((Kept.refl [] w6).alloc _) (by simp), RW.new 34 w6 #[.int .u64 xx.k, .int .u64 xx.v, .int .i64 xx.t, .int .i64 xx.m, .bool xx.d]⟩
        clear hxb HU6
        rintro U ⟨UL, UB, UX⟩
        have HU := hidOf (And.intro UL (And.intro UB UX))
        clear UL UB UX
        go_cut [36, 87] from 36 to 184 (fun s36 s87 V => s36 = .int .i64 L ∧ s87 = .bool false ∧ ∃ a2, Fw w1.heap.size w1 V fb gb m p r c g f cs (cnt + 1) a2 ∧ RW 34 V nb #[.int .u64 xn.k, .int .u64 xn.v, .int .i64 xn.t, .int .i64 xn.m, .bool xn.d] ∧ RW 34 V xb #[.int .u64 xx.k, .int .u64 xx.v, .int .i64 xx.t, .int .i64 xx.m, .bool xx.d])
        case first =>
          have z0 := cell_of_blk HU.out.2.1 (i := 0) (v := .int .u64 xn.k) rfl
          have z2 := cell_of_blk HU.out.2.1 (i := 2) (v := .int .i64 xn.t) rfl
          have z3 := cell_of_blk HU.out.2.1 (i := 3) (v := .int .i64 xn.m) rfl
          cases bn with
          | false =>
            have hp := (FN.out.2 rfl).1
            have hpb : (PW != 9223372036854775808) = false := by simp [hp]
            have HPE := hidOf hp
            clear hp z0 z2 z3
            go_wp2_with fail
            refine (head_any _ HU.out.1.st.tb).mono ?_
            rintro e w7 ⟨rfl, K7⟩
            have HU7 := hidOf (And.intro (HU.out.1.new K7) (And.intro (HU.out.2.1.kept K7 (by simp)) (HU.out.2.2.kept K7 (by simp))))
            clear K7 HU
            have HU := HU7
            clear HU7
            have LD := hidOf (HU.out.1.load PW (6 + (L : Int)) HPW.out.1 (by have := HCC.out; omega))
            rw [HPW.out.2.1, HPW.out.2.2] at LD
            go_wp2_with fail
            refine LD.out.mono ?_
            rintro e w8 ⟨a8, rfl, Z8, K8⟩
            have NN := hidOf (And.intro (nin2 (fun e => blk_ne HU.out.2.1 HU.out.1.st.mm.bk.st (by decide) e) (fun e => blk_ne HU.out.2.1 HU.out.1.st.mm.bk.row (by decide) e)) (nin2 (fun e => blk_ne HU.out.2.2 HU.out.1.st.mm.bk.st (by decide) e) (fun e => blk_ne HU.out.2.2 HU.out.1.st.mm.bk.row (by decide) e)))
            have HU8 := hidOf (And.intro Z8 (And.intro (HU.out.2.1.kept K8 NN.out.1) (HU.out.2.2.kept K8 NN.out.2)))
            clear LD Z8 K8 NN HU
            go_wp2
            go_meet
            case rel => exact ⟨rfl, rfl, a8, HU8.out⟩
          | true =>
            obtain ⟨f1, f2, f3⟩ := FN.out.1 rfl
            obtain ⟨g1, g2, g3, g4⟩ := MT.out.1 rfl
            have hpb : (PW != 9223372036854775808) = true := by simp [f1]
            have HF1 := hidOf f1
            clear f1
            go_wp2_with fail
            refine (head_any _ HU.out.1.st.tb).mono ?_
            rintro e w7 ⟨rfl, K7⟩
            have HU7 := hidOf (And.intro (HU.out.1.new K7) (And.intro (HU.out.2.1.kept K7 (by simp)) (HU.out.2.2.kept K7 (by simp))))
            have z0 := cell_of_blk HU7.out.2.1 (i := 0) (v := .int .u64 xn.k) rfl
            have z2 := cell_of_blk HU7.out.2.1 (i := 2) (v := .int .i64 xn.t) rfl
            have z3 := cell_of_blk HU7.out.2.1 (i := 3) (v := .int .i64 xn.m) rfl
            clear K7 HU
            have HU := HU7
            clear HU7
            have LD := hidOf (HU.out.1.load PW (6 + (L : Int)) HPW.out.1 (by have := HCC.out; omega))
            rw [HPW.out.2.1, HPW.out.2.2] at LD
            go_wp2_with fail
            refine LD.out.mono ?_
            rintro e w8 ⟨a8, rfl, Z8, K8⟩
            have NN := hidOf (And.intro (nin2 (fun e => blk_ne HU.out.2.1 HU.out.1.st.mm.bk.st (by decide) e) (fun e => blk_ne HU.out.2.1 HU.out.1.st.mm.bk.row (by decide) e)) (nin2 (fun e => blk_ne HU.out.2.2 HU.out.1.st.mm.bk.st (by decide) e) (fun e => blk_ne HU.out.2.2 HU.out.1.st.mm.bk.row (by decide) e)))
            have HU8 := hidOf (And.intro Z8 (And.intro (HU.out.2.1.kept K8 NN.out.1) (HU.out.2.2.kept K8 NN.out.2)))
            clear LD Z8 K8 NN HU
            go_wp2
            go_meet
            case rel => exact ⟨rfl, by rw [decide_eq_false (by omega), decide_eq_false (by omega)]; rfl, a8, HU8.out⟩
        case rest =>
          obtain ⟨rfl, rfl, a2, UL, UB, UX⟩ := hcut
          clear HU
          have HU := hidOf (And.intro UL (And.intro UB UX))
          clear UL UB UX
          go_upto_region 14 with (fail)
          go_cut [36, 126] from 36 to 184 (fun s36 s126 V => s36 = .int .i64 L ∧ s126 = .bool false ∧ Fw w1.heap.size w1 V fb gb m p r c g f cs (cnt + 1) a2 ∧ RW 34 V nb #[.int .u64 xn.k, .int .u64 xn.v, .int .i64 xn.t, .int .i64 xn.m, .bool xn.d] ∧ RW 34 V xb #[.int .u64 xx.k, .int .u64 xx.v, .int .i64 xx.t, .int .i64 xx.m, .bool xx.d])
          case first =>
            have SX : Hid (∀ W' : World, Kept [] wc W' → W'.cell? ⟨xb, 0, none⟩ = some (.int .u64 xx.k) ∧ W'.cell? ⟨xb, 2, none⟩ = some (.int .i64 xx.t) ∧ W'.cell? ⟨xb, 3, none⟩ = some (.int .i64 xx.m)) := hidOf (by
              intro W' kk
              have y := HU.out.2.2.kept kk (by simp)
              exact ⟨cell_of_blk y (i := 0) rfl, cell_of_blk y (i := 2) rfl, cell_of_blk y (i := 3) rfl⟩)
            have KE := hidOf (fun (Y : World) (kk : Kept [] wc Y) => (show Calls Tryd.prog 16 #[.pointer (some ⟨fb, 0, none⟩), .int .i64 (L : Int)] Y fun e w' => e = .returned (.int .u64 KY) ∧ Kept [] wc w' from by
              have z := tkey_any (HU.out.1.new kk).st.sf (L : Int)
              rw [HA.out.2, HE.out.2.2] at z
              exact z.mono fun _ _ hh => ⟨hh.1, kk.trans hh.2⟩))
            cases bx with
            | true =>
              obtain ⟨f1, f2, f3, f4⟩ := FX.out.1 rfl
              obtain ⟨g1, g2, g3, g4⟩ := MT.out.2 rfl
              have hsb : (SW != 0) = true := by simp [f1]
              have hsb2 : (SW == 0) = false := by simp [f1]
              have hsb3 : decide (SW = 0) = false := by simp [f1]
              have hsb4 : ¬ SW = 0 := f1
              have hwr : IntKind.i64.wrap (xx.t - xx.m) = xx.t - xx.m := by rw [IntKind.wrap_i64]; omega
              have d1 : decide (xx.k < k) = false := by simp; omega
              have d2 : decide (xx.t - xx.m ≤ (L : Int)) = false := by simp; omega
              have d2w : decide (IntKind.i64.wrap (xx.t - xx.m) ≤ (L : Int)) = false := by rw [show IntKind.i64.wrap (xx.t - xx.m) = xx.t - xx.m by rw [IntKind.wrap_i64]; omega]; exact d2
              have d3 : (xx.k != KY) = false := by simp [f3]
              have d4 : (xx.k == KY) = true := by simp [f3]
              have HF1 := hidOf f3
              clear f3 f1
              refine wp_region_held_drew (S := fun W' => Kept [] wc W' ∧ W'.cell? ⟨xb, 0, none⟩ = some (.int .u64 xx.k) ∧ W'.cell? ⟨xb, 2, none⟩ = some (.int .i64 xx.t) ∧ W'.cell? ⟨xb, 3, none⟩ = some (.int .i64 xx.m)) (by kernel_rfl) ⟨(Kept.refl _ _).drew, SX.out _ (Kept.refl _ _).drew⟩ (fun hS => ?_)
              refine wpAnyH_take (i := 0) (oi := { dst := some 88, op := Op.move (Operand.tmp 12), type := 25, pos := "law.go:118", after := #[], guard := none }) (v := .int .u64 SW) rfl (by kernel_rfl) (by kernel_rfl) (by kernel_rfl) (fun _ _ _ h => h) (Or.inl ⟨by rfl, fun w hSw => by obtain ⟨_, h0, h2, h3⟩ := hSw; go_simp⟩) hS ?_
              try simp only [Act.put, List.setIfInBounds_toArray, List.set_cons_zero, List.set_cons_succ]
              refine wpAnyH_take (i := 1) (oi := { dst := some 89, op := Op.binOp BinOp.neq 25 (Operand.tmp 88) (Operand.const (Value.int IntKind.u64 0)) 25, type := 4, pos := "law.go:118", after := #[{ on := 0, ground := Ground.data }], guard := none }) (v := .bool true) rfl (by kernel_rfl) (by kernel_rfl) (by kernel_rfl) (fun _ _ _ h => h) (Or.inl ⟨by rfl, fun w hSw => by obtain ⟨_, h0, h2, h3⟩ := hSw; go_simp⟩) hS ?_
              try simp only [Act.put, List.setIfInBounds_toArray, List.set_cons_zero, List.set_cons_succ]
              refine wpAnyH_take (i := 2) (oi := { dst := some 90, op := Op.move (Operand.tmp 89), type := 4, pos := "law.go:118", after := #[{ on := 1, ground := Ground.data }], guard := none }) (v := .bool true) rfl (by kernel_rfl) (by kernel_rfl) (by kernel_rfl) (fun _ _ _ h => h) (Or.inl ⟨by rfl, fun w hSw => by obtain ⟨_, h0, h2, h3⟩ := hSw; go_simp⟩) hS ?_
              try simp only [Act.put, List.setIfInBounds_toArray, List.set_cons_zero, List.set_cons_succ]
              refine wpAnyH_take (i := 3) (oi := { dst := some 91, op := Op.move (Operand.tmp 16), type := 4, pos := "law.go:118", after := #[{ on := 2, ground := Ground.guard }], guard := some (2, true) }) (v := .bool true) rfl (by kernel_rfl) (by kernel_rfl) (by kernel_rfl) (fun _ _ _ h => h) (Or.inl ⟨by rfl, fun w hSw => by obtain ⟨_, h0, h2, h3⟩ := hSw; go_simp⟩) hS ?_
              try simp only [Act.put, List.setIfInBounds_toArray, List.set_cons_zero, List.set_cons_succ]
              refine wpAnyH_take (i := 4) (oi := { dst := some 92, op := Op.unOp UnOp.not 4 (Operand.tmp 91), type := 4, pos := "law.go:118", after := #[{ on := 3, ground := Ground.data }, { on := 2, ground := Ground.guard }], guard := some (2, true) }) (v := .bool false) rfl (by kernel_rfl) (by kernel_rfl) (by kernel_rfl) (fun _ _ _ h => h) (Or.inl ⟨by rfl, fun w hSw => by obtain ⟨_, h0, h2, h3⟩ := hSw; go_simp⟩) hS ?_
              try simp only [Act.put, List.setIfInBounds_toArray, List.set_cons_zero, List.set_cons_succ]
              refine wpAnyH_take (i := 5) (oi := { dst := some 93, op := Op.move (Operand.tmp 92), type := 4, pos := "law.go:118", after := #[{ on := 4, ground := Ground.data }, { on := 2, ground := Ground.chain }, { on := 2, ground := Ground.guard }], guard := some (2, true) }) (v := .bool false) rfl (by kernel_rfl) (by kernel_rfl) (by kernel_rfl) (fun _ _ _ h => h) (Or.inl ⟨by rfl, fun w hSw => by obtain ⟨_, h0, h2, h3⟩ := hSw; go_simp⟩) hS ?_
              try simp only [Act.put, List.setIfInBounds_toArray, List.set_cons_zero, List.set_cons_succ]
              refine wpAnyH_take (i := 6) (oi := { dst := some 94, op := Op.fieldAddr 34 (Operand.tmp 15) 0, type := 0, pos := "law.go:118", after := #[{ on := 5, ground := Ground.guard }], guard := some (5, false) }) (v := .pointer (some ⟨xb, 0, none⟩)) rfl (by kernel_rfl) (by kernel_rfl) (by kernel_rfl) (fun _ _ _ h => h) (Or.inl ⟨by rfl, fun w hSw => by obtain ⟨_, h0, h2, h3⟩ := hSw; go_simp⟩) hS ?_
              try simp only [Act.put, List.setIfInBounds_toArray, List.set_cons_zero, List.set_cons_succ]
              refine wpAnyH_take (i := 7) (oi := { dst := some 95, op := Op.load 25 (Operand.tmp 94), type := 25, pos := "law.go:118", after := #[{ on := 6, ground := Ground.data }, { on := 5, ground := Ground.guard }], guard := some (5, false) }) (v := .int .u64 xx.k) rfl (by kernel_rfl) (by kernel_rfl) (by kernel_rfl) (fun _ _ _ h => h) (Or.inl ⟨by rfl, fun w hSw => by obtain ⟨_, h0, h2, h3⟩ := hSw; go_simp⟩) hS ?_
              try simp only [Act.put, List.setIfInBounds_toArray, List.set_cons_zero, List.set_cons_succ]
              refine wpAnyH_take (i := 8) (oi := { dst := some 96, op := Op.move (Operand.tmp 2), type := 25, pos := "law.go:118", after := #[{ on := 5, ground := Ground.guard }], guard := some (5, false) }) (v := .int .u64 k) rfl (by kernel_rfl) (by kernel_rfl) (by kernel_rfl) (fun _ _ _ h => h) (Or.inl ⟨by rfl, fun w hSw => by obtain ⟨_, h0, h2, h3⟩ := hSw; go_simp⟩) hS ?_
              try simp only [Act.put, List.setIfInBounds_toArray, List.set_cons_zero, List.set_cons_succ]
              refine wpAnyH_take (i := 9) (oi := { dst := some 97, op := Op.binOp BinOp.lss 25 (Operand.tmp 95) (Operand.tmp 96) 25, type := 4, pos := "law.go:118", after := #[{ on := 7, ground := Ground.data }, { on := 8, ground := Ground.data }, { on := 5, ground := Ground.guard }], guard := some (5, false) }) (v := .bool false) rfl (by kernel_rfl) (by kernel_rfl) (by kernel_rfl) (fun _ _ _ h => h) (Or.inl ⟨by rfl, fun w hSw => by obtain ⟨_, h0, h2, h3⟩ := hSw; go_simp⟩) hS ?_
              try simp only [Act.put, List.setIfInBounds_toArray, List.set_cons_zero, List.set_cons_succ]
              refine wpAnyH_take (i := 10) (oi := { dst := some 98, op := Op.pick (Operand.tmp 93) (Operand.const (Value.bool true)) (Operand.tmp 97), type := 4, pos := "law.go:118", after := #[{ on := 5, ground := Ground.data }, { on := 9, ground := Ground.data }, { on := 2, ground := Ground.guard }], guard := some (2, true) }) (v := .bool false) rfl (by kernel_rfl) (by kernel_rfl) (by kernel_rfl) (fun _ _ _ h => h) (Or.inl ⟨by rfl, fun w hSw => by obtain ⟨_, h0, h2, h3⟩ := hSw; go_simp⟩) hS ?_
              try simp only [Act.put, List.setIfInBounds_toArray, List.set_cons_zero, List.set_cons_succ]
              refine wpAnyH_take (i := 11) (oi := { dst := some 99, op := Op.move (Operand.tmp 98), type := 4, pos := "law.go:118", after := #[{ on := 10, ground := Ground.data }, { on := 5, ground := Ground.chain }, { on := 2, ground := Ground.guard }], guard := some (2, true) }) (v := .bool false) rfl (by kernel_rfl) (by kernel_rfl) (by kernel_rfl) (fun _ _ _ h => h) (Or.inl ⟨by rfl, fun w hSw => by obtain ⟨_, h0, h2, h3⟩ := hSw; go_simp⟩) hS ?_
              try simp only [Act.put, List.setIfInBounds_toArray, List.set_cons_zero, List.set_cons_succ]
              refine wpAnyH_take (i := 12) (oi := { dst := some 100, op := Op.fieldAddr 34 (Operand.tmp 15) 0, type := 0, pos := "law.go:118", after := #[{ on := 11, ground := Ground.guard }], guard := some (11, false) }) (v := .pointer (some ⟨xb, 0, none⟩)) rfl (by kernel_rfl) (by kernel_rfl) (by kernel_rfl) (fun _ _ _ h => h) (Or.inl ⟨by rfl, fun w hSw => by obtain ⟨_, h0, h2, h3⟩ := hSw; go_simp⟩) hS ?_
              try simp only [Act.put, List.setIfInBounds_toArray, List.set_cons_zero, List.set_cons_succ]
              refine wpAnyH_take (i := 13) (oi := { dst := some 101, op := Op.load 25 (Operand.tmp 100), type := 25, pos := "law.go:118", after := #[{ on := 12, ground := Ground.data }, { on := 11, ground := Ground.guard }], guard := some (11, false) }) (v := .int .u64 xx.k) rfl (by kernel_rfl) (by kernel_rfl) (by kernel_rfl) (fun _ _ _ h => h) (Or.inl ⟨by rfl, fun w hSw => by obtain ⟨_, h0, h2, h3⟩ := hSw; go_simp⟩) hS ?_
              try simp only [Act.put, List.setIfInBounds_toArray, List.set_cons_zero, List.set_cons_succ]
              refine wpAnyH_take (i := 14) (oi := { dst := some 102, op := Op.move (Operand.tmp 8), type := 29, pos := "law.go:118", after := #[{ on := 11, ground := Ground.guard }], guard := some (11, false) }) (v := .pointer (some ⟨fb, 0, none⟩)) rfl (by kernel_rfl) (by kernel_rfl) (by kernel_rfl) (fun _ _ _ h => h) (Or.inl ⟨by rfl, fun w hSw => by obtain ⟨_, h0, h2, h3⟩ := hSw; go_simp⟩) hS ?_
              try simp only [Act.put, List.setIfInBounds_toArray, List.set_cons_zero, List.set_cons_succ]
              refine wpAnyH_take (i := 15) (oi := { dst := some 103, op := Op.move (Operand.tmp 10), type := 3, pos := "law.go:118", after := #[{ on := 11, ground := Ground.guard }], guard := some (11, false) }) (v := .int .i64 (L : Int)) rfl (by kernel_rfl) (by kernel_rfl) (by kernel_rfl) (fun _ _ _ h => h) (Or.inl ⟨by rfl, fun w hSw => by obtain ⟨_, h0, h2, h3⟩ := hSw; go_simp⟩) hS ?_
              try simp only [Act.put, List.setIfInBounds_toArray, List.set_cons_zero, List.set_cons_succ]
              refine wpAnyH_ready (rs := [16]) (by kernel_rfl) (by simp) ?_
              refine AllReadyH.cons (o := { dst := some 104, op := Op.call { callee := Callee.value (Operand.func 16), args := #[Operand.tmp 102, Operand.tmp 103], argTypes := #[29, 3] }, type := 25, pos := "law.go:118", after := #[{ on := 14, ground := Ground.data }, { on := 15, ground := Ground.data }, { on := 11, ground := Ground.chain }, { on := 11, ground := Ground.guard }], guard := some (11, false) }) rfl (fun K hK => ?_) AllReadyH.nil
              rw [if_pos (by rfl)]
              refine wp_calls 16 #[.pointer (some ⟨fb, 0, none⟩), .int .i64 (L : Int)] (by kernel_rfl) (fun v V => v = .int .u64 KY ∧ Kept [] wc V) ((KE.out _ hS.1).mono fun e w' hh => ⟨_, hh.1, rfl, hh.2⟩) ?_
              rintro _ w9 ⟨rfl, K9⟩
              try simp only [Act.put, List.setIfInBounds_toArray, List.set_cons_zero, List.set_cons_succ]
              refine hK.out _ _ (⟨K9, SX.out _ K9⟩) (fun hS => ?_)
              clear hK K
              refine wpAnyH_take (i := 17) (oi := { dst := some 105, op := Op.binOp BinOp.neq 25 (Operand.tmp 101) (Operand.tmp 104) 25, type := 4, pos := "law.go:118", after := #[{ on := 13, ground := Ground.data }, { on := 16, ground := Ground.data }, { on := 11, ground := Ground.guard }], guard := some (11, false) }) (v := .bool false) rfl (by kernel_rfl) (by kernel_rfl) (by kernel_rfl) (fun _ _ _ h => h) (Or.inl ⟨by rfl, fun w hSw => by obtain ⟨_, h0, h2, h3⟩ := hSw; go_simp⟩) hS ?_
              try simp only [Act.put, List.setIfInBounds_toArray, List.set_cons_zero, List.set_cons_succ]
              refine wpAnyH_take (i := 18) (oi := { dst := some 106, op := Op.pick (Operand.tmp 99) (Operand.const (Value.bool true)) (Operand.tmp 105), type := 4, pos := "law.go:118", after := #[{ on := 11, ground := Ground.data }, { on := 17, ground := Ground.data }, { on := 2, ground := Ground.guard }], guard := some (2, true) }) (v := .bool false) rfl (by kernel_rfl) (by kernel_rfl) (by kernel_rfl) (fun _ _ _ h => h) (Or.inl ⟨by rfl, fun w hSw => by obtain ⟨_, h0, h2, h3⟩ := hSw; go_simp⟩) hS ?_
              try simp only [Act.put, List.setIfInBounds_toArray, List.set_cons_zero, List.set_cons_succ]
              refine wpAnyH_take (i := 19) (oi := { dst := some 107, op := Op.move (Operand.tmp 106), type := 4, pos := "law.go:118", after := #[{ on := 18, ground := Ground.data }, { on := 16, ground := Ground.chain }, { on := 2, ground := Ground.guard }], guard := some (2, true) }) (v := .bool false) rfl (by kernel_rfl) (by kernel_rfl) (by kernel_rfl) (fun _ _ _ h => h) (Or.inl ⟨by rfl, fun w hSw => by obtain ⟨_, h0, h2, h3⟩ := hSw; go_simp⟩) hS ?_
              try simp only [Act.put, List.setIfInBounds_toArray, List.set_cons_zero, List.set_cons_succ]
              refine wpAnyH_take (i := 20) (oi := { dst := some 108, op := Op.fieldAddr 34 (Operand.tmp 15) 2, type := 0, pos := "law.go:118", after := #[{ on := 19, ground := Ground.guard }], guard := some (19, false) }) (v := .pointer (some ⟨xb, 2, none⟩)) rfl (by kernel_rfl) (by kernel_rfl) (by kernel_rfl) (fun _ _ _ h => h) (Or.inl ⟨by rfl, fun w hSw => by obtain ⟨_, h0, h2, h3⟩ := hSw; go_simp⟩) hS ?_
              try simp only [Act.put, List.setIfInBounds_toArray, List.set_cons_zero, List.set_cons_succ]
              refine wpAnyH_take (i := 21) (oi := { dst := some 109, op := Op.load 3 (Operand.tmp 108), type := 3, pos := "law.go:118", after := #[{ on := 20, ground := Ground.data }, { on := 19, ground := Ground.guard }], guard := some (19, false) }) (v := .int .i64 xx.t) rfl (by kernel_rfl) (by kernel_rfl) (by kernel_rfl) (fun _ _ _ h => h) (Or.inl ⟨by rfl, fun w hSw => by obtain ⟨_, h0, h2, h3⟩ := hSw; go_simp⟩) hS ?_
              try simp only [Act.put, List.setIfInBounds_toArray, List.set_cons_zero, List.set_cons_succ]
              refine wpAnyH_take (i := 22) (oi := { dst := some 110, op := Op.fieldAddr 34 (Operand.tmp 15) 3, type := 0, pos := "law.go:118", after := #[{ on := 19, ground := Ground.guard }], guard := some (19, false) }) (v := .pointer (some ⟨xb, 3, none⟩)) rfl (by kernel_rfl) (by kernel_rfl) (by kernel_rfl) (fun _ _ _ h => h) (Or.inl ⟨by rfl, fun w hSw => by obtain ⟨_, h0, h2, h3⟩ := hSw; go_simp⟩) hS ?_
              try simp only [Act.put, List.setIfInBounds_toArray, List.set_cons_zero, List.set_cons_succ]
              refine wpAnyH_take (i := 23) (oi := { dst := some 111, op := Op.load 3 (Operand.tmp 110), type := 3, pos := "law.go:118", after := #[{ on := 22, ground := Ground.data }, { on := 19, ground := Ground.guard }], guard := some (19, false) }) (v := .int .i64 xx.m) rfl (by kernel_rfl) (by kernel_rfl) (by kernel_rfl) (fun _ _ _ h => h) (Or.inl ⟨by rfl, fun w hSw => by obtain ⟨_, h0, h2, h3⟩ := hSw; go_simp⟩) hS ?_
              try simp only [Act.put, List.setIfInBounds_toArray, List.set_cons_zero, List.set_cons_succ]
              refine wpAnyH_take (i := 24) (oi := { dst := some 112, op := Op.binOp BinOp.sub 3 (Operand.tmp 109) (Operand.tmp 111) 3, type := 3, pos := "law.go:118", after := #[{ on := 21, ground := Ground.data }, { on := 23, ground := Ground.data }, { on := 19, ground := Ground.guard }], guard := some (19, false) }) (v := .int .i64 (xx.t - xx.m)) rfl (by kernel_rfl) (by kernel_rfl) (by kernel_rfl) (fun _ _ _ h => h) (Or.inl ⟨by rfl, fun w hSw => by obtain ⟨_, h0, h2, h3⟩ := hSw; go_simp⟩) hS ?_
              try simp only [Act.put, List.setIfInBounds_toArray, List.set_cons_zero, List.set_cons_succ]
              refine wpAnyH_take (i := 25) (oi := { dst := some 113, op := Op.move (Operand.tmp 10), type := 3, pos := "law.go:118", after := #[{ on := 19, ground := Ground.guard }], guard := some (19, false) }) (v := .int .i64 (L : Int)) rfl (by kernel_rfl) (by kernel_rfl) (by kernel_rfl) (fun _ _ _ h => h) (Or.inl ⟨by rfl, fun w hSw => by obtain ⟨_, h0, h2, h3⟩ := hSw; go_simp⟩) hS ?_
              try simp only [Act.put, List.setIfInBounds_toArray, List.set_cons_zero, List.set_cons_succ]
              refine wpAnyH_take (i := 26) (oi := { dst := some 114, op := Op.binOp BinOp.leq 3 (Operand.tmp 112) (Operand.tmp 113) 3, type := 4, pos := "law.go:118", after := #[{ on := 24, ground := Ground.data }, { on := 25, ground := Ground.data }, { on := 19, ground := Ground.guard }], guard := some (19, false) }) (v := .bool false) rfl (by kernel_rfl) (by kernel_rfl) (by kernel_rfl) (fun _ _ _ h => h) (Or.inl ⟨by rfl, fun w hSw => by obtain ⟨_, h0, h2, h3⟩ := hSw; go_simp⟩) hS ?_
              try simp only [Act.put, List.setIfInBounds_toArray, List.set_cons_zero, List.set_cons_succ]
              refine wpAnyH_take (i := 27) (oi := { dst := some 115, op := Op.pick (Operand.tmp 107) (Operand.const (Value.bool true)) (Operand.tmp 114), type := 4, pos := "law.go:118", after := #[{ on := 19, ground := Ground.data }, { on := 26, ground := Ground.data }, { on := 2, ground := Ground.guard }], guard := some (2, true) }) (v := .bool false) rfl (by kernel_rfl) (by kernel_rfl) (by kernel_rfl) (fun _ _ _ h => h) (Or.inl ⟨by rfl, fun w hSw => by obtain ⟨_, h0, h2, h3⟩ := hSw; go_simp⟩) hS ?_
              try simp only [Act.put, List.setIfInBounds_toArray, List.set_cons_zero, List.set_cons_succ]
              refine wpAnyH_take (i := 28) (oi := { dst := some 116, op := Op.pick (Operand.tmp 90) (Operand.tmp 115) (Operand.const (Value.bool false)), type := 4, pos := "law.go:118", after := #[{ on := 2, ground := Ground.data }, { on := 27, ground := Ground.data }], guard := none }) (v := .bool false) rfl (by kernel_rfl) (by kernel_rfl) (by kernel_rfl) (fun _ _ _ h => h) (Or.inl ⟨by rfl, fun w hSw => by obtain ⟨_, h0, h2, h3⟩ := hSw; go_simp⟩) hS ?_
              try simp only [Act.put, List.setIfInBounds_toArray, List.set_cons_zero, List.set_cons_succ]
              refine wpAnyH_take (i := 29) (oi := { dst := some 117, op := Op.move (Operand.tmp 116), type := 4, pos := "law.go:118", after := #[{ on := 28, ground := Ground.data }, { on := 19, ground := Ground.chain }], guard := none }) (v := .bool false) rfl (by kernel_rfl) (by kernel_rfl) (by kernel_rfl) (fun _ _ _ h => h) (Or.inl ⟨by rfl, fun w hSw => by obtain ⟨_, h0, h2, h3⟩ := hSw; go_simp⟩) hS ?_
              try simp only [Act.put, List.setIfInBounds_toArray, List.set_cons_zero, List.set_cons_succ]
              refine wpAnyH_take (i := 30) (oi := { dst := some 118, op := Op.move (Operand.tmp 12), type := 25, pos := "law.go:118", after := #[{ on := 29, ground := Ground.guard }], guard := some (29, false) }) (v := .int .u64 SW) rfl (by kernel_rfl) (by kernel_rfl) (by kernel_rfl) (fun _ _ _ h => h) (Or.inl ⟨by rfl, fun w hSw => by obtain ⟨_, h0, h2, h3⟩ := hSw; go_simp⟩) hS ?_
              try simp only [Act.put, List.setIfInBounds_toArray, List.set_cons_zero, List.set_cons_succ]
              refine wpAnyH_take (i := 31) (oi := { dst := some 119, op := Op.binOp BinOp.eql 25 (Operand.tmp 118) (Operand.const (Value.int IntKind.u64 0)) 25, type := 4, pos := "law.go:118", after := #[{ on := 30, ground := Ground.data }, { on := 29, ground := Ground.guard }], guard := some (29, false) }) (v := .bool false) rfl (by kernel_rfl) (by kernel_rfl) (by kernel_rfl) (fun _ _ _ h => h) (Or.inl ⟨by rfl, fun w hSw => by obtain ⟨_, h0, h2, h3⟩ := hSw; go_simp⟩) hS ?_
              try simp only [Act.put, List.setIfInBounds_toArray, List.set_cons_zero, List.set_cons_succ]
              refine wpAnyH_take (i := 32) (oi := { dst := some 120, op := Op.move (Operand.tmp 119), type := 4, pos := "law.go:118", after := #[{ on := 31, ground := Ground.data }, { on := 29, ground := Ground.chain }, { on := 29, ground := Ground.guard }], guard := some (29, false) }) (v := .bool false) rfl (by kernel_rfl) (by kernel_rfl) (by kernel_rfl) (fun _ _ _ h => h) (Or.inl ⟨by rfl, fun w hSw => by obtain ⟨_, h0, h2, h3⟩ := hSw; go_simp⟩) hS ?_
              try simp only [Act.put, List.setIfInBounds_toArray, List.set_cons_zero, List.set_cons_succ]
              refine wpAnyH_take (i := 33) (oi := { dst := some 121, op := Op.move (Operand.tmp 8), type := 29, pos := "law.go:118", after := #[{ on := 32, ground := Ground.guard }], guard := some (32, true) }) (v := undef) rfl (by kernel_rfl) (by kernel_rfl) (by kernel_rfl) (fun _ _ _ h => h) (Or.inr ⟨by kernel_rfl, rfl⟩) hS ?_
              try simp only [Act.put, List.setIfInBounds_toArray, List.set_cons_zero, List.set_cons_succ]
              refine wpAnyH_take (i := 34) (oi := { dst := some 122, op := Op.move (Operand.tmp 10), type := 3, pos := "law.go:118", after := #[{ on := 32, ground := Ground.guard }], guard := some (32, true) }) (v := undef) rfl (by kernel_rfl) (by kernel_rfl) (by kernel_rfl) (fun _ _ _ h => h) (Or.inr ⟨by kernel_rfl, rfl⟩) hS ?_
              try simp only [Act.put, List.setIfInBounds_toArray, List.set_cons_zero, List.set_cons_succ]
              refine wpAnyH_take (i := 35) (oi := { dst := some 123, op := Op.call { callee := Callee.value (Operand.func 16), args := #[Operand.tmp 121, Operand.tmp 122], argTypes := #[29, 3] }, type := 25, pos := "law.go:118", after := #[{ on := 33, ground := Ground.data }, { on := 34, ground := Ground.data }, { on := 32, ground := Ground.chain }, { on := 32, ground := Ground.guard }], guard := some (32, true) }) (v := undef) rfl (by kernel_rfl) (by kernel_rfl) (by kernel_rfl) (fun _ _ _ h => h) (Or.inr ⟨by kernel_rfl, rfl⟩) hS ?_
              try simp only [Act.put, List.setIfInBounds_toArray, List.set_cons_zero, List.set_cons_succ]
              refine wpAnyH_take (i := 36) (oi := { dst := some 124, op := Op.binOp BinOp.neq 25 (Operand.tmp 123) (Operand.const (Value.int IntKind.u64 0)) 25, type := 4, pos := "law.go:118", after := #[{ on := 35, ground := Ground.data }, { on := 32, ground := Ground.guard }], guard := some (32, true) }) (v := undef) rfl (by kernel_rfl) (by kernel_rfl) (by kernel_rfl) (fun _ _ _ h => h) (Or.inr ⟨by kernel_rfl, rfl⟩) hS ?_
              try simp only [Act.put, List.setIfInBounds_toArray, List.set_cons_zero, List.set_cons_succ]
              refine wpAnyH_take (i := 37) (oi := { dst := some 125, op := Op.pick (Operand.tmp 120) (Operand.tmp 124) (Operand.const (Value.bool false)), type := 4, pos := "law.go:118", after := #[{ on := 32, ground := Ground.data }, { on := 36, ground := Ground.data }, { on := 29, ground := Ground.guard }], guard := some (29, false) }) (v := .bool false) rfl (by kernel_rfl) (by kernel_rfl) (by kernel_rfl) (fun _ _ _ h => h) (Or.inl ⟨by rfl, fun w hSw => by obtain ⟨_, h0, h2, h3⟩ := hSw; go_simp⟩) hS ?_
              try simp only [Act.put, List.setIfInBounds_toArray, List.set_cons_zero, List.set_cons_succ]
              refine wpAnyH_take (i := 38) (oi := { dst := some 126, op := Op.pick (Operand.tmp 117) (Operand.const (Value.bool true)) (Operand.tmp 125), type := 4, pos := "law.go:118", after := #[{ on := 29, ground := Ground.data }, { on := 37, ground := Ground.data }], guard := none }) (v := .bool false) rfl (by kernel_rfl) (by kernel_rfl) (by kernel_rfl) (fun _ _ _ h => h) (Or.inl ⟨by rfl, fun w hSw => by obtain ⟨_, h0, h2, h3⟩ := hSw; go_simp⟩) hS ?_
              try simp only [Act.put, List.setIfInBounds_toArray, List.set_cons_zero, List.set_cons_succ]
              refine wpAnyH_done (by kernel_rfl) ?_ _
              have nouse := hS
              clear nouse hS
              go_wp2
              go_meet
              case rel => exact ⟨rfl, rfl, HU.out.1.new K9, HU.out.2.1.kept K9 (by simp), HU.out.2.2.kept K9 (by simp)⟩
            | false =>
              obtain ⟨f1, f2⟩ := FX.out.2 rfl
              subst f1
              subst f2
              refine wp_region_held_drew (S := fun W' => Kept [] wc W') (by kernel_rfl) (Kept.refl _ _).drew (fun hS => ?_)
              refine wpAnyH_take (i := 0) (oi := { dst := some 88, op := Op.move (Operand.tmp 12), type := 25, pos := "law.go:118", after := #[], guard := none }) (v := .int .u64 0) rfl (by kernel_rfl) (by kernel_rfl) (by kernel_rfl) (fun _ _ _ h => h) (Or.inl ⟨by rfl, fun w hSw => by go_simp⟩) hS ?_
              try simp only [Act.put, List.setIfInBounds_toArray, List.set_cons_zero, List.set_cons_succ]
              refine wpAnyH_take (i := 1) (oi := { dst := some 89, op := Op.binOp BinOp.neq 25 (Operand.tmp 88) (Operand.const (Value.int IntKind.u64 0)) 25, type := 4, pos := "law.go:118", after := #[{ on := 0, ground := Ground.data }], guard := none }) (v := .bool false) rfl (by kernel_rfl) (by kernel_rfl) (by kernel_rfl) (fun _ _ _ h => h) (Or.inl ⟨by rfl, fun w hSw => by go_simp⟩) hS ?_
              try simp only [Act.put, List.setIfInBounds_toArray, List.set_cons_zero, List.set_cons_succ]
              refine wpAnyH_take (i := 2) (oi := { dst := some 90, op := Op.move (Operand.tmp 89), type := 4, pos := "law.go:118", after := #[{ on := 1, ground := Ground.data }], guard := none }) (v := .bool false) rfl (by kernel_rfl) (by kernel_rfl) (by kernel_rfl) (fun _ _ _ h => h) (Or.inl ⟨by rfl, fun w hSw => by go_simp⟩) hS ?_
              try simp only [Act.put, List.setIfInBounds_toArray, List.set_cons_zero, List.set_cons_succ]
              refine wpAnyH_take (i := 3) (oi := { dst := some 91, op := Op.move (Operand.tmp 16), type := 4, pos := "law.go:118", after := #[{ on := 2, ground := Ground.guard }], guard := some (2, true) }) (v := undef) rfl (by kernel_rfl) (by kernel_rfl) (by kernel_rfl) (fun _ _ _ h => h) (Or.inr ⟨by kernel_rfl, rfl⟩) hS ?_
              try simp only [Act.put, List.setIfInBounds_toArray, List.set_cons_zero, List.set_cons_succ]
              refine wpAnyH_take (i := 4) (oi := { dst := some 92, op := Op.unOp UnOp.not 4 (Operand.tmp 91), type := 4, pos := "law.go:118", after := #[{ on := 3, ground := Ground.data }, { on := 2, ground := Ground.guard }], guard := some (2, true) }) (v := undef) rfl (by kernel_rfl) (by kernel_rfl) (by kernel_rfl) (fun _ _ _ h => h) (Or.inr ⟨by kernel_rfl, rfl⟩) hS ?_
              try simp only [Act.put, List.setIfInBounds_toArray, List.set_cons_zero, List.set_cons_succ]
              refine wpAnyH_take (i := 5) (oi := { dst := some 93, op := Op.move (Operand.tmp 92), type := 4, pos := "law.go:118", after := #[{ on := 4, ground := Ground.data }, { on := 2, ground := Ground.chain }, { on := 2, ground := Ground.guard }], guard := some (2, true) }) (v := undef) rfl (by kernel_rfl) (by kernel_rfl) (by kernel_rfl) (fun _ _ _ h => h) (Or.inr ⟨by kernel_rfl, rfl⟩) hS ?_
              try simp only [Act.put, List.setIfInBounds_toArray, List.set_cons_zero, List.set_cons_succ]
              refine wpAnyH_take (i := 6) (oi := { dst := some 94, op := Op.fieldAddr 34 (Operand.tmp 15) 0, type := 0, pos := "law.go:118", after := #[{ on := 5, ground := Ground.guard }], guard := some (5, false) }) (v := undef) rfl (by kernel_rfl) (by kernel_rfl) (by kernel_rfl) (fun _ _ _ h => h) (Or.inr ⟨by kernel_rfl, rfl⟩) hS ?_
              try simp only [Act.put, List.setIfInBounds_toArray, List.set_cons_zero, List.set_cons_succ]
              refine wpAnyH_take (i := 7) (oi := { dst := some 95, op := Op.load 25 (Operand.tmp 94), type := 25, pos := "law.go:118", after := #[{ on := 6, ground := Ground.data }, { on := 5, ground := Ground.guard }], guard := some (5, false) }) (v := undef) rfl (by kernel_rfl) (by kernel_rfl) (by kernel_rfl) (fun _ _ _ h => h) (Or.inr ⟨by kernel_rfl, rfl⟩) hS ?_
              try simp only [Act.put, List.setIfInBounds_toArray, List.set_cons_zero, List.set_cons_succ]
              refine wpAnyH_take (i := 8) (oi := { dst := some 96, op := Op.move (Operand.tmp 2), type := 25, pos := "law.go:118", after := #[{ on := 5, ground := Ground.guard }], guard := some (5, false) }) (v := undef) rfl (by kernel_rfl) (by kernel_rfl) (by kernel_rfl) (fun _ _ _ h => h) (Or.inr ⟨by kernel_rfl, rfl⟩) hS ?_
              try simp only [Act.put, List.setIfInBounds_toArray, List.set_cons_zero, List.set_cons_succ]
              refine wpAnyH_take (i := 9) (oi := { dst := some 97, op := Op.binOp BinOp.lss 25 (Operand.tmp 95) (Operand.tmp 96) 25, type := 4, pos := "law.go:118", after := #[{ on := 7, ground := Ground.data }, { on := 8, ground := Ground.data }, { on := 5, ground := Ground.guard }], guard := some (5, false) }) (v := undef) rfl (by kernel_rfl) (by kernel_rfl) (by kernel_rfl) (fun _ _ _ h => h) (Or.inr ⟨by kernel_rfl, rfl⟩) hS ?_
              try simp only [Act.put, List.setIfInBounds_toArray, List.set_cons_zero, List.set_cons_succ]
              refine wpAnyH_take (i := 10) (oi := { dst := some 98, op := Op.pick (Operand.tmp 93) (Operand.const (Value.bool true)) (Operand.tmp 97), type := 4, pos := "law.go:118", after := #[{ on := 5, ground := Ground.data }, { on := 9, ground := Ground.data }, { on := 2, ground := Ground.guard }], guard := some (2, true) }) (v := undef) rfl (by kernel_rfl) (by kernel_rfl) (by kernel_rfl) (fun _ _ _ h => h) (Or.inr ⟨by kernel_rfl, rfl⟩) hS ?_
              try simp only [Act.put, List.setIfInBounds_toArray, List.set_cons_zero, List.set_cons_succ]
              refine wpAnyH_take (i := 11) (oi := { dst := some 99, op := Op.move (Operand.tmp 98), type := 4, pos := "law.go:118", after := #[{ on := 10, ground := Ground.data }, { on := 5, ground := Ground.chain }, { on := 2, ground := Ground.guard }], guard := some (2, true) }) (v := undef) rfl (by kernel_rfl) (by kernel_rfl) (by kernel_rfl) (fun _ _ _ h => h) (Or.inr ⟨by kernel_rfl, rfl⟩) hS ?_
              try simp only [Act.put, List.setIfInBounds_toArray, List.set_cons_zero, List.set_cons_succ]
              refine wpAnyH_take (i := 12) (oi := { dst := some 100, op := Op.fieldAddr 34 (Operand.tmp 15) 0, type := 0, pos := "law.go:118", after := #[{ on := 11, ground := Ground.guard }], guard := some (11, false) }) (v := undef) rfl (by kernel_rfl) (by kernel_rfl) (by kernel_rfl) (fun _ _ _ h => h) (Or.inr ⟨by kernel_rfl, rfl⟩) hS ?_
              try simp only [Act.put, List.setIfInBounds_toArray, List.set_cons_zero, List.set_cons_succ]
              refine wpAnyH_take (i := 13) (oi := { dst := some 101, op := Op.load 25 (Operand.tmp 100), type := 25, pos := "law.go:118", after := #[{ on := 12, ground := Ground.data }, { on := 11, ground := Ground.guard }], guard := some (11, false) }) (v := undef) rfl (by kernel_rfl) (by kernel_rfl) (by kernel_rfl) (fun _ _ _ h => h) (Or.inr ⟨by kernel_rfl, rfl⟩) hS ?_
              try simp only [Act.put, List.setIfInBounds_toArray, List.set_cons_zero, List.set_cons_succ]
              refine wpAnyH_take (i := 14) (oi := { dst := some 102, op := Op.move (Operand.tmp 8), type := 29, pos := "law.go:118", after := #[{ on := 11, ground := Ground.guard }], guard := some (11, false) }) (v := undef) rfl (by kernel_rfl) (by kernel_rfl) (by kernel_rfl) (fun _ _ _ h => h) (Or.inr ⟨by kernel_rfl, rfl⟩) hS ?_
              try simp only [Act.put, List.setIfInBounds_toArray, List.set_cons_zero, List.set_cons_succ]
              refine wpAnyH_take (i := 15) (oi := { dst := some 103, op := Op.move (Operand.tmp 10), type := 3, pos := "law.go:118", after := #[{ on := 11, ground := Ground.guard }], guard := some (11, false) }) (v := undef) rfl (by kernel_rfl) (by kernel_rfl) (by kernel_rfl) (fun _ _ _ h => h) (Or.inr ⟨by kernel_rfl, rfl⟩) hS ?_
              try simp only [Act.put, List.setIfInBounds_toArray, List.set_cons_zero, List.set_cons_succ]
              refine wpAnyH_take (i := 16) (oi := { dst := some 104, op := Op.call { callee := Callee.value (Operand.func 16), args := #[Operand.tmp 102, Operand.tmp 103], argTypes := #[29, 3] }, type := 25, pos := "law.go:118", after := #[{ on := 14, ground := Ground.data }, { on := 15, ground := Ground.data }, { on := 11, ground := Ground.chain }, { on := 11, ground := Ground.guard }], guard := some (11, false) }) (v := undef) rfl (by kernel_rfl) (by kernel_rfl) (by kernel_rfl) (fun _ _ _ h => h) (Or.inr ⟨by kernel_rfl, rfl⟩) hS ?_
              try simp only [Act.put, List.setIfInBounds_toArray, List.set_cons_zero, List.set_cons_succ]
              refine wpAnyH_take (i := 17) (oi := { dst := some 105, op := Op.binOp BinOp.neq 25 (Operand.tmp 101) (Operand.tmp 104) 25, type := 4, pos := "law.go:118", after := #[{ on := 13, ground := Ground.data }, { on := 16, ground := Ground.data }, { on := 11, ground := Ground.guard }], guard := some (11, false) }) (v := undef) rfl (by kernel_rfl) (by kernel_rfl) (by kernel_rfl) (fun _ _ _ h => h) (Or.inr ⟨by kernel_rfl, rfl⟩) hS ?_
              try simp only [Act.put, List.setIfInBounds_toArray, List.set_cons_zero, List.set_cons_succ]
              refine wpAnyH_take (i := 18) (oi := { dst := some 106, op := Op.pick (Operand.tmp 99) (Operand.const (Value.bool true)) (Operand.tmp 105), type := 4, pos := "law.go:118", after := #[{ on := 11, ground := Ground.data }, { on := 17, ground := Ground.data }, { on := 2, ground := Ground.guard }], guard := some (2, true) }) (v := undef) rfl (by kernel_rfl) (by kernel_rfl) (by kernel_rfl) (fun _ _ _ h => h) (Or.inr ⟨by kernel_rfl, rfl⟩) hS ?_
              try simp only [Act.put, List.setIfInBounds_toArray, List.set_cons_zero, List.set_cons_succ]
              refine wpAnyH_take (i := 19) (oi := { dst := some 107, op := Op.move (Operand.tmp 106), type := 4, pos := "law.go:118", after := #[{ on := 18, ground := Ground.data }, { on := 16, ground := Ground.chain }, { on := 2, ground := Ground.guard }], guard := some (2, true) }) (v := undef) rfl (by kernel_rfl) (by kernel_rfl) (by kernel_rfl) (fun _ _ _ h => h) (Or.inr ⟨by kernel_rfl, rfl⟩) hS ?_
              try simp only [Act.put, List.setIfInBounds_toArray, List.set_cons_zero, List.set_cons_succ]
              refine wpAnyH_take (i := 20) (oi := { dst := some 108, op := Op.fieldAddr 34 (Operand.tmp 15) 2, type := 0, pos := "law.go:118", after := #[{ on := 19, ground := Ground.guard }], guard := some (19, false) }) (v := undef) rfl (by kernel_rfl) (by kernel_rfl) (by kernel_rfl) (fun _ _ _ h => h) (Or.inr ⟨by kernel_rfl, rfl⟩) hS ?_
              try simp only [Act.put, List.setIfInBounds_toArray, List.set_cons_zero, List.set_cons_succ]
              refine wpAnyH_take (i := 21) (oi := { dst := some 109, op := Op.load 3 (Operand.tmp 108), type := 3, pos := "law.go:118", after := #[{ on := 20, ground := Ground.data }, { on := 19, ground := Ground.guard }], guard := some (19, false) }) (v := undef) rfl (by kernel_rfl) (by kernel_rfl) (by kernel_rfl) (fun _ _ _ h => h) (Or.inr ⟨by kernel_rfl, rfl⟩) hS ?_
              try simp only [Act.put, List.setIfInBounds_toArray, List.set_cons_zero, List.set_cons_succ]
              refine wpAnyH_take (i := 22) (oi := { dst := some 110, op := Op.fieldAddr 34 (Operand.tmp 15) 3, type := 0, pos := "law.go:118", after := #[{ on := 19, ground := Ground.guard }], guard := some (19, false) }) (v := undef) rfl (by kernel_rfl) (by kernel_rfl) (by kernel_rfl) (fun _ _ _ h => h) (Or.inr ⟨by kernel_rfl, rfl⟩) hS ?_
              try simp only [Act.put, List.setIfInBounds_toArray, List.set_cons_zero, List.set_cons_succ]
              refine wpAnyH_take (i := 23) (oi := { dst := some 111, op := Op.load 3 (Operand.tmp 110), type := 3, pos := "law.go:118", after := #[{ on := 22, ground := Ground.data }, { on := 19, ground := Ground.guard }], guard := some (19, false) }) (v := undef) rfl (by kernel_rfl) (by kernel_rfl) (by kernel_rfl) (fun _ _ _ h => h) (Or.inr ⟨by kernel_rfl, rfl⟩) hS ?_
              try simp only [Act.put, List.setIfInBounds_toArray, List.set_cons_zero, List.set_cons_succ]
              refine wpAnyH_take (i := 24) (oi := { dst := some 112, op := Op.binOp BinOp.sub 3 (Operand.tmp 109) (Operand.tmp 111) 3, type := 3, pos := "law.go:118", after := #[{ on := 21, ground := Ground.data }, { on := 23, ground := Ground.data }, { on := 19, ground := Ground.guard }], guard := some (19, false) }) (v := undef) rfl (by kernel_rfl) (by kernel_rfl) (by kernel_rfl) (fun _ _ _ h => h) (Or.inr ⟨by kernel_rfl, rfl⟩) hS ?_
              try simp only [Act.put, List.setIfInBounds_toArray, List.set_cons_zero, List.set_cons_succ]
              refine wpAnyH_take (i := 25) (oi := { dst := some 113, op := Op.move (Operand.tmp 10), type := 3, pos := "law.go:118", after := #[{ on := 19, ground := Ground.guard }], guard := some (19, false) }) (v := undef) rfl (by kernel_rfl) (by kernel_rfl) (by kernel_rfl) (fun _ _ _ h => h) (Or.inr ⟨by kernel_rfl, rfl⟩) hS ?_
              try simp only [Act.put, List.setIfInBounds_toArray, List.set_cons_zero, List.set_cons_succ]
              refine wpAnyH_take (i := 26) (oi := { dst := some 114, op := Op.binOp BinOp.leq 3 (Operand.tmp 112) (Operand.tmp 113) 3, type := 4, pos := "law.go:118", after := #[{ on := 24, ground := Ground.data }, { on := 25, ground := Ground.data }, { on := 19, ground := Ground.guard }], guard := some (19, false) }) (v := undef) rfl (by kernel_rfl) (by kernel_rfl) (by kernel_rfl) (fun _ _ _ h => h) (Or.inr ⟨by kernel_rfl, rfl⟩) hS ?_
              try simp only [Act.put, List.setIfInBounds_toArray, List.set_cons_zero, List.set_cons_succ]
              refine wpAnyH_take (i := 27) (oi := { dst := some 115, op := Op.pick (Operand.tmp 107) (Operand.const (Value.bool true)) (Operand.tmp 114), type := 4, pos := "law.go:118", after := #[{ on := 19, ground := Ground.data }, { on := 26, ground := Ground.data }, { on := 2, ground := Ground.guard }], guard := some (2, true) }) (v := undef) rfl (by kernel_rfl) (by kernel_rfl) (by kernel_rfl) (fun _ _ _ h => h) (Or.inr ⟨by kernel_rfl, rfl⟩) hS ?_
              try simp only [Act.put, List.setIfInBounds_toArray, List.set_cons_zero, List.set_cons_succ]
              refine wpAnyH_take (i := 28) (oi := { dst := some 116, op := Op.pick (Operand.tmp 90) (Operand.tmp 115) (Operand.const (Value.bool false)), type := 4, pos := "law.go:118", after := #[{ on := 2, ground := Ground.data }, { on := 27, ground := Ground.data }], guard := none }) (v := .bool false) rfl (by kernel_rfl) (by kernel_rfl) (by kernel_rfl) (fun _ _ _ h => h) (Or.inl ⟨by rfl, fun w hSw => by go_simp⟩) hS ?_
              try simp only [Act.put, List.setIfInBounds_toArray, List.set_cons_zero, List.set_cons_succ]
              refine wpAnyH_take (i := 29) (oi := { dst := some 117, op := Op.move (Operand.tmp 116), type := 4, pos := "law.go:118", after := #[{ on := 28, ground := Ground.data }, { on := 19, ground := Ground.chain }], guard := none }) (v := .bool false) rfl (by kernel_rfl) (by kernel_rfl) (by kernel_rfl) (fun _ _ _ h => h) (Or.inl ⟨by rfl, fun w hSw => by go_simp⟩) hS ?_
              try simp only [Act.put, List.setIfInBounds_toArray, List.set_cons_zero, List.set_cons_succ]
              refine wpAnyH_take (i := 30) (oi := { dst := some 118, op := Op.move (Operand.tmp 12), type := 25, pos := "law.go:118", after := #[{ on := 29, ground := Ground.guard }], guard := some (29, false) }) (v := .int .u64 0) rfl (by kernel_rfl) (by kernel_rfl) (by kernel_rfl) (fun _ _ _ h => h) (Or.inl ⟨by rfl, fun w hSw => by go_simp⟩) hS ?_
              try simp only [Act.put, List.setIfInBounds_toArray, List.set_cons_zero, List.set_cons_succ]
              refine wpAnyH_take (i := 31) (oi := { dst := some 119, op := Op.binOp BinOp.eql 25 (Operand.tmp 118) (Operand.const (Value.int IntKind.u64 0)) 25, type := 4, pos := "law.go:118", after := #[{ on := 30, ground := Ground.data }, { on := 29, ground := Ground.guard }], guard := some (29, false) }) (v := .bool true) rfl (by kernel_rfl) (by kernel_rfl) (by kernel_rfl) (fun _ _ _ h => h) (Or.inl ⟨by rfl, fun w hSw => by go_simp⟩) hS ?_
              try simp only [Act.put, List.setIfInBounds_toArray, List.set_cons_zero, List.set_cons_succ]
              refine wpAnyH_take (i := 32) (oi := { dst := some 120, op := Op.move (Operand.tmp 119), type := 4, pos := "law.go:118", after := #[{ on := 31, ground := Ground.data }, { on := 29, ground := Ground.chain }, { on := 29, ground := Ground.guard }], guard := some (29, false) }) (v := .bool true) rfl (by kernel_rfl) (by kernel_rfl) (by kernel_rfl) (fun _ _ _ h => h) (Or.inl ⟨by rfl, fun w hSw => by go_simp⟩) hS ?_
              try simp only [Act.put, List.setIfInBounds_toArray, List.set_cons_zero, List.set_cons_succ]
              refine wpAnyH_take (i := 33) (oi := { dst := some 121, op := Op.move (Operand.tmp 8), type := 29, pos := "law.go:118", after := #[{ on := 32, ground := Ground.guard }], guard := some (32, true) }) (v := .pointer (some ⟨fb, 0, none⟩)) rfl (by kernel_rfl) (by kernel_rfl) (by kernel_rfl) (fun _ _ _ h => h) (Or.inl ⟨by rfl, fun w hSw => by go_simp⟩) hS ?_
              try simp only [Act.put, List.setIfInBounds_toArray, List.set_cons_zero, List.set_cons_succ]
              refine wpAnyH_take (i := 34) (oi := { dst := some 122, op := Op.move (Operand.tmp 10), type := 3, pos := "law.go:118", after := #[{ on := 32, ground := Ground.guard }], guard := some (32, true) }) (v := .int .i64 (L : Int)) rfl (by kernel_rfl) (by kernel_rfl) (by kernel_rfl) (fun _ _ _ h => h) (Or.inl ⟨by rfl, fun w hSw => by go_simp⟩) hS ?_
              try simp only [Act.put, List.setIfInBounds_toArray, List.set_cons_zero, List.set_cons_succ]
              refine wpAnyH_ready (rs := [35]) (by kernel_rfl) (by simp) ?_
              refine AllReadyH.cons (o := { dst := some 123, op := Op.call { callee := Callee.value (Operand.func 16), args := #[Operand.tmp 121, Operand.tmp 122], argTypes := #[29, 3] }, type := 25, pos := "law.go:118", after := #[{ on := 33, ground := Ground.data }, { on := 34, ground := Ground.data }, { on := 32, ground := Ground.chain }, { on := 32, ground := Ground.guard }], guard := some (32, true) }) rfl (fun K hK => ?_) AllReadyH.nil
              rw [if_pos (by rfl)]
              refine wp_calls 16 #[.pointer (some ⟨fb, 0, none⟩), .int .i64 (L : Int)] (by kernel_rfl) (fun v V => v = .int .u64 0 ∧ Kept [] wc V) ((KE.out _ hS).mono fun e w' hh => ⟨_, hh.1, rfl, hh.2⟩) ?_
              rintro _ w9 ⟨rfl, K9⟩
              try simp only [Act.put, List.setIfInBounds_toArray, List.set_cons_zero, List.set_cons_succ]
              refine hK.out _ _ (K9) (fun hS => ?_)
              clear hK K
              refine wpAnyH_take (i := 36) (oi := { dst := some 124, op := Op.binOp BinOp.neq 25 (Operand.tmp 123) (Operand.const (Value.int IntKind.u64 0)) 25, type := 4, pos := "law.go:118", after := #[{ on := 35, ground := Ground.data }, { on := 32, ground := Ground.guard }], guard := some (32, true) }) (v := .bool false) rfl (by kernel_rfl) (by kernel_rfl) (by kernel_rfl) (fun _ _ _ h => h) (Or.inl ⟨by rfl, fun w hSw => by go_simp⟩) hS ?_
              try simp only [Act.put, List.setIfInBounds_toArray, List.set_cons_zero, List.set_cons_succ]
              refine wpAnyH_take (i := 37) (oi := { dst := some 125, op := Op.pick (Operand.tmp 120) (Operand.tmp 124) (Operand.const (Value.bool false)), type := 4, pos := "law.go:118", after := #[{ on := 32, ground := Ground.data }, { on := 36, ground := Ground.data }, { on := 29, ground := Ground.guard }], guard := some (29, false) }) (v := .bool false) rfl (by kernel_rfl) (by kernel_rfl) (by kernel_rfl) (fun _ _ _ h => h) (Or.inl ⟨by rfl, fun w hSw => by go_simp⟩) hS ?_
              try simp only [Act.put, List.setIfInBounds_toArray, List.set_cons_zero, List.set_cons_succ]
              refine wpAnyH_take (i := 38) (oi := { dst := some 126, op := Op.pick (Operand.tmp 117) (Operand.const (Value.bool true)) (Operand.tmp 125), type := 4, pos := "law.go:118", after := #[{ on := 29, ground := Ground.data }, { on := 37, ground := Ground.data }], guard := none }) (v := .bool false) rfl (by kernel_rfl) (by kernel_rfl) (by kernel_rfl) (fun _ _ _ h => h) (Or.inl ⟨by rfl, fun w hSw => by go_simp⟩) hS ?_
              try simp only [Act.put, List.setIfInBounds_toArray, List.set_cons_zero, List.set_cons_succ]
              refine wpAnyH_done (by kernel_rfl) ?_ _
              have nouse := hS
              clear nouse hS
              go_wp2
              go_meet
              case rel => exact ⟨rfl, rfl, HU.out.1.new K9, HU.out.2.1.kept K9 (by simp), HU.out.2.2.kept K9 (by simp)⟩
          case rest =>
            obtain ⟨rfl, rfl, UL, UB, UX⟩ := hcut
            have HV := hidOf (And.intro UL (And.intro UB UX))
            clear HU UL UB UX
            have hnz : (n : Int) ≤ 64 := n64
            go_wp2
            go_loopw [129] (fun s129 wr => ∃ j : Nat, j ≤ n ∧ s129 = .int .i64 j ∧ Fw w1.heap.size w1 wr fb gb m p r c g f cs (cnt + 1) a2 ∧ RW 34 wr nb #[.int .u64 xn.k, .int .u64 xn.v, .int .i64 xn.t, .int .i64 xn.m, .bool xn.d] ∧ RW 34 wr xb #[.int .u64 xx.k, .int .u64 xx.v, .int .i64 xx.t, .int .i64 xx.m, .bool xx.d]) (fun s129 _ => n - (intOf s129).toNat)
            case atStart => exact ⟨0, by omega, by first | rfl | go_num, HV.out⟩
            case round =>
              clear HV
              obtain ⟨j, hj, rfl, Z⟩ := hrel
              have HV := hidOf Z
              clear Z
              by_cases hlt : j < n
              · have hltz : (j : Int) < (n : Int) := by omega
                obtain ⟨b1, o1, ea, l1, s0, s1, s2, s3, s4⟩ := nn_row (HS.out.new (HX.out.2.trans HV.out.1.kp)) (k := j) (by rw [← HNN.out]; exact hlt)
                have NBJ := NB.out j hlt
                have nb1 := HR.out.b j (by rw [← HNN.out]; exact hlt)
                obtain ⟨x, hx⟩ : ∃ x, x = ns.getD j nn0 := ⟨_, rfl⟩
                rw [← hx] at s0 s1 s2 s3 s4 NBJ nb1
                have t0 : 0 ≤ x.t := by have := nb1.1; omega
                have t1 : x.t ≤ 6 := by have := nb1.2.1; have := RR.out.h1; omega
                have m0 : 0 ≤ x.m := nb1.2.2.1
                have m1 : x.m ≤ x.t := nb1.2.2.2.1
                clear hx nb1
                have HNBJ := hidOf NBJ
                clear NBJ
                rw [ea]
                obtain ⟨yb, hyb⟩ : ∃ yb, yb = wr.heap.size := ⟨_, rfl⟩
                go_upto_region 19 with (fail)
                rw [← hyb]
                refine gen_world (fun U => (Fw w1.heap.size w1 U fb gb m p r c g f cs (cnt + 1) a2 ∧ RW 34 U nb #[.int .u64 xn.k, .int .u64 xn.v, .int .i64 xn.t, .int .i64 xn.m, .bool xn.d] ∧ RW 34 U xb #[.int .u64 xx.k, .int .u64 xx.v, .int .i64 xx.t, .int .i64 xx.m, .bool xx.d]) ∧ RW 34 U yb (nnA x)) ?_ ?_
                · rw [hyb]; exact ⟨⟨HV.out.1.new ((Kept.refl [] wr).alloc _), HV.out.2.1.kept ((Kept.refl [] wr).alloc _) (by simp), HV.out.2.2.kept ((Kept.refl [] wr).alloc _) (by simp)⟩, RW.new 34 wr (nnA x)⟩
                clear hyb s0 s1 s2 s3 s4 l1 HV ea
                rintro U ⟨UL, UB⟩
                have HV := hidOf UL
                have y0 := cell_of_blk UB (i := 0) (v := .int .u64 x.k) rfl
                have y2 := cell_of_blk UB (i := 2) (v := .int .i64 x.t) rfl
                have y3 := cell_of_blk UB (i := 3) (v := .int .i64 x.m) rfl
                have n0 := cell_of_blk UL.2.1 (i := 0) (v := .int .u64 xn.k) rfl
                have x0 := cell_of_blk UL.2.2 (i := 0) (v := .int .u64 xx.k) rfl
                clear UL UB
                by_cases hl : (L : Int) < x.t - x.m
                · by_cases hk : x.k < k
                  · obtain ⟨bt, le⟩ := (HNBJ.out hl).1 hk
                    subst bt
                    have d1 : decide (xn.k < x.k) = false := by simp; omega
                    have d2 : decide (k ≤ x.k) = false := by simp; omega
                    have d3 : decide (x.k < k) = true := by simpa using hk
                    have d4 : decide ((L : Int) < x.t - x.m) = true := by simpa using hl
                    clear HNBJ
                    go_wp2
                    go_roundw
                    case rel => exact ⟨j + 1, by omega, by go_num, HV.out⟩
                    case measure => simp [intOf]; omega
                  · obtain ⟨bt, le⟩ := (HNBJ.out hl).2 (by omega)
                    subst bt
                    have d1 : decide (x.k < xx.k) = false := by simp; omega
                    have d2 : decide (k ≤ x.k) = true := by simp; omega
                    have d3 : decide (x.k < k) = false := by simp; omega
                    have d4 : decide ((L : Int) < x.t - x.m) = true := by simpa using hl
                    clear HNBJ
                    go_wp2
                    go_roundw
                    case rel => exact ⟨j + 1, by omega, by go_num, HV.out⟩
                    case measure => simp [intOf]; omega
                · have d4 : decide ((L : Int) < x.t - x.m) = false := by simp; omega
                  clear HNBJ
                  go_wp2
                  go_roundw
                  case rel => exact ⟨j + 1, by omega, by go_num, HV.out⟩
                  case measure => simp [intOf]; omega
              · have hjn : ¬ (j : Int) < (n : Int) := by omega
                go_wp2
                go_roundw
                case rel => exact ⟨L + 1, by omega, by go_num, cnt + 1, a2, HV.out.1, by have := HCC.out; omega⟩
                case measure => simp [intOf]; omega
      · have hLz : ¬ (L : Int) < c.h := by have := HHN.out; omega
        have AL := hidOf (alive_any wr HZ.out.1.st.tb)
        go_wp2_with fail
        refine AL.out.mono ?_
        rintro e WA ⟨rfl, KA⟩
        go_wp2
        go_ret
        exact ⟨rfl, (HX.out.2.trans HZ.out.1.kp).trans KA⟩

set_option maxRecDepth 100000 in
theorem findAlone_lifted (os : Os) (started : os.Started) (H : Type) (enc : TypeId × Value → H) :
    ReturnsInHanded {} Tryd.checked os 3 .any (fun w args => (Rows.findAloneSpec.pre enc Tryd.prog Tryd.f3 [] false w args ∧ laidMetH Tryd.prog laid1 w) ∧ sizedMet enc Tryd.prog Tryd.f3 (OpenSpec.ofChange Rows.findAloneSpec) false w args)
      (Rows.findAloneSpec.post enc Tryd.prog Tryd.f3 false true false false) := by
  refine returnsInHanded_of_change_and (C := Tryd.checked) (X := fun w _ => laidMetH Tryd.prog laid1 w) (fun _ _ _ hh h => h.of_heap hh) own started (by kernel_rfl) Tryd.func3
    (ChangeSpec.witness_shaped (enc := enc) (C := Tryd.checked) (os := os) (X := fun w _ => laidMetH Tryd.prog laid1 w) false (World.doorLaid Tryd.prog 400 os) #[.agg #[.int .i64 0, .int .i64 0, .int .i64 0, .int .i64 0, .int .i64 0, .int .i64 0, .int .i64 0], .slice none 0 0, .int .u64 0] 8 rfl (World.shaped_of_RefB (by kernel_rfl) (by kernel_rfl)) (by kernel_rfl) (by kernel_rfl) (by kernel_rfl) (door_met os _)) ?_
  intro W base args ds gs before hval0 hW _ _ hL _
  have hval : ∀ (j : Nat) t v, Tryd.f3.params[j]? = some t → args[j]? = some v → Value.okWide Tryd.prog W .any base t v := hval0
  have hW' := hW
  obtain ⟨p, q, hA0, hV, rfl, _, _⟩ := hW
  have hA : DataW.TrodAll enc Tryd.prog W 0 (fun _ => true) true Tryd.f3.params.toList args.toList ds p := hA0
  rw [Tryd.params3] at hA hval
  clear hA0 hval0
  obtain ⟨v0, vs0, d0, ds0, p0, q0, hargs, rfl, rfl, h0, r0⟩ := trodAll_cons hA
  obtain ⟨v1, vs1, d1, ds1, p1, q1, rfl, rfl, rfl, h1, r1⟩ := trodAll_cons r0
  obtain ⟨v2, vs2, d2, ds2, p2, q2, rfl, rfl, rfl, h2, r2⟩ := trodAll_cons r1
  obtain ⟨rfl, rfl, rfl⟩ := trodAll_nil r2
  obtain rfl : args = #[v0, v1, v2] := by cases args; simp_all
  obtain ⟨rfl, rfl⟩ := trodVars_none hV
  have k0 := h0
  have k1 := h1
  have k2 := h2
  simp only [List.append_nil] at hW'
  have hlt0 : ∀ x ∈ p0, x.block < W.heap.size := fun x hx => hW'.lt x (by simp [hx])
  have hlt1 : ∀ x ∈ p1, x.block < W.heap.size := fun x hx => hW'.lt x (by simp [hx])
  have hlt2 : ∀ x ∈ p2, x.block < W.heap.size := fun x hx => hW'.lt x (by simp [hx])
  obtain ⟨c0, rfl, g0⟩ := open_cfg (hval 0 23 v0 rfl rfl) h0
  obtain ⟨ao1, cap1, ns1, rfl, s1, g1⟩ := open_nodes (hval 1 24 v1 rfl rfl) h1
  obtain ⟨a2, rfl, rfl, rfl, w2⟩ := open_int Tryd.underlying25 (hval 2 25 v2 rfl rfl) h2
  refine (findAlone_walk W c0 g0 ao1 ns1 cap1 s1 g1 a2 w2 (tab_of_laid hL)).mono fun e W' ⟨he, hg⟩ => ?_
  subst he
  have hb := hg.below (by simp)
  exact ⟨_, rfl, _, _, _, [], _, [], hW', (trodAll_cons_mk (shut_bool Tryd.underlying4 _) trodAll_mk0), (trodAll_cons_mk (Below.trod laidOut (by kernel_rfl) (of_decide_eq_true (by kernel_rfl)) k0 hb hlt0) (trodAll_cons_mk (Below.trod laidOut (by kernel_rfl) (of_decide_eq_true (by kernel_rfl)) k1 hb hlt1) (trodAll_cons_mk (Below.trod laidOut (by kernel_rfl) (of_decide_eq_true (by kernel_rfl)) k2 hb hlt2) trodAll_mk0))), rfl, hb.frame _, fun h => by cases h⟩

theorem findAlone_over : Rows.FindAloneSaid :=
  OpenClaim.holds_of_wide 3 Tryd.f3 rfl rfl rfl rfl rfl rfl rfl ⟨rfl, rfl, rfl, rfl, rfl⟩ rfl rfl rfl rfl rfl (by kernel_rfl) Tryd.func3 (by kernel_rfl)
    (of_decide_eq_true (by kernel_rfl)) (by unfold Func.isWrapper; first | (rw [if_pos (by decide +kernel)]; kernel_rfl) | (rw [if_neg (by decide +kernel)]; exact ⟨rfl, rfl⟩))
    (fun os started H enc _ => findAlone_lifted os started H enc)

theorem findAlone_holds : Rows.FindAloneCardSaid :=
  Claim7.holds_tied_plain_at .later [] [.data] true (true, "7f80696f4898032b1e9ebe7e0048ae521e445675cf0580a22aeeebebced35714") false
    findAlone_over (fun _ h => by cases h) (by kernel_rfl) (fun _ h => by cases h) findAlone_row_tie rfl ⟨rfl, rfl⟩ (by kernel_rfl) rfl
    (fun f fn hf hfn => by
      obtain rfl : f = 3 := Option.some.inj ((show Tryd.prog.funcNamed "stepstone/stepstonelaw11.FindAlone" = some 3 by kernel_rfl).symm.trans hf) |>.symm
      obtain rfl : fn = Tryd.f3 := (Option.some.inj (Tryd.func3.symm.trans hfn)).symm
      exact ⟨by kernel_rfl, fun j t ht => by
          rw [Tryd.params3] at ht
          rcases j with _ | j
          · have : t = 23 := by simpa using ht.symm
            subst this; exact (show Tryd.prog.wantsStandIn 23 = false by kernel_rfl)
          rcases j with _ | j
          · have : t = 24 := by simpa using ht.symm
            subst this; exact (show Tryd.prog.wantsStandIn 24 = false by kernel_rfl)
          rcases j with _ | j
          · have : t = 25 := by simpa using ht.symm
            subst this; exact (show Tryd.prog.wantsStandIn 25 = false by kernel_rfl)
          simp at ht⟩)
    (by kernel_rfl)
#print axioms findAlone_holds
end Go.Proofs.YtgnkgkbjjeipbaaDoor
