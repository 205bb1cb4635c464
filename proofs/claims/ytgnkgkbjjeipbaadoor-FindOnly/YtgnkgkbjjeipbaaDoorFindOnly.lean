/-
  A step of a find changes a reservation of its thread's, or a word that names a node which is deleted there, into what is behind that node; nothing else, whatever the words are: the law FindOnly is true for every input.
  Conditions: the package variable of handle that the code reads starts as the program's text lays it (the card ties it to that text).
-/
import Derived.Test.YtgnkgkbjjeipbaaDoorFOn
import Derived.Test.YtgnkgkbjjeipbaaDoorHLaid
import Derived.Test.YtgnkgkbjjeipbaaDoorPArgs
import Derived.Deep.CutRange
import Derived.ProofKit
import Derived.SizedLaws
import Derived.Carry
namespace Go.Proofs.YtgnkgkbjjeipbaaDoor
open Go.ChangeShapes Go.WideShapes Go.ChangeAt Go.RowKit
open Go.Deep
open Go.Proofs.YtgnkgkbjjeipbaaDoor.K
set_option maxRecDepth 100000

set_option maxRecDepth 100000 in
set_option maxHeartbeats 8000000 in
theorem findOnly_walk (w : World) (c : Cfg) (_hg : c.wf) (ao : Option Addr) (xs : List Int) (cap : Nat) (hs : Sl w ao xs) (hg : ∀ x ∈ xs, isWord x) (hc : ao = none → cap = 0) (k t st : Int) (po : Option Addr) (pn pc : Nat) (hT : Tab w) :
    Calls Tryd.prog 5 #[c.val, .slice ao xs.length cap, .agg (plA k t st po pn pc)] w fun e w' => e = .returned (.bool true) ∧ Kept [] w w' := by
  simp only [Cfg.val]
  obtain ⟨n, hn⟩ : ∃ n, n = xs.length := ⟨_, rfl⟩
  rw [← hn]
  have HNN := hidOf hn
  have HS := hidOf hs
  have HC := hidOf hc
  have HW := hidOf (wds_of hg)
  have HT := hidOf hT
  clear hn hs hc hg hT
  obtain ⟨q, hq⟩ : ∃ q, q = w.heap.size := ⟨_, rfl⟩
  have BX := hidOf (two_new 23 54 w #[.int .i64 c.t, .int .i64 c.s, .int .i64 c.c, .int .i64 c.h, .int .i64 c.k, .int .i64 c.e, .int .i64 c.l] (plA k t st po pn pc) hq)
  go_enter Tryd.func5, Tryd.ntmps5
  go_upto_region 1 with (fail)
  rw [← hq]
  refine gen_world (fun W => RW 23 W q #[.int .i64 c.t, .int .i64 c.s, .int .i64 c.c, .int .i64 c.h, .int .i64 c.k, .int .i64 c.e, .int .i64 c.l] ∧ RW 54 W (q + 1) (plA k t st po pn pc) ∧ Kept [] w W) BX.out ?_
  clear BX hq
  rintro W ⟨CB0, PB0, K0⟩
  have HX := hidOf (And.intro CB0 (And.intro PB0 K0))
  clear CB0 PB0 K0
  by_cases hN : IsW c n
  · have hW := hidOf hN
    have OF := hidOf (kof_yes c ao xs n cap W hN HNN.out (HS.out.new HX.out.2.2) HC.out)
    clear hN
    go_wp2_with (first | ((with_reducible change wpList _ _ _ (Oper.mk _ (Op.load 23 (Operand.tmp 3)) _ _ _ _ :: _) _ _); refine wpList_load_rw 23 isT_cf rfl (.tmp 3) rfl q rfl #[.int .i64 c.t, .int .i64 c.s, .int .i64 c.c, .int .i64 c.h, .int .i64 c.k, .int .i64 c.e, .int .i64 c.l] rfl HX.out.1 ?_))
    refine OF.out.mono ?_
    rintro e w1 ⟨m, p, r, gg, c', rfl, ⟨hm, hp, hr, hgg, hgr⟩, M, RR, K1⟩
    have HY := hidOf (And.intro M K1)
    have HB := hidOf (And.intro hp hr)
    clear M RR K1 OF hm hp hr hgg hgr
    go_upto_region 2 with (first | ((with_reducible change wpList _ _ _ (Oper.mk _ (Op.store 60 (Operand.tmp 8) _) _ _ _ _ :: _) _ _); refine wpList_store_rw 60 isT_rm rfl (.tmp 8) (.tmp 23) rfl w1.heap.size (rmA c (some ⟨gg, 0, none⟩) n c' 0 Acc.zero) rfl rfl rfl (rm_one _ _ _ _ _ _) rmZ (RW.new 60 w1 rmZ) rfl ?_))
    refine gen_world (fun V => Kept [] w1 V) (((Kept.refl [] w1).alloc _).setRow (Or.inr (Nat.le_refl _)) _) ?_
    rintro V KV
    have HY2 := hidOf (And.intro (Mm.new HY.out.1 KV) (HY.out.2.trans KV))
    clear HY KV
    have HY := HY2
    clear HY2
    have SX : Hid (∀ Y : World, Kept [] V Y → Y.cell? ⟨q + 1, 0, none⟩ = some (.int .u64 k) ∧ Y.cell? ⟨q + 1, 1, none⟩ = some (.int .i64 t)) := hidOf (fun Y kk => ⟨cell_of_blk (HX.out.2.1.kept (HY.out.2.trans kk) (by simp)) (i := 0) rfl, cell_of_blk (HX.out.2.1.kept (HY.out.2.trans kk) (by simp)) (i := 1) rfl⟩)
    have FNW : Hid (∀ Y : World, Kept [] V Y → Calls Tryd.prog 19 #[.int .u64 k] Y fun e w' => ∃ fb, e = .returned (.pointer (some ⟨fb, 0, none⟩)) ∧ V.heap.size ≤ fb ∧ FB w' fb (K.ffV 42 fb) k 0 0 0 0 0 none 0 0 ∧ Kept [] V w' ∧ Kept [] Y w') := hidOf (fun Y kk => (fnew_any k Y).mono fun e w' hh => by
      obtain ⟨fb, e1, e2, e3, e4⟩ := hh
      exact ⟨fb, e1, Nat.le_trans kk.size e2, e3, kk.trans e4, e4⟩)
    have GNW : Hid (∀ Y : World, Kept [] V Y → Calls Tryd.prog 20 #[.int .i64 t] Y fun e w' => ∃ gb, e = .returned (.pointer (some ⟨gb, 0, none⟩)) ∧ V.heap.size ≤ gb ∧ GB w' gb ⟨0, 0, t⟩ ∧ Kept [] V w' ∧ Kept [] Y w') := hidOf (fun Y kk => (gnew_any t Y).mono fun e w' hh => by
      obtain ⟨gb, e1, e2, e3, e4⟩ := hh
      exact ⟨gb, e1, Nat.le_trans kk.size e2, e3, kk.trans e4, e4⟩)
    go_cut [10, 11] from 10 to 31 (fun s10 s11 W3 => ∃ fb gb, s10 = .pointer (some ⟨fb, 0, none⟩) ∧ s11 = .pointer (some ⟨gb, 0, none⟩) ∧ V.heap.size ≤ fb ∧ V.heap.size ≤ gb ∧ FB W3 fb (K.ffV 42 fb) k 0 0 0 0 0 none 0 0 ∧ GB W3 gb ⟨0, 0, t⟩ ∧ Kept [] V W3)
    case first =>
      go_region_held3 (fun Y => Y.cell? ⟨q + 1, 0, none⟩ = some (.int .u64 k) ∧ Y.cell? ⟨q + 1, 1, none⟩ = some (.int .i64 t))
        (exact SX.out _ (by first | assumption | exact (Kept.refl _ _).drew))
        (first | (go_at_call 19; with_reducible refine (FNW.out _ (by first | assumption | exact (Kept.refl _ _).drew)).mono ?_; rintro e w2 ⟨fb, rfl, hfb, F2, KV2, K2⟩) | (go_at_call 20; with_reducible refine (GNW.out _ (by first | assumption | exact (Kept.refl _ _).drew)).mono ?_; rintro e w3 ⟨gb, rfl, hgb, G2, KV3, K3⟩))
      all_goals
        go_wp2
        go_meet
        case rel => first | exact ⟨fb, gb, rfl, rfl, hfb, hgb, F2.kept K3 (by simp), G2, KV3⟩ | exact ⟨fb, gb, rfl, rfl, hfb, hgb, F2, G2.kept K2 (by simp), KV2⟩
    case rest =>
      obtain ⟨fb, gb, rfl, rfl, hfb, hgb, F, G, K3⟩ := hcut
      have hb := HB.out
      have FWS := hidOf (Fw.start (base := W.heap.size) (w0 := W) hW.out.1 (HY.out.2.trans K3) (HT.out.kept HX.out.2.2) hb.1 hb.2 (Nat.le_refl _) ((HY.out.2.trans K3).size) (HY.out.1.new K3) F G (Nat.le_trans HY.out.2.size hfb) (Nat.le_trans HY.out.2.size hgb) HW.out (Int.le_refl 0))
      clear F G hfb hgb hb SX FNW GNW HY K3
      have y2 := cell_of_blk (HX.out.2.1.kept FWS.out.kp (by simp)) (i := 2) (v := .int .i64 st) rfl
      by_cases h3 : 300 < st
      · have d1 : decide (300 < st) = true := by simpa using h3
        have AL := hidOf (alive_any wc FWS.out.st.tb)
        go_wp2_with fail
        refine AL.out.mono ?_
        rintro e WA ⟨rfl, KA⟩
        go_wp2
        go_ret
        exact ⟨rfl, HX.out.2.2.trans (FWS.out.kp.trans KA)⟩
      · have d1 : decide (300 < st) = false := by simpa using h3
        have HTW := hidOf (HT.out.kept HX.out.2.2)
        have HST := hidOf h3
        obtain ⟨J, hJ⟩ : ∃ J : Nat, (J : Int) = if 0 ≤ st then st else 0 := ⟨st.toNat, by split <;> omega⟩
        have hJ3 : J ≤ 300 := by split at hJ <;> omega
        have HJ := hidOf hJ
        clear hJ
        go_upto_region 5 with (fail)
        go_cut [57, 58] from 46 to 59 (fun s57 s58 Y => s57 = .int .i64 (J : Int) ∧ s58 = .int .i64 0 ∧ Y = wc)
        case first =>
          by_cases hs0 : 0 < st
          · have hJs : (J : Int) = st := by have z := HJ.out; rw [if_pos (by omega)] at z; exact z
            have d3 : decide (0 < st) = true := by simpa using hs0
            have d4 : decide (0 ≤ st) = true := by simp; omega
            have d5 : decide (st < 0) = false := by simp; omega
            have d6 : decide (st ≤ 0) = false := by simp; omega
            have hmx : max (0 : Int) st = st := by omega
            go_wp2
            go_meet
            case rel => exact ⟨by rw [hJs], rfl, rfl⟩
          · have hJs : (J : Int) = 0 := by have z := HJ.out; split at z <;> omega
            have d3 : decide (0 < st) = false := by simpa using hs0
            have d6 : decide (st ≤ 0) = true := by simp; omega
            have hmx : max (0 : Int) st = 0 := by omega
            go_wp2
            all_goals
              go_meet
              case rel => exact ⟨by first | (rw [hJs]; done) | (rw [hJs]; congr 1; omega), rfl, rfl⟩
        case rest =>
         obtain ⟨rfl, rfl, rfl⟩ := hcut
         go_wp2_with fail
         go_loopw [58] (fun s58 wr => ∃ j : Nat, j ≤ J ∧ s58 = .int .i64 j ∧ ∃ g f cs cnt a, Fw W.heap.size W wr fb gb m p r c g f cs cnt a ∧ Hid (g.t = t ∧ Xv c cs f ∧ cs.length = n ∧ cnt ≤ 2 * j)) (fun s58 _ => J - (intOf s58).toNat)
         case atStart => exact ⟨0, by omega, by first | rfl | go_num, ⟨0, 0, t⟩, fmS k, xs, 0, Acc.zero, FWS.out, hidOf ⟨rfl, Xv.anew _ _ _ _, HNN.out.symm, by omega⟩⟩
         case round =>
           clear FWS y2 d1
           obtain ⟨j, hj, rfl, g, f, cs, cnt, a, Z, HI⟩ := hrel
           have HZ := hidOf Z
           clear Z
           by_cases hlt : j < J
           · have hltz : (j : Int) < (J : Int) := by omega
             go_wp2_with fail
             refine HZ.out.bank.mono ?_
             rintro e w2 ⟨rfl, rfl⟩
             go_wp2_with fail
             refine HZ.out.count.mono ?_
             rintro e w2 ⟨rfl, rfl⟩
             have SP := hidOf (HZ.out.step (by have := HI.out.2.2.2; omega))
             have ON := hidOf (show ¬ fN cnt f = cnt → ¬ (fA c cs g f a).o = (fA c cs g f a).n → OnA c t (fC c cs g f) (fA c cs g f a) from fun h1 h2 => by
               have hd : ¬ f.d = true := fun h => h1 (if_pos h)
               have z := HZ.out.st.fi.d
               have e := HN_eq HZ.out.st.R
               have hv : 0 ≤ lv c f := by
                 unfold lv
                 by_cases hh : HN c ≤ f.dn
                 · rw [decide_eq_true hh] at z; exact absurd z hd
                 · omega
               have q := on_step HI.out.2.1 HZ.out.st.fi (by rw [HI.out.2.2.1]; exact hW.out.2.1) hv h1 h2
               rw [HI.out.1] at q; exact q)
             have NX := hidOf (show (fG c g f).t = t ∧ Xv c (fC c cs g f) (fF c cs cnt g f) ∧ (fC c cs g f).length = n ∧ fN cnt f ≤ 2 * j + 1 from ⟨(fG_t _ _ _).trans HI.out.1, HI.out.2.1.step cnt g, by rw [fC_len]; exact HI.out.2.2.1, by have := HI.out.2.2.2; unfold fN; split <;> omega⟩)
             go_wp2_with fail
             refine SP.out.mono ?_
             rintro e w3 ⟨rfl, Z3, -⟩
             have HZ3 := hidOf Z3
             clear Z3 SP HZ HI
             obtain ⟨A, hA⟩ : ∃ A, A = fA c cs g f a := ⟨_, rfl⟩
             obtain ⟨CN, hCN⟩ : ∃ CN, CN = fN cnt f := ⟨_, rfl⟩
             obtain ⟨CS, hCS⟩ : ∃ CS, CS = fC c cs g f := ⟨_, rfl⟩
             obtain ⟨F, hF⟩ : ∃ F, F = fF c cs cnt g f := ⟨_, rfl⟩
             obtain ⟨G, hG⟩ : ∃ G, G = fG c g f := ⟨_, rfl⟩
             rw [← hA, ← hCN, ← hCS] at ON
             rw [← hCN, ← hCS, ← hF, ← hG] at NX
             rw [← hA, ← hCN, ← hCS, ← hF, ← hG] at HZ3
             clear hA hCN hCS hF hG
             have LA := hidOf (show Calls Tryd.prog 27 #[.pointer (some ⟨p, 0, none⟩)] w3 fun e w' => e = .returned (.agg #[.int .i64 A.k, .int .i64 A.c, .int .u64 A.v, .int .u64 A.o, .int .u64 A.n, .bool A.d]) ∧ Kept [] w3 w' from last_any p r CS CN A w3 HZ3.out.st.mm.bk)
             go_wp2_with fail
             refine HZ3.out.bank.mono ?_
             rintro e w4 ⟨rfl, rfl⟩
             go_wp2_with fail
             refine LA.out.mono ?_
             rintro e w5 ⟨rfl, K5⟩
             have HZ5 := hidOf (HZ3.out.new K5)
             clear K5 HZ3 LA
             obtain ⟨ab, hab⟩ : ∃ ab, ab = w5.heap.size := ⟨_, rfl⟩
             go_upto_region 10 with (fail)
             rw [← hab]
             refine gen_world (fun U => Fw W.heap.size W U fb gb m p r c G F CS CN A ∧ RW 64 U ab #[.int .i64 A.k, .int .i64 A.c, .int .u64 A.v, .int .u64 A.o, .int .u64 A.n, .bool A.d]) ?_ ?_
             · rw [hab]; exact ⟨HZ5.out.new ((Kept.refl [] w5).alloc _), RW.new 64 w5 #[.int .i64 A.k, .int .i64 A.c, .int .u64 A.v, .int .u64 A.o, .int .u64 A.n, .bool A.d]⟩
             clear hab HZ5
             rintro U ⟨UL, UB⟩
             have HU := hidOf (And.intro UL UB)
             clear UL UB
             go_wp2_with fail
             refine HU.out.1.bank.mono ?_
             rintro e w6 ⟨rfl, rfl⟩
             go_wp2_with fail
             refine HU.out.1.count.mono ?_
             rintro e w6 ⟨rfl, rfl⟩
             have a3 := cell_of_blk HU.out.2 (i := 3) (v := .int .u64 A.o) rfl
             have a4 := cell_of_blk HU.out.2 (i := 4) (v := .int .u64 A.n) rfl
             by_cases hc : CN = cnt
             · have b1 : (CN == cnt) = true := by simp [hc]
               have b2 : decide (CN = cnt) = true := by simp [hc]
               clear hc
               go_wp2
               go_roundw
               case rel => exact ⟨j + 1, by omega, by go_num, G, F, CS, CN, A, HU.out.1, hidOf ⟨NX.out.1, NX.out.2.1, NX.out.2.2.1, by have := NX.out.2.2.2; omega⟩⟩
               case measure => simp [intOf]; omega
             have b1 : (CN == cnt) = false := by simp [hc]
             have b2 : decide (CN = cnt) = false := by simp [hc]
             have HCN := hidOf hc
             clear hc
             by_cases he : A.o = A.n
             · have b3 : (A.o == A.n) = true := by simp [he]
               have b4 : decide (A.o = A.n) = true := by simp [he]
               clear he
               go_wp2
               go_roundw
               case rel => exact ⟨j + 1, by omega, by go_num, G, F, CS, CN, A, HU.out.1, hidOf ⟨NX.out.1, NX.out.2.1, NX.out.2.2.1, by have := NX.out.2.2.2; omega⟩⟩
               case measure => simp [intOf]; omega
             have b3 : (A.o == A.n) = false := by simp [he]
             have b4 : decide (A.o = A.n) = false := by simp [he]
             have OA := hidOf (ON.out HCN.out he)
             clear he ON
             go_upto_region 11 with (fail)
             clear b1 b2 b3 b4 a3 a4
             obtain ⟨P, hP⟩ : ∃ P, whV c A.c = P := ⟨_, rfl⟩
             have WH := hidOf (fun (Y : World) => where_is hP Y)
             unfold OnA at OA
             rw [hP] at OA
             clear hP
             have a1 := cell_of_blk HU.out.2 (i := 1) (v := .int .i64 A.c) rfl
             go_wp2_with (first | ((with_reducible change wpList _ _ _ (Oper.mk _ (Op.load 23 (Operand.tmp 3)) _ _ _ _ :: _) _ _); refine wpList_load_rw 23 isT_cf rfl (.tmp 3) rfl q rfl #[.int .i64 c.t, .int .i64 c.s, .int .i64 c.c, .int .i64 c.h, .int .i64 c.k, .int .i64 c.e, .int .i64 c.l] rfl (HX.out.1.kept HU.out.1.kp (by simp)) ?_))
             with_reducible refine (WH.out _).mono ?_
             rintro e w7 ⟨rfl, K7⟩
             have HU7 := hidOf (And.intro (HU.out.1.new K7) (HU.out.2.kept K7 (by simp)))
             clear K7 HU WH a1
             obtain ⟨pb, hpb⟩ : ∃ pb, pb = w7.heap.size := ⟨_, rfl⟩
             go_upto_region 12 with (fail)
             rw [← hpb]
             refine gen_world (fun V => Fw W.heap.size W V fb gb m p r c G F CS CN A ∧ RW 64 V ab #[.int .i64 A.k, .int .i64 A.c, .int .u64 A.v, .int .u64 A.o, .int .u64 A.n, .bool A.d] ∧ RW 50 V pb #[.int .i64 P.k, .int .i64 P.a, .int .i64 P.b]) ?_ ?_
             · rw [hpb]; exact ⟨HU7.out.1.new ((Kept.refl [] w7).alloc _), HU7.out.2.kept ((Kept.refl [] w7).alloc _) (by simp), RW.new 50 w7 #[.int .i64 P.k, .int .i64 P.a, .int .i64 P.b]⟩
             clear hpb HU7
             rintro U ⟨UL, UB, UP⟩
             have HU := hidOf (And.intro UL (And.intro UB UP))
             clear UL UB UP
             have SC : Hid (∀ Y : World, Kept [] U Y → Y.cell? ⟨q, 0, none⟩ = some (.int .i64 c.t) ∧ Y.cell? ⟨q, 1, none⟩ = some (.int .i64 c.s) ∧ Y.cell? ⟨q, 2, none⟩ = some (.int .i64 c.c) ∧ Y.cell? ⟨q, 3, none⟩ = some (.int .i64 c.h) ∧ Y.cell? ⟨q, 4, none⟩ = some (.int .i64 c.k) ∧ Y.cell? ⟨q, 5, none⟩ = some (.int .i64 c.e) ∧ Y.cell? ⟨q, 6, none⟩ = some (.int .i64 c.l)) := hidOf (fun Y kk => by
               have y := HX.out.1.kept (HU.out.1.kp.trans kk) (by simp)
               exact ⟨cell_of_blk y (i := 0) rfl, cell_of_blk y (i := 1) rfl, cell_of_blk y (i := 2) rfl, cell_of_blk y (i := 3) rfl, cell_of_blk y (i := 4) rfl, cell_of_blk y (i := 5) rfl, cell_of_blk y (i := 6) rfl⟩)
             have BKc : Hid (∀ Y : World, Kept [] U Y → Calls Tryd.prog 17 #[.pointer (some ⟨m, 0, none⟩)] Y fun e w' => e = .returned (.pointer (some ⟨p, 0, none⟩)) ∧ Kept [] U w') := hidOf (fun Y kk => (HU.out.1.new kk).bank.mono fun e w' hh => ⟨hh.1, by rw [hh.2]; exact kk⟩)
             have CLc : Hid (∀ Y : World, Kept [] U Y → Calls Tryd.prog 18 #[.pointer (some ⟨p, 0, none⟩)] Y fun e w' => ∃ q2, e = .returned (.slice (some ⟨q2, 0, none⟩) CS.length CS.length) ∧ Row w' q2 CS ∧ Kept [] U w') := hidOf (fun Y kk => (HU.out.1.new kk).cells.mono fun e w' hh => by
               obtain ⟨q2, e1, e2, e3⟩ := hh
               exact ⟨q2, e1, e2, kk.trans e3⟩)
             have MOc : Hid (∀ (Y : World) (q2 : Nat), Kept [] U Y → Row Y q2 CS → Calls Tryd.prog 28 #[.agg #[.int .i64 c.t, .int .i64 c.s, .int .i64 c.c, .int .i64 c.h, .int .i64 c.k, .int .i64 c.e, .int .i64 c.l], .slice (some ⟨q2, 0, none⟩) CS.length CS.length] Y fun e w' => ∃ m2 p2 r2, e = .returned (.tuple #[.pointer (some ⟨m2, 0, none⟩), .int .i64 0]) ∧ (U.heap.size ≤ m2 ∧ U.heap.size ≤ p2 ∧ U.heap.size ≤ r2) ∧ Mm w' m2 p2 r2 c CS 0 Acc.zero ∧ Kept [] U w') := hidOf (fun Y q2 kk R2 => (mof_yes c (some ⟨q2, 0, none⟩) CS CS.length CS.length Y hW.out.1 (by rw [NX.out.2.2.1]; exact hW.out.2.1) rfl R2.sl).mono fun e w' hh => by
               obtain ⟨m2, p2, r2, e1, ⟨e2, e3, e4⟩, e5, e6⟩ := hh
               have := kk.size
               exact ⟨m2, p2, r2, e1, ⟨by omega, by omega, by omega⟩, e5, kk.trans e6⟩)
             first
             | (go_region_held3 (fun Y => Y.cell? ⟨q, 0, none⟩ = some (.int .i64 c.t) ∧ Y.cell? ⟨q, 1, none⟩ = some (.int .i64 c.s) ∧ Y.cell? ⟨q, 2, none⟩ = some (.int .i64 c.c) ∧ Y.cell? ⟨q, 3, none⟩ = some (.int .i64 c.h) ∧ Y.cell? ⟨q, 4, none⟩ = some (.int .i64 c.k) ∧ Y.cell? ⟨q, 5, none⟩ = some (.int .i64 c.e) ∧ Y.cell? ⟨q, 6, none⟩ = some (.int .i64 c.l))
                 (exact SC.out _ (by first | assumption | exact (Kept.refl _ _).drew))
                 (first | (go_at_call 17; with_reducible refine (BKc.out _ (by first | assumption | exact (Kept.refl _ _).drew)).mono ?_; rintro e w8 ⟨rfl, K8⟩) | (go_at_call 18; with_reducible refine (CLc.out _ (by first | assumption | exact (Kept.refl _ _).drew)).mono ?_; rintro e w9 ⟨q2, rfl, R9, K9⟩) | (go_at_call 28; with_reducible refine (MOc.out _ _ (by first | assumption | exact (Kept.refl _ _).drew) (by assumption)).mono ?_; rintro e w10 ⟨m2, p2, r2, rfl, hb2, M2, K10⟩)))
             | fail
             have HU10 := hidOf (And.intro (HU.out.1.new K10) (And.intro (HU.out.2.1.kept K10 (by simp)) (And.intro (HU.out.2.2.kept K10 (by simp)) (And.intro M2 (And.intro hb2 K10)))))
             clear SC BKc CLc MOc M2 hb2 K10
             rcases OA.out with ⟨l, rfl⟩ | ⟨i, l, rfl, l6, wo, wn, mo, mn, hne⟩
             · have b0 := cell_of_blk HU10.out.2.2.1 (i := 0) (v := .int .i64 2) rfl
               have b1 := cell_of_blk HU10.out.2.2.1 (i := 1) (v := .int .i64 t) rfl
               have tq := cell_of_blk (HX.out.2.1.kept HU10.out.1.kp (by simp)) (i := 1) (v := .int .i64 t) rfl
               clear HU
               go_wp2
               go_roundw
               case rel => exact ⟨j + 1, by omega, by go_num, G, F, CS, CN, A, HU10.out.1, hidOf ⟨NX.out.1, NX.out.2.1, NX.out.2.2.1, by have := NX.out.2.2.2; omega⟩⟩
               case measure => simp [intOf]; omega
             obtain ⟨SV, hSV⟩ : ∃ SV, SV = fd c CS (ixV A.o) l := ⟨_, rfl⟩
             obtain ⟨IX, hIX⟩ : ∃ IX, ixV A.o = IX := ⟨_, rfl⟩
             have LD := hidOf ((mload_any m2 p2 r2 c CS 0 Acc.zero A.o l _ HU10.out.2.2.2.1 HU10.out.1.st.tb wo.1 wo.2 (Int.le_refl 0) (by omega)).mono (fun e w' hh => (show e = .returned (.int .u64 SV) ∧ Kept [p2, r2] _ w' from ⟨by rw [hSV, hh.1, ld_o]; rfl, hh.2.2⟩)))
             have WSV : isW SV := by rw [hSV]; exact rd_word HU10.out.1.st.wd _
             rw [← hSV, hIX] at hne
             have HH := hidOf (And.intro wo (And.intro wn (And.intro mo (And.intro mn (And.intro hne (And.intro WSV hIX))))))
             have b0 := cell_of_blk HU10.out.2.2.1 (i := 0) (v := .int .i64 3) rfl
             have b1 := cell_of_blk HU10.out.2.2.1 (i := 1) (v := .int .i64 i) rfl
             have b2 := cell_of_blk HU10.out.2.2.1 (i := 2) (v := .int .i64 l) rfl
             have a3 := cell_of_blk HU10.out.2.1 (i := 3) (v := .int .u64 A.o) rfl
             have d6 : decide (6 ≤ l) = true := by simpa using l6
             clear OA wo wn mo mn hne WSV hSV hIX
             go_wp2_with fail
             refine LD.out.mono ?_
             rintro e w11 ⟨rfl, K11⟩
             have KU := HU10.out.2.2.2.2.2.then K11 (by have := HU10.out.2.2.2.2.1; simp; omega)
             have HU11 := hidOf (And.intro (HU.out.1.new KU) (And.intro (HU.out.2.1.kept KU (by simp)) (HU.out.2.2.kept KU (by simp))))
             clear LD K11 KU b0 b1 b2 a3 d6 HU10 HU
             go_upto_region 17 with (fail)
             have SY : Hid (∀ Y : World, Kept [] w11 Y → Y.cell? ⟨ab, 3, none⟩ = some (.int .u64 A.o) ∧ Y.cell? ⟨pb, 1, none⟩ = some (.int .i64 i)) := hidOf (fun Y kk => ⟨cell_of_blk (HU11.out.2.1.kept kk (by simp)) (i := 3) rfl, cell_of_blk (HU11.out.2.2.kept kk (by simp)) (i := 1) rfl⟩)
             have IYc : Hid (∀ Y : World, Kept [] w11 Y → Calls Tryd.prog 29 #[.int .u64 A.o] Y fun e w' => e = .returned (.int .i64 IX) ∧ Kept [] w11 w') := hidOf (fun Y kk => (index_is HH.out.2.2.2.2.2.2 Y (HU11.out.1.new kk).st.tb HH.out.1.1 HH.out.1.2).mono fun e w' hh => ⟨hh.1, kk.trans hh.2⟩)
             by_cases hix : i = IX
             · have e1 : (i == IX) = true := by simp [hix]
               have e2 : decide (i = IX) = true := by simp [hix]
               have e3 : (i != IX) = false := by simp [hix]
               clear hix
               first
               | (go_region_held3 (fun Y => Y.cell? ⟨ab, 3, none⟩ = some (.int .u64 A.o) ∧ Y.cell? ⟨pb, 1, none⟩ = some (.int .i64 i))
                   (exact SY.out _ (by first | assumption | exact (Kept.refl _ _).drew))
                   (first | (go_at_call 29; with_reducible refine (IYc.out _ (by first | assumption | exact (Kept.refl _ _).drew)).mono ?_; rintro e w12 ⟨rfl, K12⟩)))
               | fail
               have HU12 := hidOf (And.intro (HU11.out.1.new K12) (And.intro (HU11.out.2.1.kept K12 (by simp)) (HU11.out.2.2.kept K12 (by simp))))
               clear SY IYc HU11
               have SX : Hid (∀ Y : World, Kept [] w12 Y → Y.cell? ⟨ab, 3, none⟩ = some (.int .u64 A.o) ∧ Y.cell? ⟨ab, 4, none⟩ = some (.int .u64 A.n) ∧ Y.cell? ⟨pb, 1, none⟩ = some (.int .i64 i)) := hidOf (fun Y kk => ⟨cell_of_blk (HU12.out.2.1.kept kk (by simp)) (i := 3) rfl, cell_of_blk (HU12.out.2.1.kept kk (by simp)) (i := 4) rfl, cell_of_blk (HU12.out.2.2.kept kk (by simp)) (i := 1) rfl⟩)
               have IXc : Hid (∀ Y : World, Kept [] w12 Y → Calls Tryd.prog 29 #[.int .u64 A.o] Y fun e w' => e = .returned (.int .i64 IX) ∧ Kept [] w12 w') := hidOf (fun Y kk => (index_is HH.out.2.2.2.2.2.2 Y (HU12.out.1.new kk).st.tb HH.out.1.1 HH.out.1.2).mono fun e w' hh => ⟨hh.1, kk.trans hh.2⟩)
               have MOc : Hid (∀ Y : World, Kept [] w12 Y → Calls Tryd.prog 30 #[.int .u64 A.o] Y fun e w' => e = .returned (.bool false) ∧ Kept [] w12 w') := hidOf (fun Y kk => (marked_any A.o Y (HU12.out.1.new kk).st.tb HH.out.1.1 HH.out.1.2).mono fun e w' hh => ⟨by rw [hh.1, HH.out.2.2.1], kk.trans hh.2⟩)
               have MNc : Hid (∀ Y : World, Kept [] w12 Y → Calls Tryd.prog 30 #[.int .u64 A.n] Y fun e w' => e = .returned (.bool false) ∧ Kept [] w12 w') := hidOf (fun Y kk => (marked_any A.n Y (HU12.out.1.new kk).st.tb HH.out.2.1.1 HH.out.2.1.2).mono fun e w' hh => ⟨by rw [hh.1, HH.out.2.2.2.1], kk.trans hh.2⟩)
               have a3 := cell_of_blk HU12.out.2.1 (i := 3) (v := .int .u64 A.o) rfl
               go_upto_region 19 with (fail)
               clear a3
               refine wp_region_held_drew (S := fun Y => Kept [] w12 Y ∧ Y.cell? ⟨ab, 3, none⟩ = some (.int .u64 A.o) ∧ Y.cell? ⟨ab, 4, none⟩ = some (.int .u64 A.n) ∧ Y.cell? ⟨pb, 1, none⟩ = some (.int .i64 i)) (by kernel_rfl) ⟨(Kept.refl _ _).drew, SX.out _ (Kept.refl _ _).drew⟩ (fun hS => ?_)
               refine wpAnyH_take (i := 0) (oi := { dst := some 132, op := Op.fieldAddr 64 (Operand.tmp 13) 3, type := 0, pos := "law.go:182", after := #[], guard := none }) (v := .pointer (some ⟨ab, 3, none⟩)) rfl (by kernel_rfl) (by kernel_rfl) (by kernel_rfl) (fun _ _ _ h => h) (Or.inl ⟨by rfl, fun w hSw => by obtain ⟨_, h3, h4, h1⟩ := hSw; go_simp⟩) hS ?_
               try simp only [Act.put, List.setIfInBounds_toArray, List.set_cons_zero, List.set_cons_succ]
               refine wpAnyH_take (i := 1) (oi := { dst := some 133, op := Op.load 25 (Operand.tmp 132), type := 25, pos := "law.go:182", after := #[{ on := 0, ground := Ground.data }], guard := none }) (v := .int .u64 A.o) rfl (by kernel_rfl) (by kernel_rfl) (by kernel_rfl) (fun _ _ _ h => h) (Or.inl ⟨by rfl, fun w hSw => by obtain ⟨_, h3, h4, h1⟩ := hSw; go_simp⟩) hS ?_
               try simp only [Act.put, List.setIfInBounds_toArray, List.set_cons_zero, List.set_cons_succ]
               refine wpAnyH_ready (rs := [2]) (by kernel_rfl) (by simp) ?_
               refine AllReadyH.cons (o := { dst := some 134, op := Op.call { callee := Callee.value (Operand.func 30), args := #[Operand.tmp 133], argTypes := #[25] }, type := 4, pos := "law.go:182", after := #[{ on := 1, ground := Ground.data }], guard := none }) rfl (fun K hK => ?_) AllReadyH.nil
               rw [if_pos (by rfl)]
               refine wp_calls 30 #[.int .u64 A.o] (by kernel_rfl) (fun v V => v = .bool false ∧ Kept [] w12 V) ((MOc.out _ hS.1).mono fun e w' hh => ⟨_, hh.1, rfl, hh.2⟩) ?_
               rintro _ wk0 ⟨rfl, KK0⟩
               try simp only [Act.put, List.setIfInBounds_toArray, List.set_cons_zero, List.set_cons_succ]
               refine hK.out _ _ (⟨KK0, SX.out _ KK0⟩) (fun hS => ?_)
               clear hK K
               refine wpAnyH_take (i := 3) (oi := { dst := some 135, op := Op.move (Operand.tmp 134), type := 4, pos := "law.go:182", after := #[{ on := 2, ground := Ground.data }, { on := 2, ground := Ground.chain }], guard := none }) (v := .bool false) rfl (by kernel_rfl) (by kernel_rfl) (by kernel_rfl) (fun _ _ _ h => h) (Or.inl ⟨by rfl, fun w hSw => by obtain ⟨_, h3, h4, h1⟩ := hSw; go_simp⟩) hS ?_
               try simp only [Act.put, List.setIfInBounds_toArray, List.set_cons_zero, List.set_cons_succ]
               refine wpAnyH_take (i := 4) (oi := { dst := some 136, op := Op.fieldAddr 64 (Operand.tmp 13) 4, type := 0, pos := "law.go:182", after := #[{ on := 3, ground := Ground.guard }], guard := some (3, false) }) (v := .pointer (some ⟨ab, 4, none⟩)) rfl (by kernel_rfl) (by kernel_rfl) (by kernel_rfl) (fun _ _ _ h => h) (Or.inl ⟨by rfl, fun w hSw => by obtain ⟨_, h3, h4, h1⟩ := hSw; go_simp⟩) hS ?_
               try simp only [Act.put, List.setIfInBounds_toArray, List.set_cons_zero, List.set_cons_succ]
               refine wpAnyH_take (i := 5) (oi := { dst := some 137, op := Op.load 25 (Operand.tmp 136), type := 25, pos := "law.go:182", after := #[{ on := 4, ground := Ground.data }, { on := 3, ground := Ground.guard }], guard := some (3, false) }) (v := .int .u64 A.n) rfl (by kernel_rfl) (by kernel_rfl) (by kernel_rfl) (fun _ _ _ h => h) (Or.inl ⟨by rfl, fun w hSw => by obtain ⟨_, h3, h4, h1⟩ := hSw; go_simp⟩) hS ?_
               try simp only [Act.put, List.setIfInBounds_toArray, List.set_cons_zero, List.set_cons_succ]
               refine wpAnyH_ready (rs := [6]) (by kernel_rfl) (by simp) ?_
               refine AllReadyH.cons (o := { dst := some 138, op := Op.call { callee := Callee.value (Operand.func 30), args := #[Operand.tmp 137], argTypes := #[25] }, type := 4, pos := "law.go:182", after := #[{ on := 5, ground := Ground.data }, { on := 3, ground := Ground.chain }, { on := 3, ground := Ground.guard }], guard := some (3, false) }) rfl (fun K hK => ?_) AllReadyH.nil
               rw [if_pos (by rfl)]
               refine wp_calls 30 #[.int .u64 A.n] (by kernel_rfl) (fun v V => v = .bool false ∧ Kept [] w12 V) ((MNc.out _ hS.1).mono fun e w' hh => ⟨_, hh.1, rfl, hh.2⟩) ?_
               rintro _ wk1 ⟨rfl, KK1⟩
               try simp only [Act.put, List.setIfInBounds_toArray, List.set_cons_zero, List.set_cons_succ]
               refine hK.out _ _ (⟨KK1, SX.out _ KK1⟩) (fun hS => ?_)
               clear hK K
               refine wpAnyH_take (i := 7) (oi := { dst := some 139, op := Op.pick (Operand.tmp 135) (Operand.const (Value.bool true)) (Operand.tmp 138), type := 4, pos := "law.go:182", after := #[{ on := 3, ground := Ground.data }, { on := 6, ground := Ground.data }], guard := none }) (v := .bool false) rfl (by kernel_rfl) (by kernel_rfl) (by kernel_rfl) (fun _ _ _ h => h) (Or.inl ⟨by rfl, fun w hSw => by obtain ⟨_, h3, h4, h1⟩ := hSw; go_simp⟩) hS ?_
               try simp only [Act.put, List.setIfInBounds_toArray, List.set_cons_zero, List.set_cons_succ]
               refine wpAnyH_take (i := 8) (oi := { dst := some 140, op := Op.move (Operand.tmp 139), type := 4, pos := "law.go:182", after := #[{ on := 7, ground := Ground.data }, { on := 6, ground := Ground.chain }], guard := none }) (v := .bool false) rfl (by kernel_rfl) (by kernel_rfl) (by kernel_rfl) (fun _ _ _ h => h) (Or.inl ⟨by rfl, fun w hSw => by obtain ⟨_, h3, h4, h1⟩ := hSw; go_simp⟩) hS ?_
               try simp only [Act.put, List.setIfInBounds_toArray, List.set_cons_zero, List.set_cons_succ]
               refine wpAnyH_take (i := 9) (oi := { dst := some 141, op := Op.move (Operand.tmp 17), type := 25, pos := "law.go:182", after := #[{ on := 8, ground := Ground.guard }], guard := some (8, false) }) (v := .int .u64 A.o) rfl (by kernel_rfl) (by kernel_rfl) (by kernel_rfl) (fun _ _ _ h => h) (Or.inl ⟨by rfl, fun w hSw => by obtain ⟨_, h3, h4, h1⟩ := hSw; go_simp⟩) hS ?_
               try simp only [Act.put, List.setIfInBounds_toArray, List.set_cons_zero, List.set_cons_succ]
               refine wpAnyH_ready (rs := [10]) (by kernel_rfl) (by simp) ?_
               refine AllReadyH.cons (o := { dst := some 142, op := Op.call { callee := Callee.value (Operand.func 30), args := #[Operand.tmp 141], argTypes := #[25] }, type := 4, pos := "law.go:182", after := #[{ on := 9, ground := Ground.data }, { on := 8, ground := Ground.chain }, { on := 8, ground := Ground.guard }], guard := some (8, false) }) rfl (fun K hK => ?_) AllReadyH.nil
               rw [if_pos (by rfl)]
               refine wp_calls 30 #[.int .u64 A.o] (by kernel_rfl) (fun v V => v = .bool false ∧ Kept [] w12 V) ((MOc.out _ hS.1).mono fun e w' hh => ⟨_, hh.1, rfl, hh.2⟩) ?_
               rintro _ wk2 ⟨rfl, KK2⟩
               try simp only [Act.put, List.setIfInBounds_toArray, List.set_cons_zero, List.set_cons_succ]
               refine hK.out _ _ (⟨KK2, SX.out _ KK2⟩) (fun hS => ?_)
               clear hK K
               refine wpAnyH_take (i := 11) (oi := { dst := some 143, op := Op.unOp UnOp.not 4 (Operand.tmp 142), type := 4, pos := "law.go:182", after := #[{ on := 10, ground := Ground.data }, { on := 8, ground := Ground.guard }], guard := some (8, false) }) (v := .bool true) rfl (by kernel_rfl) (by kernel_rfl) (by kernel_rfl) (fun _ _ _ h => h) (Or.inl ⟨by rfl, fun w hSw => by obtain ⟨_, h3, h4, h1⟩ := hSw; go_simp⟩) hS ?_
               try simp only [Act.put, List.setIfInBounds_toArray, List.set_cons_zero, List.set_cons_succ]
               refine wpAnyH_take (i := 12) (oi := { dst := some 144, op := Op.move (Operand.tmp 143), type := 4, pos := "law.go:182", after := #[{ on := 11, ground := Ground.data }, { on := 10, ground := Ground.chain }, { on := 8, ground := Ground.guard }], guard := some (8, false) }) (v := .bool true) rfl (by kernel_rfl) (by kernel_rfl) (by kernel_rfl) (fun _ _ _ h => h) (Or.inl ⟨by rfl, fun w hSw => by obtain ⟨_, h3, h4, h1⟩ := hSw; go_simp⟩) hS ?_
               try simp only [Act.put, List.setIfInBounds_toArray, List.set_cons_zero, List.set_cons_succ]
               refine wpAnyH_take (i := 13) (oi := { dst := some 145, op := Op.fieldAddr 50 (Operand.tmp 14) 1, type := 0, pos := "law.go:182", after := #[{ on := 12, ground := Ground.guard }], guard := some (12, true) }) (v := .pointer (some ⟨pb, 1, none⟩)) rfl (by kernel_rfl) (by kernel_rfl) (by kernel_rfl) (fun _ _ _ h => h) (Or.inl ⟨by rfl, fun w hSw => by obtain ⟨_, h3, h4, h1⟩ := hSw; go_simp⟩) hS ?_
               try simp only [Act.put, List.setIfInBounds_toArray, List.set_cons_zero, List.set_cons_succ]
               refine wpAnyH_take (i := 14) (oi := { dst := some 146, op := Op.load 3 (Operand.tmp 145), type := 3, pos := "law.go:182", after := #[{ on := 13, ground := Ground.data }, { on := 12, ground := Ground.guard }], guard := some (12, true) }) (v := .int .i64 i) rfl (by kernel_rfl) (by kernel_rfl) (by kernel_rfl) (fun _ _ _ h => h) (Or.inl ⟨by rfl, fun w hSw => by obtain ⟨_, h3, h4, h1⟩ := hSw; go_simp⟩) hS ?_
               try simp only [Act.put, List.setIfInBounds_toArray, List.set_cons_zero, List.set_cons_succ]
               refine wpAnyH_take (i := 15) (oi := { dst := some 147, op := Op.fieldAddr 64 (Operand.tmp 13) 3, type := 0, pos := "law.go:182", after := #[{ on := 12, ground := Ground.guard }], guard := some (12, true) }) (v := .pointer (some ⟨ab, 3, none⟩)) rfl (by kernel_rfl) (by kernel_rfl) (by kernel_rfl) (fun _ _ _ h => h) (Or.inl ⟨by rfl, fun w hSw => by obtain ⟨_, h3, h4, h1⟩ := hSw; go_simp⟩) hS ?_
               try simp only [Act.put, List.setIfInBounds_toArray, List.set_cons_zero, List.set_cons_succ]
               refine wpAnyH_take (i := 16) (oi := { dst := some 148, op := Op.load 25 (Operand.tmp 147), type := 25, pos := "law.go:182", after := #[{ on := 15, ground := Ground.data }, { on := 12, ground := Ground.guard }], guard := some (12, true) }) (v := .int .u64 A.o) rfl (by kernel_rfl) (by kernel_rfl) (by kernel_rfl) (fun _ _ _ h => h) (Or.inl ⟨by rfl, fun w hSw => by obtain ⟨_, h3, h4, h1⟩ := hSw; go_simp⟩) hS ?_
               try simp only [Act.put, List.setIfInBounds_toArray, List.set_cons_zero, List.set_cons_succ]
               refine wpAnyH_ready (rs := [17]) (by kernel_rfl) (by simp) ?_
               refine AllReadyH.cons (o := { dst := some 149, op := Op.call { callee := Callee.value (Operand.func 29), args := #[Operand.tmp 148], argTypes := #[25] }, type := 3, pos := "law.go:182", after := #[{ on := 16, ground := Ground.data }, { on := 12, ground := Ground.chain }, { on := 12, ground := Ground.guard }], guard := some (12, true) }) rfl (fun K hK => ?_) AllReadyH.nil
               rw [if_pos (by rfl)]
               refine wp_calls 29 #[.int .u64 A.o] (by kernel_rfl) (fun v V => v = .int .i64 IX ∧ Kept [] w12 V) ((IXc.out _ hS.1).mono fun e w' hh => ⟨_, hh.1, rfl, hh.2⟩) ?_
               rintro _ wk3 ⟨rfl, KK3⟩
               try simp only [Act.put, List.setIfInBounds_toArray, List.set_cons_zero, List.set_cons_succ]
               refine hK.out _ _ (⟨KK3, SX.out _ KK3⟩) (fun hS => ?_)
               clear hK K
               refine wpAnyH_take (i := 18) (oi := { dst := some 150, op := Op.binOp BinOp.neq 3 (Operand.tmp 146) (Operand.tmp 149) 3, type := 4, pos := "law.go:182", after := #[{ on := 14, ground := Ground.data }, { on := 17, ground := Ground.data }, { on := 12, ground := Ground.guard }], guard := some (12, true) }) (v := .bool false) rfl (by kernel_rfl) (by kernel_rfl) (by kernel_rfl) (fun _ _ _ h => h) (Or.inl ⟨by rfl, fun w hSw => by obtain ⟨_, h3, h4, h1⟩ := hSw; go_simp⟩) hS ?_
               try simp only [Act.put, List.setIfInBounds_toArray, List.set_cons_zero, List.set_cons_succ]
               refine wpAnyH_take (i := 19) (oi := { dst := some 151, op := Op.pick (Operand.tmp 144) (Operand.tmp 150) (Operand.const (Value.bool false)), type := 4, pos := "law.go:182", after := #[{ on := 12, ground := Ground.data }, { on := 18, ground := Ground.data }, { on := 8, ground := Ground.guard }], guard := some (8, false) }) (v := .bool false) rfl (by kernel_rfl) (by kernel_rfl) (by kernel_rfl) (fun _ _ _ h => h) (Or.inl ⟨by rfl, fun w hSw => by obtain ⟨_, h3, h4, h1⟩ := hSw; go_simp⟩) hS ?_
               try simp only [Act.put, List.setIfInBounds_toArray, List.set_cons_zero, List.set_cons_succ]
               refine wpAnyH_take (i := 20) (oi := { dst := some 152, op := Op.pick (Operand.tmp 140) (Operand.const (Value.bool true)) (Operand.tmp 151), type := 4, pos := "law.go:182", after := #[{ on := 8, ground := Ground.data }, { on := 19, ground := Ground.data }], guard := none }) (v := .bool false) rfl (by kernel_rfl) (by kernel_rfl) (by kernel_rfl) (fun _ _ _ h => h) (Or.inl ⟨by rfl, fun w hSw => by obtain ⟨_, h3, h4, h1⟩ := hSw; go_simp⟩) hS ?_
               try simp only [Act.put, List.setIfInBounds_toArray, List.set_cons_zero, List.set_cons_succ]
               refine wpAnyH_take (i := 21) (oi := { dst := some 153, op := Op.move (Operand.tmp 152), type := 4, pos := "law.go:182", after := #[{ on := 20, ground := Ground.data }, { on := 17, ground := Ground.chain }], guard := none }) (v := .bool false) rfl (by kernel_rfl) (by kernel_rfl) (by kernel_rfl) (fun _ _ _ h => h) (Or.inl ⟨by rfl, fun w hSw => by obtain ⟨_, h3, h4, h1⟩ := hSw; go_simp⟩) hS ?_
               try simp only [Act.put, List.setIfInBounds_toArray, List.set_cons_zero, List.set_cons_succ]
               refine wpAnyH_take (i := 22) (oi := { dst := some 154, op := Op.fieldAddr 50 (Operand.tmp 14) 1, type := 0, pos := "law.go:182", after := #[{ on := 21, ground := Ground.guard }], guard := some (21, false) }) (v := .pointer (some ⟨pb, 1, none⟩)) rfl (by kernel_rfl) (by kernel_rfl) (by kernel_rfl) (fun _ _ _ h => h) (Or.inl ⟨by rfl, fun w hSw => by obtain ⟨_, h3, h4, h1⟩ := hSw; go_simp⟩) hS ?_
               try simp only [Act.put, List.setIfInBounds_toArray, List.set_cons_zero, List.set_cons_succ]
               refine wpAnyH_take (i := 23) (oi := { dst := some 155, op := Op.load 3 (Operand.tmp 154), type := 3, pos := "law.go:182", after := #[{ on := 22, ground := Ground.data }, { on := 21, ground := Ground.guard }], guard := some (21, false) }) (v := .int .i64 i) rfl (by kernel_rfl) (by kernel_rfl) (by kernel_rfl) (fun _ _ _ h => h) (Or.inl ⟨by rfl, fun w hSw => by obtain ⟨_, h3, h4, h1⟩ := hSw; go_simp⟩) hS ?_
               try simp only [Act.put, List.setIfInBounds_toArray, List.set_cons_zero, List.set_cons_succ]
               refine wpAnyH_take (i := 24) (oi := { dst := some 156, op := Op.fieldAddr 64 (Operand.tmp 13) 3, type := 0, pos := "law.go:182", after := #[{ on := 21, ground := Ground.guard }], guard := some (21, false) }) (v := .pointer (some ⟨ab, 3, none⟩)) rfl (by kernel_rfl) (by kernel_rfl) (by kernel_rfl) (fun _ _ _ h => h) (Or.inl ⟨by rfl, fun w hSw => by obtain ⟨_, h3, h4, h1⟩ := hSw; go_simp⟩) hS ?_
               try simp only [Act.put, List.setIfInBounds_toArray, List.set_cons_zero, List.set_cons_succ]
               refine wpAnyH_take (i := 25) (oi := { dst := some 157, op := Op.load 25 (Operand.tmp 156), type := 25, pos := "law.go:182", after := #[{ on := 24, ground := Ground.data }, { on := 21, ground := Ground.guard }], guard := some (21, false) }) (v := .int .u64 A.o) rfl (by kernel_rfl) (by kernel_rfl) (by kernel_rfl) (fun _ _ _ h => h) (Or.inl ⟨by rfl, fun w hSw => by obtain ⟨_, h3, h4, h1⟩ := hSw; go_simp⟩) hS ?_
               try simp only [Act.put, List.setIfInBounds_toArray, List.set_cons_zero, List.set_cons_succ]
               refine wpAnyH_ready (rs := [26]) (by kernel_rfl) (by simp) ?_
               refine AllReadyH.cons (o := { dst := some 158, op := Op.call { callee := Callee.value (Operand.func 29), args := #[Operand.tmp 157], argTypes := #[25] }, type := 3, pos := "law.go:182", after := #[{ on := 25, ground := Ground.data }, { on := 21, ground := Ground.chain }, { on := 21, ground := Ground.guard }], guard := some (21, false) }) rfl (fun K hK => ?_) AllReadyH.nil
               rw [if_pos (by rfl)]
               refine wp_calls 29 #[.int .u64 A.o] (by kernel_rfl) (fun v V => v = .int .i64 IX ∧ Kept [] w12 V) ((IXc.out _ hS.1).mono fun e w' hh => ⟨_, hh.1, rfl, hh.2⟩) ?_
               rintro _ wk4 ⟨rfl, KK4⟩
               try simp only [Act.put, List.setIfInBounds_toArray, List.set_cons_zero, List.set_cons_succ]
               refine hK.out _ _ (⟨KK4, SX.out _ KK4⟩) (fun hS => ?_)
               clear hK K
               refine wpAnyH_take (i := 27) (oi := { dst := some 159, op := Op.binOp BinOp.neq 3 (Operand.tmp 155) (Operand.tmp 158) 3, type := 4, pos := "law.go:182", after := #[{ on := 23, ground := Ground.data }, { on := 26, ground := Ground.data }, { on := 21, ground := Ground.guard }], guard := some (21, false) }) (v := .bool false) rfl (by kernel_rfl) (by kernel_rfl) (by kernel_rfl) (fun _ _ _ h => h) (Or.inl ⟨by rfl, fun w hSw => by obtain ⟨_, h3, h4, h1⟩ := hSw; go_simp⟩) hS ?_
               try simp only [Act.put, List.setIfInBounds_toArray, List.set_cons_zero, List.set_cons_succ]
               refine wpAnyH_take (i := 28) (oi := { dst := some 160, op := Op.move (Operand.tmp 159), type := 4, pos := "law.go:182", after := #[{ on := 27, ground := Ground.data }, { on := 26, ground := Ground.chain }, { on := 21, ground := Ground.guard }], guard := some (21, false) }) (v := .bool false) rfl (by kernel_rfl) (by kernel_rfl) (by kernel_rfl) (fun _ _ _ h => h) (Or.inl ⟨by rfl, fun w hSw => by obtain ⟨_, h3, h4, h1⟩ := hSw; go_simp⟩) hS ?_
               try simp only [Act.put, List.setIfInBounds_toArray, List.set_cons_zero, List.set_cons_succ]
               refine wpAnyH_take (i := 29) (oi := { dst := some 161, op := Op.move (Operand.tmp 17), type := 25, pos := "law.go:182", after := #[{ on := 28, ground := Ground.guard }], guard := some (28, true) }) (v := undef) rfl (by kernel_rfl) (by kernel_rfl) (by kernel_rfl) (fun _ _ _ h => h) (Or.inr ⟨by kernel_rfl, rfl⟩) hS ?_
               try simp only [Act.put, List.setIfInBounds_toArray, List.set_cons_zero, List.set_cons_succ]
               refine wpAnyH_take (i := 30) (oi := { dst := some 162, op := Op.call { callee := Callee.value (Operand.func 31), args := #[Operand.tmp 161], argTypes := #[25] }, type := 25, pos := "law.go:182", after := #[{ on := 29, ground := Ground.data }, { on := 28, ground := Ground.chain }, { on := 28, ground := Ground.guard }], guard := some (28, true) }) (v := undef) rfl (by kernel_rfl) (by kernel_rfl) (by kernel_rfl) (fun _ _ _ h => h) (Or.inr ⟨by kernel_rfl, rfl⟩) hS ?_
               try simp only [Act.put, List.setIfInBounds_toArray, List.set_cons_zero, List.set_cons_succ]
               refine wpAnyH_take (i := 31) (oi := { dst := some 163, op := Op.fieldAddr 64 (Operand.tmp 13) 4, type := 0, pos := "law.go:182", after := #[{ on := 28, ground := Ground.guard }], guard := some (28, true) }) (v := undef) rfl (by kernel_rfl) (by kernel_rfl) (by kernel_rfl) (fun _ _ _ h => h) (Or.inr ⟨by kernel_rfl, rfl⟩) hS ?_
               try simp only [Act.put, List.setIfInBounds_toArray, List.set_cons_zero, List.set_cons_succ]
               refine wpAnyH_take (i := 32) (oi := { dst := some 164, op := Op.load 25 (Operand.tmp 163), type := 25, pos := "law.go:182", after := #[{ on := 31, ground := Ground.data }, { on := 28, ground := Ground.guard }], guard := some (28, true) }) (v := undef) rfl (by kernel_rfl) (by kernel_rfl) (by kernel_rfl) (fun _ _ _ h => h) (Or.inr ⟨by kernel_rfl, rfl⟩) hS ?_
               try simp only [Act.put, List.setIfInBounds_toArray, List.set_cons_zero, List.set_cons_succ]
               refine wpAnyH_take (i := 33) (oi := { dst := some 165, op := Op.binOp BinOp.neq 25 (Operand.tmp 162) (Operand.tmp 164) 25, type := 4, pos := "law.go:182", after := #[{ on := 30, ground := Ground.data }, { on := 32, ground := Ground.data }, { on := 28, ground := Ground.guard }], guard := some (28, true) }) (v := undef) rfl (by kernel_rfl) (by kernel_rfl) (by kernel_rfl) (fun _ _ _ h => h) (Or.inr ⟨by kernel_rfl, rfl⟩) hS ?_
               try simp only [Act.put, List.setIfInBounds_toArray, List.set_cons_zero, List.set_cons_succ]
               refine wpAnyH_take (i := 34) (oi := { dst := some 166, op := Op.pick (Operand.tmp 160) (Operand.tmp 165) (Operand.const (Value.bool false)), type := 4, pos := "law.go:182", after := #[{ on := 28, ground := Ground.data }, { on := 33, ground := Ground.data }, { on := 21, ground := Ground.guard }], guard := some (21, false) }) (v := .bool false) rfl (by kernel_rfl) (by kernel_rfl) (by kernel_rfl) (fun _ _ _ h => h) (Or.inl ⟨by rfl, fun w hSw => by obtain ⟨_, h3, h4, h1⟩ := hSw; go_simp⟩) hS ?_
               try simp only [Act.put, List.setIfInBounds_toArray, List.set_cons_zero, List.set_cons_succ]
               refine wpAnyH_take (i := 35) (oi := { dst := some 167, op := Op.pick (Operand.tmp 153) (Operand.const (Value.bool true)) (Operand.tmp 166), type := 4, pos := "law.go:182", after := #[{ on := 21, ground := Ground.data }, { on := 34, ground := Ground.data }], guard := none }) (v := .bool false) rfl (by kernel_rfl) (by kernel_rfl) (by kernel_rfl) (fun _ _ _ h => h) (Or.inl ⟨by rfl, fun w hSw => by obtain ⟨_, h3, h4, h1⟩ := hSw; go_simp⟩) hS ?_
               try simp only [Act.put, List.setIfInBounds_toArray, List.set_cons_zero, List.set_cons_succ]
               refine wpAnyH_done (by kernel_rfl) ?_ _
               have nouse := hS
               clear nouse hS
               go_wp2
               go_roundw
               case rel => exact ⟨j + 1, by omega, by go_num, G, F, CS, CN, A, HU12.out.1.new KK4, hidOf ⟨NX.out.1, NX.out.2.1, NX.out.2.2.1, by have := NX.out.2.2.2; omega⟩⟩
               case measure => simp [intOf]; omega
             have e1 : (i == IX) = false := by simp [hix]
             have e2 : decide (i = IX) = false := by simp [hix]
             have e3 : (i != IX) = true := by simp [hix]
             have HS2 := hidOf (HH.out.2.2.2.2.1 hix)
             clear hix
             first
             | (go_region_held3 (fun Y => Y.cell? ⟨ab, 3, none⟩ = some (.int .u64 A.o) ∧ Y.cell? ⟨pb, 1, none⟩ = some (.int .i64 i))
                 (exact SY.out _ (by first | assumption | exact (Kept.refl _ _).drew))
                 (first | (go_at_call 29; with_reducible refine (IYc.out _ (by first | assumption | exact (Kept.refl _ _).drew)).mono ?_; rintro e w12 ⟨rfl, K12⟩)))
             | fail
             have HU12 := hidOf (And.intro (HU11.out.1.new K12) (And.intro (HU11.out.2.1.kept K12 (by simp)) (HU11.out.2.2.kept K12 (by simp))))
             clear SY IYc HU11
             have SX : Hid (∀ Y : World, Kept [] w12 Y → Y.cell? ⟨ab, 3, none⟩ = some (.int .u64 A.o) ∧ Y.cell? ⟨ab, 4, none⟩ = some (.int .u64 A.n) ∧ Y.cell? ⟨pb, 1, none⟩ = some (.int .i64 i)) := hidOf (fun Y kk => ⟨cell_of_blk (HU12.out.2.1.kept kk (by simp)) (i := 3) rfl, cell_of_blk (HU12.out.2.1.kept kk (by simp)) (i := 4) rfl, cell_of_blk (HU12.out.2.2.kept kk (by simp)) (i := 1) rfl⟩)
             have IXc : Hid (∀ Y : World, Kept [] w12 Y → Calls Tryd.prog 29 #[.int .u64 A.o] Y fun e w' => e = .returned (.int .i64 IX) ∧ Kept [] w12 w') := hidOf (fun Y kk => (index_is HH.out.2.2.2.2.2.2 Y (HU12.out.1.new kk).st.tb HH.out.1.1 HH.out.1.2).mono fun e w' hh => ⟨hh.1, kk.trans hh.2⟩)
             have MOc : Hid (∀ Y : World, Kept [] w12 Y → Calls Tryd.prog 30 #[.int .u64 A.o] Y fun e w' => e = .returned (.bool false) ∧ Kept [] w12 w') := hidOf (fun Y kk => (marked_any A.o Y (HU12.out.1.new kk).st.tb HH.out.1.1 HH.out.1.2).mono fun e w' hh => ⟨by rw [hh.1, HH.out.2.2.1], kk.trans hh.2⟩)
             have MNc : Hid (∀ Y : World, Kept [] w12 Y → Calls Tryd.prog 30 #[.int .u64 A.n] Y fun e w' => e = .returned (.bool false) ∧ Kept [] w12 w') := hidOf (fun Y kk => (marked_any A.n Y (HU12.out.1.new kk).st.tb HH.out.2.1.1 HH.out.2.1.2).mono fun e w' hh => ⟨by rw [hh.1, HH.out.2.2.2.1], kk.trans hh.2⟩)
             have MSc : Hid (∀ Y : World, Kept [] w12 Y → Calls Tryd.prog 30 #[.int .u64 SV] Y fun e w' => e = .returned (.bool true) ∧ Kept [] w12 w') := hidOf (fun Y kk => (marked_any SV Y (HU12.out.1.new kk).st.tb HH.out.2.2.2.2.2.1.1 HH.out.2.2.2.2.2.1.2).mono fun e w' hh => ⟨by rw [hh.1, HS2.out.1], kk.trans hh.2⟩)
             have PSc : Hid (∀ Y : World, Kept [] w12 Y → Calls Tryd.prog 31 #[.int .u64 SV] Y fun e w' => e = .returned (.int .u64 A.n) ∧ Kept [] w12 w') := hidOf (fun Y kk => (plain_any SV Y (HU12.out.1.new kk).st.tb HH.out.2.2.2.2.2.1.1 HH.out.2.2.2.2.2.1.2).mono fun e w' hh => ⟨by rw [hh.1, HS2.out.2], kk.trans hh.2⟩)
             go_upto_region 19 with (fail)
             refine wp_region_held_drew (S := fun Y => Kept [] w12 Y ∧ Y.cell? ⟨ab, 3, none⟩ = some (.int .u64 A.o) ∧ Y.cell? ⟨ab, 4, none⟩ = some (.int .u64 A.n) ∧ Y.cell? ⟨pb, 1, none⟩ = some (.int .i64 i)) (by kernel_rfl) ⟨(Kept.refl _ _).drew, SX.out _ (Kept.refl _ _).drew⟩ (fun hS => ?_)
             refine wpAnyH_take (i := 0) (oi := { dst := some 132, op := Op.fieldAddr 64 (Operand.tmp 13) 3, type := 0, pos := "law.go:182", after := #[], guard := none }) (v := .pointer (some ⟨ab, 3, none⟩)) rfl (by kernel_rfl) (by kernel_rfl) (by kernel_rfl) (fun _ _ _ h => h) (Or.inl ⟨by rfl, fun w hSw => by obtain ⟨_, h3, h4, h1⟩ := hSw; go_simp⟩) hS ?_
             try simp only [Act.put, List.setIfInBounds_toArray, List.set_cons_zero, List.set_cons_succ]
             refine wpAnyH_take (i := 1) (oi := { dst := some 133, op := Op.load 25 (Operand.tmp 132), type := 25, pos := "law.go:182", after := #[{ on := 0, ground := Ground.data }], guard := none }) (v := .int .u64 A.o) rfl (by kernel_rfl) (by kernel_rfl) (by kernel_rfl) (fun _ _ _ h => h) (Or.inl ⟨by rfl, fun w hSw => by obtain ⟨_, h3, h4, h1⟩ := hSw; go_simp⟩) hS ?_
             try simp only [Act.put, List.setIfInBounds_toArray, List.set_cons_zero, List.set_cons_succ]
             refine wpAnyH_ready (rs := [2]) (by kernel_rfl) (by simp) ?_
             refine AllReadyH.cons (o := { dst := some 134, op := Op.call { callee := Callee.value (Operand.func 30), args := #[Operand.tmp 133], argTypes := #[25] }, type := 4, pos := "law.go:182", after := #[{ on := 1, ground := Ground.data }], guard := none }) rfl (fun K hK => ?_) AllReadyH.nil
             rw [if_pos (by rfl)]
             refine wp_calls 30 #[.int .u64 A.o] (by kernel_rfl) (fun v V => v = .bool false ∧ Kept [] w12 V) ((MOc.out _ hS.1).mono fun e w' hh => ⟨_, hh.1, rfl, hh.2⟩) ?_
             rintro _ wk0 ⟨rfl, KK0⟩
             try simp only [Act.put, List.setIfInBounds_toArray, List.set_cons_zero, List.set_cons_succ]
             refine hK.out _ _ (⟨KK0, SX.out _ KK0⟩) (fun hS => ?_)
             clear hK K
             refine wpAnyH_take (i := 3) (oi := { dst := some 135, op := Op.move (Operand.tmp 134), type := 4, pos := "law.go:182", after := #[{ on := 2, ground := Ground.data }, { on := 2, ground := Ground.chain }], guard := none }) (v := .bool false) rfl (by kernel_rfl) (by kernel_rfl) (by kernel_rfl) (fun _ _ _ h => h) (Or.inl ⟨by rfl, fun w hSw => by obtain ⟨_, h3, h4, h1⟩ := hSw; go_simp⟩) hS ?_
             try simp only [Act.put, List.setIfInBounds_toArray, List.set_cons_zero, List.set_cons_succ]
             refine wpAnyH_take (i := 4) (oi := { dst := some 136, op := Op.fieldAddr 64 (Operand.tmp 13) 4, type := 0, pos := "law.go:182", after := #[{ on := 3, ground := Ground.guard }], guard := some (3, false) }) (v := .pointer (some ⟨ab, 4, none⟩)) rfl (by kernel_rfl) (by kernel_rfl) (by kernel_rfl) (fun _ _ _ h => h) (Or.inl ⟨by rfl, fun w hSw => by obtain ⟨_, h3, h4, h1⟩ := hSw; go_simp⟩) hS ?_
             try simp only [Act.put, List.setIfInBounds_toArray, List.set_cons_zero, List.set_cons_succ]
             refine wpAnyH_take (i := 5) (oi := { dst := some 137, op := Op.load 25 (Operand.tmp 136), type := 25, pos := "law.go:182", after := #[{ on := 4, ground := Ground.data }, { on := 3, ground := Ground.guard }], guard := some (3, false) }) (v := .int .u64 A.n) rfl (by kernel_rfl) (by kernel_rfl) (by kernel_rfl) (fun _ _ _ h => h) (Or.inl ⟨by rfl, fun w hSw => by obtain ⟨_, h3, h4, h1⟩ := hSw; go_simp⟩) hS ?_
             try simp only [Act.put, List.setIfInBounds_toArray, List.set_cons_zero, List.set_cons_succ]
             refine wpAnyH_ready (rs := [6]) (by kernel_rfl) (by simp) ?_
             refine AllReadyH.cons (o := { dst := some 138, op := Op.call { callee := Callee.value (Operand.func 30), args := #[Operand.tmp 137], argTypes := #[25] }, type := 4, pos := "law.go:182", after := #[{ on := 5, ground := Ground.data }, { on := 3, ground := Ground.chain }, { on := 3, ground := Ground.guard }], guard := some (3, false) }) rfl (fun K hK => ?_) AllReadyH.nil
             rw [if_pos (by rfl)]
             refine wp_calls 30 #[.int .u64 A.n] (by kernel_rfl) (fun v V => v = .bool false ∧ Kept [] w12 V) ((MNc.out _ hS.1).mono fun e w' hh => ⟨_, hh.1, rfl, hh.2⟩) ?_
             rintro _ wk1 ⟨rfl, KK1⟩
             try simp only [Act.put, List.setIfInBounds_toArray, List.set_cons_zero, List.set_cons_succ]
             refine hK.out _ _ (⟨KK1, SX.out _ KK1⟩) (fun hS => ?_)
             clear hK K
             refine wpAnyH_take (i := 7) (oi := { dst := some 139, op := Op.pick (Operand.tmp 135) (Operand.const (Value.bool true)) (Operand.tmp 138), type := 4, pos := "law.go:182", after := #[{ on := 3, ground := Ground.data }, { on := 6, ground := Ground.data }], guard := none }) (v := .bool false) rfl (by kernel_rfl) (by kernel_rfl) (by kernel_rfl) (fun _ _ _ h => h) (Or.inl ⟨by rfl, fun w hSw => by obtain ⟨_, h3, h4, h1⟩ := hSw; go_simp⟩) hS ?_
             try simp only [Act.put, List.setIfInBounds_toArray, List.set_cons_zero, List.set_cons_succ]
             refine wpAnyH_take (i := 8) (oi := { dst := some 140, op := Op.move (Operand.tmp 139), type := 4, pos := "law.go:182", after := #[{ on := 7, ground := Ground.data }, { on := 6, ground := Ground.chain }], guard := none }) (v := .bool false) rfl (by kernel_rfl) (by kernel_rfl) (by kernel_rfl) (fun _ _ _ h => h) (Or.inl ⟨by rfl, fun w hSw => by obtain ⟨_, h3, h4, h1⟩ := hSw; go_simp⟩) hS ?_
             try simp only [Act.put, List.setIfInBounds_toArray, List.set_cons_zero, List.set_cons_succ]
             refine wpAnyH_take (i := 9) (oi := { dst := some 141, op := Op.move (Operand.tmp 17), type := 25, pos := "law.go:182", after := #[{ on := 8, ground := Ground.guard }], guard := some (8, false) }) (v := .int .u64 SV) rfl (by kernel_rfl) (by kernel_rfl) (by kernel_rfl) (fun _ _ _ h => h) (Or.inl ⟨by rfl, fun w hSw => by obtain ⟨_, h3, h4, h1⟩ := hSw; go_simp⟩) hS ?_
             try simp only [Act.put, List.setIfInBounds_toArray, List.set_cons_zero, List.set_cons_succ]
             refine wpAnyH_ready (rs := [10]) (by kernel_rfl) (by simp) ?_
             refine AllReadyH.cons (o := { dst := some 142, op := Op.call { callee := Callee.value (Operand.func 30), args := #[Operand.tmp 141], argTypes := #[25] }, type := 4, pos := "law.go:182", after := #[{ on := 9, ground := Ground.data }, { on := 8, ground := Ground.chain }, { on := 8, ground := Ground.guard }], guard := some (8, false) }) rfl (fun K hK => ?_) AllReadyH.nil
             rw [if_pos (by rfl)]
             refine wp_calls 30 #[.int .u64 SV] (by kernel_rfl) (fun v V => v = .bool true ∧ Kept [] w12 V) ((MSc.out _ hS.1).mono fun e w' hh => ⟨_, hh.1, rfl, hh.2⟩) ?_
             rintro _ wk2 ⟨rfl, KK2⟩
             try simp only [Act.put, List.setIfInBounds_toArray, List.set_cons_zero, List.set_cons_succ]
             refine hK.out _ _ (⟨KK2, SX.out _ KK2⟩) (fun hS => ?_)
             clear hK K
             refine wpAnyH_take (i := 11) (oi := { dst := some 143, op := Op.unOp UnOp.not 4 (Operand.tmp 142), type := 4, pos := "law.go:182", after := #[{ on := 10, ground := Ground.data }, { on := 8, ground := Ground.guard }], guard := some (8, false) }) (v := .bool false) rfl (by kernel_rfl) (by kernel_rfl) (by kernel_rfl) (fun _ _ _ h => h) (Or.inl ⟨by rfl, fun w hSw => by obtain ⟨_, h3, h4, h1⟩ := hSw; go_simp⟩) hS ?_
             try simp only [Act.put, List.setIfInBounds_toArray, List.set_cons_zero, List.set_cons_succ]
             refine wpAnyH_take (i := 12) (oi := { dst := some 144, op := Op.move (Operand.tmp 143), type := 4, pos := "law.go:182", after := #[{ on := 11, ground := Ground.data }, { on := 10, ground := Ground.chain }, { on := 8, ground := Ground.guard }], guard := some (8, false) }) (v := .bool false) rfl (by kernel_rfl) (by kernel_rfl) (by kernel_rfl) (fun _ _ _ h => h) (Or.inl ⟨by rfl, fun w hSw => by obtain ⟨_, h3, h4, h1⟩ := hSw; go_simp⟩) hS ?_
             try simp only [Act.put, List.setIfInBounds_toArray, List.set_cons_zero, List.set_cons_succ]
             refine wpAnyH_take (i := 13) (oi := { dst := some 145, op := Op.fieldAddr 50 (Operand.tmp 14) 1, type := 0, pos := "law.go:182", after := #[{ on := 12, ground := Ground.guard }], guard := some (12, true) }) (v := undef) rfl (by kernel_rfl) (by kernel_rfl) (by kernel_rfl) (fun _ _ _ h => h) (Or.inr ⟨by kernel_rfl, rfl⟩) hS ?_
             try simp only [Act.put, List.setIfInBounds_toArray, List.set_cons_zero, List.set_cons_succ]
             refine wpAnyH_take (i := 14) (oi := { dst := some 146, op := Op.load 3 (Operand.tmp 145), type := 3, pos := "law.go:182", after := #[{ on := 13, ground := Ground.data }, { on := 12, ground := Ground.guard }], guard := some (12, true) }) (v := undef) rfl (by kernel_rfl) (by kernel_rfl) (by kernel_rfl) (fun _ _ _ h => h) (Or.inr ⟨by kernel_rfl, rfl⟩) hS ?_
             try simp only [Act.put, List.setIfInBounds_toArray, List.set_cons_zero, List.set_cons_succ]
             refine wpAnyH_take (i := 15) (oi := { dst := some 147, op := Op.fieldAddr 64 (Operand.tmp 13) 3, type := 0, pos := "law.go:182", after := #[{ on := 12, ground := Ground.guard }], guard := some (12, true) }) (v := undef) rfl (by kernel_rfl) (by kernel_rfl) (by kernel_rfl) (fun _ _ _ h => h) (Or.inr ⟨by kernel_rfl, rfl⟩) hS ?_
             try simp only [Act.put, List.setIfInBounds_toArray, List.set_cons_zero, List.set_cons_succ]
             refine wpAnyH_take (i := 16) (oi := { dst := some 148, op := Op.load 25 (Operand.tmp 147), type := 25, pos := "law.go:182", after := #[{ on := 15, ground := Ground.data }, { on := 12, ground := Ground.guard }], guard := some (12, true) }) (v := undef) rfl (by kernel_rfl) (by kernel_rfl) (by kernel_rfl) (fun _ _ _ h => h) (Or.inr ⟨by kernel_rfl, rfl⟩) hS ?_
             try simp only [Act.put, List.setIfInBounds_toArray, List.set_cons_zero, List.set_cons_succ]
             refine wpAnyH_take (i := 17) (oi := { dst := some 149, op := Op.call { callee := Callee.value (Operand.func 29), args := #[Operand.tmp 148], argTypes := #[25] }, type := 3, pos := "law.go:182", after := #[{ on := 16, ground := Ground.data }, { on := 12, ground := Ground.chain }, { on := 12, ground := Ground.guard }], guard := some (12, true) }) (v := undef) rfl (by kernel_rfl) (by kernel_rfl) (by kernel_rfl) (fun _ _ _ h => h) (Or.inr ⟨by kernel_rfl, rfl⟩) hS ?_
             try simp only [Act.put, List.setIfInBounds_toArray, List.set_cons_zero, List.set_cons_succ]
             refine wpAnyH_take (i := 18) (oi := { dst := some 150, op := Op.binOp BinOp.neq 3 (Operand.tmp 146) (Operand.tmp 149) 3, type := 4, pos := "law.go:182", after := #[{ on := 14, ground := Ground.data }, { on := 17, ground := Ground.data }, { on := 12, ground := Ground.guard }], guard := some (12, true) }) (v := undef) rfl (by kernel_rfl) (by kernel_rfl) (by kernel_rfl) (fun _ _ _ h => h) (Or.inr ⟨by kernel_rfl, rfl⟩) hS ?_
             try simp only [Act.put, List.setIfInBounds_toArray, List.set_cons_zero, List.set_cons_succ]
             refine wpAnyH_take (i := 19) (oi := { dst := some 151, op := Op.pick (Operand.tmp 144) (Operand.tmp 150) (Operand.const (Value.bool false)), type := 4, pos := "law.go:182", after := #[{ on := 12, ground := Ground.data }, { on := 18, ground := Ground.data }, { on := 8, ground := Ground.guard }], guard := some (8, false) }) (v := .bool false) rfl (by kernel_rfl) (by kernel_rfl) (by kernel_rfl) (fun _ _ _ h => h) (Or.inl ⟨by rfl, fun w hSw => by obtain ⟨_, h3, h4, h1⟩ := hSw; go_simp⟩) hS ?_
             try simp only [Act.put, List.setIfInBounds_toArray, List.set_cons_zero, List.set_cons_succ]
             refine wpAnyH_take (i := 20) (oi := { dst := some 152, op := Op.pick (Operand.tmp 140) (Operand.const (Value.bool true)) (Operand.tmp 151), type := 4, pos := "law.go:182", after := #[{ on := 8, ground := Ground.data }, { on := 19, ground := Ground.data }], guard := none }) (v := .bool false) rfl (by kernel_rfl) (by kernel_rfl) (by kernel_rfl) (fun _ _ _ h => h) (Or.inl ⟨by rfl, fun w hSw => by obtain ⟨_, h3, h4, h1⟩ := hSw; go_simp⟩) hS ?_
             try simp only [Act.put, List.setIfInBounds_toArray, List.set_cons_zero, List.set_cons_succ]
             refine wpAnyH_take (i := 21) (oi := { dst := some 153, op := Op.move (Operand.tmp 152), type := 4, pos := "law.go:182", after := #[{ on := 20, ground := Ground.data }, { on := 17, ground := Ground.chain }], guard := none }) (v := .bool false) rfl (by kernel_rfl) (by kernel_rfl) (by kernel_rfl) (fun _ _ _ h => h) (Or.inl ⟨by rfl, fun w hSw => by obtain ⟨_, h3, h4, h1⟩ := hSw; go_simp⟩) hS ?_
             try simp only [Act.put, List.setIfInBounds_toArray, List.set_cons_zero, List.set_cons_succ]
             refine wpAnyH_take (i := 22) (oi := { dst := some 154, op := Op.fieldAddr 50 (Operand.tmp 14) 1, type := 0, pos := "law.go:182", after := #[{ on := 21, ground := Ground.guard }], guard := some (21, false) }) (v := .pointer (some ⟨pb, 1, none⟩)) rfl (by kernel_rfl) (by kernel_rfl) (by kernel_rfl) (fun _ _ _ h => h) (Or.inl ⟨by rfl, fun w hSw => by obtain ⟨_, h3, h4, h1⟩ := hSw; go_simp⟩) hS ?_
             try simp only [Act.put, List.setIfInBounds_toArray, List.set_cons_zero, List.set_cons_succ]
             refine wpAnyH_take (i := 23) (oi := { dst := some 155, op := Op.load 3 (Operand.tmp 154), type := 3, pos := "law.go:182", after := #[{ on := 22, ground := Ground.data }, { on := 21, ground := Ground.guard }], guard := some (21, false) }) (v := .int .i64 i) rfl (by kernel_rfl) (by kernel_rfl) (by kernel_rfl) (fun _ _ _ h => h) (Or.inl ⟨by rfl, fun w hSw => by obtain ⟨_, h3, h4, h1⟩ := hSw; go_simp⟩) hS ?_
             try simp only [Act.put, List.setIfInBounds_toArray, List.set_cons_zero, List.set_cons_succ]
             refine wpAnyH_take (i := 24) (oi := { dst := some 156, op := Op.fieldAddr 64 (Operand.tmp 13) 3, type := 0, pos := "law.go:182", after := #[{ on := 21, ground := Ground.guard }], guard := some (21, false) }) (v := .pointer (some ⟨ab, 3, none⟩)) rfl (by kernel_rfl) (by kernel_rfl) (by kernel_rfl) (fun _ _ _ h => h) (Or.inl ⟨by rfl, fun w hSw => by obtain ⟨_, h3, h4, h1⟩ := hSw; go_simp⟩) hS ?_
             try simp only [Act.put, List.setIfInBounds_toArray, List.set_cons_zero, List.set_cons_succ]
             refine wpAnyH_take (i := 25) (oi := { dst := some 157, op := Op.load 25 (Operand.tmp 156), type := 25, pos := "law.go:182", after := #[{ on := 24, ground := Ground.data }, { on := 21, ground := Ground.guard }], guard := some (21, false) }) (v := .int .u64 A.o) rfl (by kernel_rfl) (by kernel_rfl) (by kernel_rfl) (fun _ _ _ h => h) (Or.inl ⟨by rfl, fun w hSw => by obtain ⟨_, h3, h4, h1⟩ := hSw; go_simp⟩) hS ?_
             try simp only [Act.put, List.setIfInBounds_toArray, List.set_cons_zero, List.set_cons_succ]
             refine wpAnyH_ready (rs := [26]) (by kernel_rfl) (by simp) ?_
             refine AllReadyH.cons (o := { dst := some 158, op := Op.call { callee := Callee.value (Operand.func 29), args := #[Operand.tmp 157], argTypes := #[25] }, type := 3, pos := "law.go:182", after := #[{ on := 25, ground := Ground.data }, { on := 21, ground := Ground.chain }, { on := 21, ground := Ground.guard }], guard := some (21, false) }) rfl (fun K hK => ?_) AllReadyH.nil
             rw [if_pos (by rfl)]
             refine wp_calls 29 #[.int .u64 A.o] (by kernel_rfl) (fun v V => v = .int .i64 IX ∧ Kept [] w12 V) ((IXc.out _ hS.1).mono fun e w' hh => ⟨_, hh.1, rfl, hh.2⟩) ?_
             rintro _ wk3 ⟨rfl, KK3⟩
             try simp only [Act.put, List.setIfInBounds_toArray, List.set_cons_zero, List.set_cons_succ]
             refine hK.out _ _ (⟨KK3, SX.out _ KK3⟩) (fun hS => ?_)
             clear hK K
             refine wpAnyH_take (i := 27) (oi := { dst := some 159, op := Op.binOp BinOp.neq 3 (Operand.tmp 155) (Operand.tmp 158) 3, type := 4, pos := "law.go:182", after := #[{ on := 23, ground := Ground.data }, { on := 26, ground := Ground.data }, { on := 21, ground := Ground.guard }], guard := some (21, false) }) (v := .bool true) rfl (by kernel_rfl) (by kernel_rfl) (by kernel_rfl) (fun _ _ _ h => h) (Or.inl ⟨by rfl, fun w hSw => by obtain ⟨_, h3, h4, h1⟩ := hSw; go_simp⟩) hS ?_
             try simp only [Act.put, List.setIfInBounds_toArray, List.set_cons_zero, List.set_cons_succ]
             refine wpAnyH_take (i := 28) (oi := { dst := some 160, op := Op.move (Operand.tmp 159), type := 4, pos := "law.go:182", after := #[{ on := 27, ground := Ground.data }, { on := 26, ground := Ground.chain }, { on := 21, ground := Ground.guard }], guard := some (21, false) }) (v := .bool true) rfl (by kernel_rfl) (by kernel_rfl) (by kernel_rfl) (fun _ _ _ h => h) (Or.inl ⟨by rfl, fun w hSw => by obtain ⟨_, h3, h4, h1⟩ := hSw; go_simp⟩) hS ?_
             try simp only [Act.put, List.setIfInBounds_toArray, List.set_cons_zero, List.set_cons_succ]
             refine wpAnyH_take (i := 29) (oi := { dst := some 161, op := Op.move (Operand.tmp 17), type := 25, pos := "law.go:182", after := #[{ on := 28, ground := Ground.guard }], guard := some (28, true) }) (v := .int .u64 SV) rfl (by kernel_rfl) (by kernel_rfl) (by kernel_rfl) (fun _ _ _ h => h) (Or.inl ⟨by rfl, fun w hSw => by obtain ⟨_, h3, h4, h1⟩ := hSw; go_simp⟩) hS ?_
             try simp only [Act.put, List.setIfInBounds_toArray, List.set_cons_zero, List.set_cons_succ]
             refine wpAnyH_take (i := 31) (oi := { dst := some 163, op := Op.fieldAddr 64 (Operand.tmp 13) 4, type := 0, pos := "law.go:182", after := #[{ on := 28, ground := Ground.guard }], guard := some (28, true) }) (v := .pointer (some ⟨ab, 4, none⟩)) rfl (by kernel_rfl) (by kernel_rfl) (by kernel_rfl) (fun _ _ _ h => h) (Or.inl ⟨by rfl, fun w hSw => by obtain ⟨_, h3, h4, h1⟩ := hSw; go_simp⟩) hS ?_
             try simp only [Act.put, List.setIfInBounds_toArray, List.set_cons_zero, List.set_cons_succ]
             refine wpAnyH_take (i := 32) (oi := { dst := some 164, op := Op.load 25 (Operand.tmp 163), type := 25, pos := "law.go:182", after := #[{ on := 31, ground := Ground.data }, { on := 28, ground := Ground.guard }], guard := some (28, true) }) (v := .int .u64 A.n) rfl (by kernel_rfl) (by kernel_rfl) (by kernel_rfl) (fun _ _ _ h => h) (Or.inl ⟨by rfl, fun w hSw => by obtain ⟨_, h3, h4, h1⟩ := hSw; go_simp⟩) hS ?_
             try simp only [Act.put, List.setIfInBounds_toArray, List.set_cons_zero, List.set_cons_succ]
             refine wpAnyH_ready (rs := [30]) (by kernel_rfl) (by simp) ?_
             refine AllReadyH.cons (o := { dst := some 162, op := Op.call { callee := Callee.value (Operand.func 31), args := #[Operand.tmp 161], argTypes := #[25] }, type := 25, pos := "law.go:182", after := #[{ on := 29, ground := Ground.data }, { on := 28, ground := Ground.chain }, { on := 28, ground := Ground.guard }], guard := some (28, true) }) rfl (fun K hK => ?_) AllReadyH.nil
             rw [if_pos (by rfl)]
             refine wp_calls 31 #[.int .u64 SV] (by kernel_rfl) (fun v V => v = .int .u64 A.n ∧ Kept [] w12 V) ((PSc.out _ hS.1).mono fun e w' hh => ⟨_, hh.1, rfl, hh.2⟩) ?_
             rintro _ wk4 ⟨rfl, KK4⟩
             try simp only [Act.put, List.setIfInBounds_toArray, List.set_cons_zero, List.set_cons_succ]
             refine hK.out _ _ (⟨KK4, SX.out _ KK4⟩) (fun hS => ?_)
             clear hK K
             refine wpAnyH_take (i := 33) (oi := { dst := some 165, op := Op.binOp BinOp.neq 25 (Operand.tmp 162) (Operand.tmp 164) 25, type := 4, pos := "law.go:182", after := #[{ on := 30, ground := Ground.data }, { on := 32, ground := Ground.data }, { on := 28, ground := Ground.guard }], guard := some (28, true) }) (v := .bool false) rfl (by kernel_rfl) (by kernel_rfl) (by kernel_rfl) (fun _ _ _ h => h) (Or.inl ⟨by rfl, fun w hSw => by obtain ⟨_, h3, h4, h1⟩ := hSw; go_simp⟩) hS ?_
             try simp only [Act.put, List.setIfInBounds_toArray, List.set_cons_zero, List.set_cons_succ]
             refine wpAnyH_take (i := 34) (oi := { dst := some 166, op := Op.pick (Operand.tmp 160) (Operand.tmp 165) (Operand.const (Value.bool false)), type := 4, pos := "law.go:182", after := #[{ on := 28, ground := Ground.data }, { on := 33, ground := Ground.data }, { on := 21, ground := Ground.guard }], guard := some (21, false) }) (v := .bool false) rfl (by kernel_rfl) (by kernel_rfl) (by kernel_rfl) (fun _ _ _ h => h) (Or.inl ⟨by rfl, fun w hSw => by obtain ⟨_, h3, h4, h1⟩ := hSw; go_simp⟩) hS ?_
             try simp only [Act.put, List.setIfInBounds_toArray, List.set_cons_zero, List.set_cons_succ]
             refine wpAnyH_take (i := 35) (oi := { dst := some 167, op := Op.pick (Operand.tmp 153) (Operand.const (Value.bool true)) (Operand.tmp 166), type := 4, pos := "law.go:182", after := #[{ on := 21, ground := Ground.data }, { on := 34, ground := Ground.data }], guard := none }) (v := .bool false) rfl (by kernel_rfl) (by kernel_rfl) (by kernel_rfl) (fun _ _ _ h => h) (Or.inl ⟨by rfl, fun w hSw => by obtain ⟨_, h3, h4, h1⟩ := hSw; go_simp⟩) hS ?_
             try simp only [Act.put, List.setIfInBounds_toArray, List.set_cons_zero, List.set_cons_succ]
             refine wpAnyH_done (by kernel_rfl) ?_ _
             have nouse := hS
             clear nouse hS
             go_wp2
             go_roundw
             case rel => exact ⟨j + 1, by omega, by go_num, G, F, CS, CN, A, HU12.out.1.new KK4, hidOf ⟨NX.out.1, NX.out.2.1, NX.out.2.2.1, by have := NX.out.2.2.2; omega⟩⟩
             case measure => simp [intOf]; omega
           · have hJn : ¬ (j : Int) < (J : Int) := by omega
             have AL := hidOf (alive_any wr HZ.out.st.tb)
             go_wp2_with fail
             refine AL.out.mono ?_
             rintro e WA ⟨rfl, KA⟩
             go_wp2
             go_ret
             exact ⟨rfl, HX.out.2.2.trans (HZ.out.kp.trans KA)⟩
  · have OF := hidOf (kof_no c ao n cap W hN)
    clear hN
    go_wp2_with (first | ((with_reducible change wpList _ _ _ (Oper.mk _ (Op.load 23 (Operand.tmp 3)) _ _ _ _ :: _) _ _); refine wpList_load_rw 23 isT_cf rfl (.tmp 3) rfl q rfl #[.int .i64 c.t, .int .i64 c.s, .int .i64 c.c, .int .i64 c.h, .int .i64 c.k, .int .i64 c.e, .int .i64 c.l] rfl HX.out.1 ?_))
    refine OF.out.mono ?_
    rintro e w1 ⟨rfl, K1⟩
    have HK1 := hidOf K1
    clear K1 OF
    go_upto_region 2 with (first | ((with_reducible change wpList _ _ _ (Oper.mk _ (Op.store 60 (Operand.tmp 8) _) _ _ _ _ :: _) _ _); refine wpList_store_rw 60 isT_rm rfl (.tmp 8) (.tmp 23) rfl w1.heap.size rmZ rfl rfl rfl rmZ_one rmZ (RW.new 60 w1 rmZ) rfl ?_))
    refine gen_world (fun V => Kept [] w1 V) (((Kept.refl [] w1).alloc _).setRow (Or.inr (Nat.le_refl _)) _) ?_
    rintro V KV
    have HY := hidOf (And.intro True.intro (HK1.out.trans KV))
    clear KV HK1
    have SX : Hid (∀ Y : World, Kept [] V Y → Y.cell? ⟨q + 1, 0, none⟩ = some (.int .u64 k) ∧ Y.cell? ⟨q + 1, 1, none⟩ = some (.int .i64 t)) := hidOf (fun Y kk => ⟨cell_of_blk (HX.out.2.1.kept (HY.out.2.trans kk) (by simp)) (i := 0) rfl, cell_of_blk (HX.out.2.1.kept (HY.out.2.trans kk) (by simp)) (i := 1) rfl⟩)
    have FNW : Hid (∀ Y : World, Kept [] V Y → Calls Tryd.prog 19 #[.int .u64 k] Y fun e w' => ∃ fb, e = .returned (.pointer (some ⟨fb, 0, none⟩)) ∧ V.heap.size ≤ fb ∧ FB w' fb (K.ffV 42 fb) k 0 0 0 0 0 none 0 0 ∧ Kept [] V w' ∧ Kept [] Y w') := hidOf (fun Y kk => (fnew_any k Y).mono fun e w' hh => by
      obtain ⟨fb, e1, e2, e3, e4⟩ := hh
      exact ⟨fb, e1, Nat.le_trans kk.size e2, e3, kk.trans e4, e4⟩)
    have GNW : Hid (∀ Y : World, Kept [] V Y → Calls Tryd.prog 20 #[.int .i64 t] Y fun e w' => ∃ gb, e = .returned (.pointer (some ⟨gb, 0, none⟩)) ∧ V.heap.size ≤ gb ∧ GB w' gb ⟨0, 0, t⟩ ∧ Kept [] V w' ∧ Kept [] Y w') := hidOf (fun Y kk => (gnew_any t Y).mono fun e w' hh => by
      obtain ⟨gb, e1, e2, e3, e4⟩ := hh
      exact ⟨gb, e1, Nat.le_trans kk.size e2, e3, kk.trans e4, e4⟩)
    go_cut [10, 11] from 10 to 31 (fun s10 s11 W3 => ∃ fb gb, s10 = .pointer (some ⟨fb, 0, none⟩) ∧ s11 = .pointer (some ⟨gb, 0, none⟩) ∧ V.heap.size ≤ fb ∧ V.heap.size ≤ gb ∧ FB W3 fb (K.ffV 42 fb) k 0 0 0 0 0 none 0 0 ∧ GB W3 gb ⟨0, 0, t⟩ ∧ Kept [] V W3)
    case first =>
      go_region_held3 (fun Y => Y.cell? ⟨q + 1, 0, none⟩ = some (.int .u64 k) ∧ Y.cell? ⟨q + 1, 1, none⟩ = some (.int .i64 t))
        (exact SX.out _ (by first | assumption | exact (Kept.refl _ _).drew))
        (first | (go_at_call 19; with_reducible refine (FNW.out _ (by first | assumption | exact (Kept.refl _ _).drew)).mono ?_; rintro e w2 ⟨fb, rfl, hfb, F2, KV2, K2⟩) | (go_at_call 20; with_reducible refine (GNW.out _ (by first | assumption | exact (Kept.refl _ _).drew)).mono ?_; rintro e w3 ⟨gb, rfl, hgb, G2, KV3, K3⟩))
      all_goals
        go_wp2
        go_meet
        case rel => first | exact ⟨fb, gb, rfl, rfl, hfb, hgb, F2.kept K3 (by simp), G2, KV3⟩ | exact ⟨fb, gb, rfl, rfl, hfb, hgb, F2, G2.kept K2 (by simp), KV2⟩
    case rest =>
      obtain ⟨fb, gb, rfl, rfl, hfb, hgb, F, G, K3⟩ := hcut
      have HKK := hidOf (HX.out.2.2.trans (HY.out.2.trans K3))
      clear F G hfb hgb SX FNW GNW HY K3
      have AL := hidOf (alive_any wc (HT.out.kept HKK.out))
      go_wp2_with fail
      refine AL.out.mono ?_
      rintro e WA ⟨rfl, KA⟩
      go_wp2
      go_ret
      exact ⟨rfl, HKK.out.trans KA⟩

set_option maxRecDepth 100000 in
theorem findOnly_lifted (os : Os) (started : os.Started) (H : Type) (enc : TypeId × Value → H) :
    ReturnsInHanded {} Tryd.checked os 5 .any (fun w args => (Rows.findOnlySpec.pre enc Tryd.prog Tryd.f5 [] false w args ∧ laidMetH Tryd.prog laid1 w) ∧ sizedMet enc Tryd.prog Tryd.f5 (OpenSpec.ofChange Rows.findOnlySpec) false w args)
      (Rows.findOnlySpec.post enc Tryd.prog Tryd.f5 false true false false) := by
  refine returnsInHanded_of_change_and (C := Tryd.checked) (X := fun w _ => laidMetH Tryd.prog laid1 w) (fun _ _ _ hh h => h.of_heap hh) own started (by kernel_rfl) Tryd.func5
    (ChangeSpec.witness_shaped (enc := enc) (C := Tryd.checked) (os := os) (X := fun w _ => laidMetH Tryd.prog laid1 w) false (World.doorLaid Tryd.prog 400 os) #[.agg #[.int .i64 0, .int .i64 0, .int .i64 0, .int .i64 0, .int .i64 0, .int .i64 0, .int .i64 0], .slice none 0 0, .agg #[.int .u64 0, .int .i64 0, .int .i64 0, .slice none 0 0]] 8 rfl (World.shaped_of_RefB (by kernel_rfl) (by kernel_rfl)) (by kernel_rfl) (by kernel_rfl) (by kernel_rfl) (door_met os _)) ?_
  intro W base args ds gs before hval0 hW _ _ hL _
  have hval : ∀ (j : Nat) t v, Tryd.f5.params[j]? = some t → args[j]? = some v → Value.okWide Tryd.prog W .any base t v := hval0
  have hW' := hW
  obtain ⟨p, q, hA0, hV, rfl, _, _⟩ := hW
  have hA : DataW.TrodAll enc Tryd.prog W 0 (fun _ => true) true Tryd.f5.params.toList args.toList ds p := hA0
  rw [Tryd.params5] at hA hval
  clear hA0 hval0
  obtain ⟨v0, vs0, d0, ds0, p0, q0, hargs, rfl, rfl, h0, r0⟩ := trodAll_cons hA
  obtain ⟨v1, vs1, d1, ds1, p1, q1, rfl, rfl, rfl, h1, r1⟩ := trodAll_cons r0
  obtain ⟨v2, vs2, d2, ds2, p2, q2, rfl, rfl, rfl, h2, r2⟩ := trodAll_cons r1
  obtain ⟨rfl, rfl, rfl⟩ := trodAll_nil r2
  obtain rfl : args = #[v0, v1, v2] := by cases args; simp_all
  obtain ⟨rfl, rfl⟩ := trodVars_none hV
  have k0 := h0
  have k1 := h1
  have k2 := h2
  simp only [List.append_nil] at hW'
  have hlt0 : ∀ x ∈ p0, x.block < W.heap.size := fun x hx => hW'.lt x (by simp [hx])
  have hlt1 : ∀ x ∈ p1, x.block < W.heap.size := fun x hx => hW'.lt x (by simp [hx])
  have hlt2 : ∀ x ∈ p2, x.block < W.heap.size := fun x hx => hW'.lt x (by simp [hx])
  obtain ⟨c0, rfl, g0⟩ := open_cfg (hval 0 23 v0 rfl rfl) h0
  obtain ⟨ao1, cap1, xs1, rfl, s1, g1, z1, n1⟩ := open_words (hval 1 40 v1 rfl rfl) h1
  obtain ⟨kk2, tt2, st2, po2, pc2, ps2, rfl, u2, v2⟩ := open_play (hval 2 54 v2 rfl rfl) h2
  refine (findOnly_walk W c0 g0 ao1 xs1 cap1 s1 g1 n1 kk2 tt2 st2 po2 ps2.length pc2 (tab_of_laid hL)).mono fun e W' ⟨he, hg⟩ => ?_
  subst he
  have hb := hg.below (by simp)
  exact ⟨_, rfl, _, _, _, [], _, [], hW', (trodAll_cons_mk (shut_bool Tryd.underlying4 _) trodAll_mk0), (trodAll_cons_mk (Below.trod laidOut (by kernel_rfl) (of_decide_eq_true (by kernel_rfl)) k0 hb hlt0) (trodAll_cons_mk (Below.trod laidOut (by kernel_rfl) (of_decide_eq_true (by kernel_rfl)) k1 hb hlt1) (trodAll_cons_mk (Below.trod laidOut (by kernel_rfl) (of_decide_eq_true (by kernel_rfl)) k2 hb hlt2) trodAll_mk0))), rfl, hb.frame _, fun h => by cases h⟩

theorem findOnly_over : Rows.FindOnlySaid :=
  OpenClaim.holds_of_wide 5 Tryd.f5 rfl rfl rfl rfl rfl rfl rfl ⟨rfl, rfl, rfl, rfl, rfl⟩ rfl rfl rfl rfl rfl (by kernel_rfl) Tryd.func5 (by kernel_rfl)
    (of_decide_eq_true (by kernel_rfl)) (by unfold Func.isWrapper; first | (rw [if_pos (by decide +kernel)]; kernel_rfl) | (rw [if_neg (by decide +kernel)]; exact ⟨rfl, rfl⟩))
    (fun os started H enc _ => findOnly_lifted os started H enc)

theorem findOnly_holds : Rows.FindOnlyCardSaid :=
  Claim7.holds_tied_plain_at .later [] [.data] true (true, "7f80696f4898032b1e9ebe7e0048ae521e445675cf0580a22aeeebebced35714") false
    findOnly_over (fun _ h => by cases h) (by kernel_rfl) (fun _ h => by cases h) findOnly_row_tie rfl ⟨rfl, rfl⟩ (by kernel_rfl) rfl
    (fun f fn hf hfn => by
      obtain rfl : f = 5 := Option.some.inj ((show Tryd.prog.funcNamed "stepstone/stepstonelaw11.FindOnly" = some 5 by kernel_rfl).symm.trans hf) |>.symm
      obtain rfl : fn = Tryd.f5 := (Option.some.inj (Tryd.func5.symm.trans hfn)).symm
      exact ⟨by kernel_rfl, fun j t ht => by
          rw [Tryd.params5] at ht
          rcases j with _ | j
          · have : t = 23 := by simpa using ht.symm
            subst this; exact (show Tryd.prog.wantsStandIn 23 = false by kernel_rfl)
          rcases j with _ | j
          · have : t = 40 := by simpa using ht.symm
            subst this; exact (show Tryd.prog.wantsStandIn 40 = false by kernel_rfl)
          rcases j with _ | j
          · have : t = 54 := by simpa using ht.symm
            subst this; exact (show Tryd.prog.wantsStandIn 54 = false by kernel_rfl)
          simp at ht⟩)
    (by kernel_rfl)
#print axioms findOnly_holds
end Go.Proofs.YtgnkgkbjjeipbaaDoor
