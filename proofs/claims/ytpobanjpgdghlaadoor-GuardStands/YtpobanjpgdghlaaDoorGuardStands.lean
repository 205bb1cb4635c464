/-
  Behind a publish its era stands in a reservation; as long as it tells true, so do all that were published since one that told false.
  Conditions: the package variable of handle that the code reads starts as the program's text lays it (the card ties it to that text).
-/
import Derived.Test.YtpobanjpgdghlaaDoorGAlive
import Derived.Test.YtpobanjpgdghlaaDoorGOwn
import Derived.Test.YtpobanjpgdghlaaDoorHLaid
import Derived.Test.YtpobanjpgdghlaaDoorPArgs
import Derived.ProofKit
import Derived.SizedLaws
import Derived.Carry
namespace Go.Proofs.YtpobanjpgdghlaaDoor
open Go.ChangeShapes Go.WideShapes Go.ChangeAt Go.RowKit
open Go.Deep
open Go.Proofs.YtpobanjpgdghlaaDoor.K
set_option maxRecDepth 100000

set_option maxRecDepth 100000 in
set_option maxHeartbeats 8000000 in
theorem guardStands_walk (w : World) (c : Cfg) (_g : c.wf) (th : Int) (_h1 : (Lit.int .i64 th).wf = true) (ao : Option Addr) (xs : List Int) (cap : Nat) (hs : Sl w ao xs) (_hg : ∀ x ∈ xs, isWord x) (_hc : ao = none → cap = 0) (hT : Tab w) :
    Calls Tryd.prog 4 #[c.val, .int .i64 th, .slice ao xs.length cap] w fun e w' => e = .returned (.bool true) ∧ Kept [] w w' := by
  simp only [Cfg.val]
  obtain ⟨n, hn⟩ : ∃ n, n = xs.length := ⟨_, rfl⟩
  rw [← hn]
  have HN := hidOf hn
  have HS := hidOf hs
  have HT := hidOf hT
  clear hn hs hT
  obtain ⟨q, hq⟩ : ∃ q, q = w.heap.size := ⟨_, rfl⟩
  have BX : Hid (RW 23 (w.alloc (.cells #[.int .i64 c.t, .int .i64 c.s, .int .i64 c.c, .int .i64 c.h, .int .i64 c.k, .int .i64 c.e, .int .i64 c.l] 23)) q #[.int .i64 c.t, .int .i64 c.s, .int .i64 c.c, .int .i64 c.h, .int .i64 c.k, .int .i64 c.e, .int .i64 c.l] ∧ Kept [] w (w.alloc (.cells #[.int .i64 c.t, .int .i64 c.s, .int .i64 c.c, .int .i64 c.h, .int .i64 c.k, .int .i64 c.e, .int .i64 c.l] 23))) := by rw [hq]; exact ⟨RW.new _ _ _, (Kept.refl [] w).alloc _⟩
  by_cases hri : riB c = true
  · have HRT := hidOf (riB_true.1 hri)
    by_cases t0 : th < 0
    · go_enter Tryd.func4, Tryd.ntmps4
      go_upto_region 1 with (fail)
      rw [← hq]
      refine gen_world (fun W => RW 23 W q #[.int .i64 c.t, .int .i64 c.s, .int .i64 c.c, .int .i64 c.h, .int .i64 c.k, .int .i64 c.e, .int .i64 c.l] ∧ Kept [] w W) BX.out ?_
      have hqw : w.heap.size ≤ q := by omega
      clear BX hq
      rintro W ⟨CB, K0⟩
      have HCB := hidOf CB
      have HTW := hidOf (HT.out.kept K0)
      have HK0 := hidOf K0
      clear CB K0
      have NW := hidOf (mnew_yes c W HTW.out hri)
      go_wp2_with (first | ((with_reducible change wpList _ _ _ (Oper.mk _ (Op.load 23 (Operand.tmp 3)) _ _ _ _ :: _) _ _); refine wpList_load_rw 23 isT_cf rfl (.tmp 3) rfl q rfl #[.int .i64 c.t, .int .i64 c.s, .int .i64 c.c, .int .i64 c.h, .int .i64 c.k, .int .i64 c.e, .int .i64 c.l] rfl HCB.out ?_))
      refine NW.out.mono ?_
      rintro e w1 ⟨m, p, r, rfl, ⟨hm, hp, hr⟩, M, K1⟩
      have q0 := cell_of_blk (HCB.out.kept K1 (by simp)) (i := 0) (v := .int .i64 c.t) rfl
      have q1 := cell_of_blk (HCB.out.kept K1 (by simp)) (i := 1) (v := .int .i64 c.s) rfl
      go_wp2_with fail
      refine (gnew_any th _).mono ?_
      rintro e w2 ⟨b, rfl, hb, G, K2⟩
      clear q0 q1
      have HX := hidOf (Gw.start K1 hp hr M K2 hb G)
      have q0 := cell_of_blk (HCB.out.kept HX.out.kp (by simp)) (i := 0) (v := .int .i64 c.t) rfl
      have q1 := cell_of_blk (HCB.out.kept HX.out.kp (by simp)) (i := 1) (v := .int .i64 c.s) rfl
      clear NW M K1 K2 G hm hp hr hb
      have AL := hidOf (alive_any _ (HTW.out.kept HX.out.kp))
      go_wp2_with fail
      refine AL.out.mono ?_
      rintro e WA ⟨rfl, KA⟩
      go_wp2
      go_ret
      exact ⟨rfl, HK0.out.trans (HX.out.kp.trans KA)⟩
    · by_cases t1 : th < c.t
      · by_cases h1 : 40 < (n : Int)
        · go_enter Tryd.func4, Tryd.ntmps4
          go_upto_region 1 with (fail)
          rw [← hq]
          refine gen_world (fun W => RW 23 W q #[.int .i64 c.t, .int .i64 c.s, .int .i64 c.c, .int .i64 c.h, .int .i64 c.k, .int .i64 c.e, .int .i64 c.l] ∧ Kept [] w W) BX.out ?_
          have hqw : w.heap.size ≤ q := by omega
          clear BX hq
          rintro W ⟨CB, K0⟩
          have HCB := hidOf CB
          have HTW := hidOf (HT.out.kept K0)
          have HK0 := hidOf K0
          clear CB K0
          have NW := hidOf (mnew_yes c W HTW.out hri)
          go_wp2_with (first | ((with_reducible change wpList _ _ _ (Oper.mk _ (Op.load 23 (Operand.tmp 3)) _ _ _ _ :: _) _ _); refine wpList_load_rw 23 isT_cf rfl (.tmp 3) rfl q rfl #[.int .i64 c.t, .int .i64 c.s, .int .i64 c.c, .int .i64 c.h, .int .i64 c.k, .int .i64 c.e, .int .i64 c.l] rfl HCB.out ?_))
          refine NW.out.mono ?_
          rintro e w1 ⟨m, p, r, rfl, ⟨hm, hp, hr⟩, M, K1⟩
          have q0 := cell_of_blk (HCB.out.kept K1 (by simp)) (i := 0) (v := .int .i64 c.t) rfl
          have q1 := cell_of_blk (HCB.out.kept K1 (by simp)) (i := 1) (v := .int .i64 c.s) rfl
          go_wp2_with fail
          refine (gnew_any th _).mono ?_
          rintro e w2 ⟨b, rfl, hb, G, K2⟩
          clear q0 q1
          have HX := hidOf (Gw.start K1 hp hr M K2 hb G)
          have q0 := cell_of_blk (HCB.out.kept HX.out.kp (by simp)) (i := 0) (v := .int .i64 c.t) rfl
          have q1 := cell_of_blk (HCB.out.kept HX.out.kp (by simp)) (i := 1) (v := .int .i64 c.s) rfl
          clear NW M K1 K2 G hm hp hr hb
          have AL := hidOf (alive_any _ (HTW.out.kept HX.out.kp))
          go_wp2_with fail
          refine AL.out.mono ?_
          rintro e WA ⟨rfl, KA⟩
          go_wp2
          go_ret
          exact ⟨rfl, HK0.out.trans (HX.out.kp.trans KA)⟩
        · go_enter Tryd.func4, Tryd.ntmps4
          go_upto_region 1 with (fail)
          rw [← hq]
          refine gen_world (fun W => RW 23 W q #[.int .i64 c.t, .int .i64 c.s, .int .i64 c.c, .int .i64 c.h, .int .i64 c.k, .int .i64 c.e, .int .i64 c.l] ∧ Kept [] w W) BX.out ?_
          have hqw : w.heap.size ≤ q := by omega
          clear BX hq
          rintro W ⟨CB, K0⟩
          have HCB := hidOf CB
          have HTW := hidOf (HT.out.kept K0)
          have HK0 := hidOf K0
          clear CB K0
          have NW := hidOf (mnew_yes c W HTW.out hri)
          go_wp2_with (first | ((with_reducible change wpList _ _ _ (Oper.mk _ (Op.load 23 (Operand.tmp 3)) _ _ _ _ :: _) _ _); refine wpList_load_rw 23 isT_cf rfl (.tmp 3) rfl q rfl #[.int .i64 c.t, .int .i64 c.s, .int .i64 c.c, .int .i64 c.h, .int .i64 c.k, .int .i64 c.e, .int .i64 c.l] rfl HCB.out ?_))
          refine NW.out.mono ?_
          rintro e w1 ⟨m, p, r, rfl, ⟨hm, hp, hr⟩, M, K1⟩
          have q0 := cell_of_blk (HCB.out.kept K1 (by simp)) (i := 0) (v := .int .i64 c.t) rfl
          have q1 := cell_of_blk (HCB.out.kept K1 (by simp)) (i := 1) (v := .int .i64 c.s) rfl
          go_wp2_with fail
          refine (gnew_any th _).mono ?_
          rintro e w2 ⟨b, rfl, hb, G, K2⟩
          clear q0 q1
          have HX := hidOf (Gw.start K1 hp hr M K2 hb G)
          have q0 := cell_of_blk (HCB.out.kept HX.out.kp (by simp)) (i := 0) (v := .int .i64 c.t) rfl
          have q1 := cell_of_blk (HCB.out.kept HX.out.kp (by simp)) (i := 1) (v := .int .i64 c.s) rfl
          clear NW M K1 K2 G hm hp hr hb
          have FL := hidOf (fc_ln c)
          obtain ⟨base, hbase⟩ : ∃ base, base = w2.heap.size := ⟨_, rfl⟩
          have HA : Hid (b < base ∧ m < base ∧ p < base ∧ r < base ∧ W.heap.size ≤ base) := hidOf (by
            obtain ⟨a, M⟩ := HX.out.mm
            rw [hbase]
            exact ⟨HX.out.gb.lt, lt_of_blk M.st, lt_of_blk M.bk.st, lt_of_blk M.bk.row, HX.out.kp.size⟩)
          have HZ : Hid (base ≤ w2.heap.size) := hidOf (Nat.le_of_eq hbase)
          clear hbase
          obtain ⟨S, hS⟩ : ∃ S : Nat, c.s = S := ⟨c.s.toNat, by have := HRT.out.s0; omega⟩
          have HSS := hidOf hS
          have hS8 : (S : Int) ≤ 8 := by have := HRT.out.s1; omega
          have hS1 : 1 ≤ (S : Int) := by have := HRT.out.s0; omega
          clear hS
          have t0' : ¬ th < 0 := by omega
          have t1' : ¬ c.t ≤ th := by omega
          clear q1
          go_wp2
          clear q0
          go_loopw [10, 56] (fun v i wr => ∃ (j : Nat) (v' : Value) (l : List Int) (g : Gs) (cs : List Int) (cnt : Int), j ≤ n ∧ i = .int .i64 j ∧ v = v' ∧ Gw W wr b m p r c g cs cnt ∧ OwnV 1 wC wr base 29 v' l ∧ base ≤ wr.heap.size ∧ Hid (Stn c cs g l ∧ g.t = th ∧ (cs.length : Int) = lnV c ∧ 0 ≤ cnt ∧ cnt ≤ 100 * j)) (fun v i _ => n - (intOf i).toNat)
          case atStart => exact ⟨0, _, [], _, _, 0, Nat.zero_le _, rfl, rfl, HX.out, OwnV.nil _ _ _, HZ.out, ⟨Stn.start c _ th HRT.out.s0, rfl, FL.out, Int.le_refl _, Int.le_refl _⟩⟩
          case round =>
            clear HX FL HZ
            obtain ⟨j, v, l, g, cs, cnt, hj, rfl, rfl, X, O, Z, HB⟩ := hrel
            have HX := hidOf X
            have HO := hidOf O
            have HZ := hidOf Z
            clear X O Z
            by_cases hlt : j < n
            · have hltz : (j : Int) < (n : Int) := by omega
              obtain ⟨b1, o1, e1, l1, cj⟩ := Sl.cell (HS.out.new (HK0.out.trans HX.out.kp)) (i := j) (by rw [← HN.out]; exact hlt)
              generalize xs.getD j 0 = e at cj
              obtain ⟨cs2, hcs2⟩ : ∃ cs2, clV cs 2 (rsV c g.t (pubN c g)) 0 e = cs2 := ⟨_, rfl⟩
              obtain ⟨g2, hg2⟩ : ∃ g2, pubG c g e = g2 := ⟨_, rfl⟩
              have q1 := cell_of_blk (HCB.out.kept HX.out.kp (by simp)) (i := 1) (v := .int .i64 c.s) rfl
              by_cases hu : g.u < c.s
              · have SP : Hid (Stn c cs2 g2 (l ++ [e])) := hidOf (by
                  have z := HB.out.1.pub hri HB.out.2.2.1 (by rw [HB.out.2.1]; omega) (by rw [HB.out.2.1]; omega) e
                  rw [hcs2, hg2, if_pos hu] at z
                  exact z)
                have G2 : Hid (g2.l = e ∧ g2.t = th ∧ (cs2.length : Int) = lnV c) := hidOf ⟨hg2 ▸ rfl, hg2 ▸ HB.out.2.1, by rw [← hcs2, clV_len]; exact HB.out.2.2.1⟩
                have ST := hidOf (HX.out.publish_kept e (by have := HB.out.1.u; omega) (by have := HB.out.1.le; have := HRT.out.s1; omega) HB.out.2.2.2.1 (by have := HB.out.2.2.2.2; omega) (D := true) (decide_eq_true hu) hg2 hcs2)
                clear hcs2 hg2
                rw [e1]
                go_wp2_with fail
                refine ST.out.mono ?_
                rintro ee w4 ⟨rfl, X, K4⟩
                have O4 := HO.out.kept K4 (fun x hx => by have h9 := (HO.out.base x hx).1; have := HA.out; simp; omega)
                have s4 : base ≤ w4.heap.size := Nat.le_trans HZ.out K4.size
                have HL0 : Hid ((l).length ≤ 8) := hidOf (by have := HB.out.1.u; have := HB.out.1.le; have := HRT.out.s1; omega)
                obtain ⟨gg, cp, w5, hap, O5, AT, K5⟩ := append_word 24 w4 base w4.heap.size _ _ e rfl O4 s4 (by have := HL0.out; omega)
                have X5 := X.far HA.out K5 (fun x hx => by have h9 := O4.base x (by simpa using hx); exact h9.1)
                have q5 : base ≤ w5.heap.size := Nat.le_trans s4 K5.size
                obtain ⟨LL, hLL⟩ : ∃ LL, LL = (l).length + 1 := ⟨_, rfl⟩
                rw [← hLL] at hap O5
                have HLL : Hid (LL = (l ++ [e]).length) := hidOf (by rw [hLL, List.length_append, List.length_singleton])
                have L8 : LL ≤ 8 := by have := HLL.out; have z := SP.out.u; have z2 := SP.out.le; have := HRT.out.s1; omega
                have LS : Hid (LL ≤ S) := hidOf (by have := HLL.out; have z := SP.out.u; have z2 := SP.out.le; have := HSS.out; omega)
                clear HX ST X O4 K4 K5 AT HL0 hLL cj HO HZ s4 q1
                go_wp2_with (at_builtin; refine wpList_append_run rfl (.tmp 65) (.tmp 67) 24 rfl rfl rfl hap ?_)
                have HX := hidOf X5
                have HO := hidOf O5
                have HZ := hidOf q5
                have HC : Hid (0 ≤ cnt ∧ cnt ≤ 100 * j) := HB.out.2.2.2
                clear X5 O5 q5 hap HB
                obtain ⟨l2, hl2⟩ : ∃ l2, l2 = l ++ [e] := ⟨_, rfl⟩
                rw [← hl2] at SP HLL HO
                clear hl2
                have q1 := cell_of_blk (HCB.out.kept HX.out.kp (by simp)) (i := 1) (v := .int .i64 c.s) rfl
                rw [HSS.out] at q1
                go_wp2
                go_loopw [71] (fun i wr => ∃ (k : Nat) (cnt2 : Int), k ≤ LL ∧ i = .int .i64 k ∧ Gw W wr b m p r c g2 cs2 cnt2 ∧ OwnV 1 wC wr base 29 (.slice (some ⟨gg, 0, none⟩) LL cp) l2 ∧ base ≤ wr.heap.size ∧ Hid (0 ≤ cnt2 ∧ cnt2 ≤ 100 * j + 1 + 8 * k)) (fun i _ => LL - (intOf i).toNat)
                case atStart => exact ⟨0, cnt + 1, Nat.zero_le _, rfl, HX.out, HO.out, HZ.out, ⟨by have := HC.out.1; omega, by have := HC.out.2; omega⟩⟩
                case round =>
                  clear HX HO HZ HC
                  obtain ⟨k, cnt2, hk, rfl, X, O, Z, HC⟩ := hrel
                  have HX := hidOf X
                  have HO := hidOf O
                  have HZ := hidOf Z
                  clear X O Z q1
                  have q1 := cell_of_blk (HCB.out.kept HX.out.kp (by simp)) (i := 1) (v := .int .i64 c.s) rfl
                  rw [HSS.out] at q1
                  by_cases hlk : k < LL
                  · have hlkz : (k : Int) < (LL : Int) := by omega
                    obtain ⟨ck, gl⟩ := HO.out.cellw (k := k) (by rw [← HLL.out]; exact hlk)
                    have HV := hidOf (SP.out.st k (by rw [← HLL.out]; exact hlk))
                    generalize l2.getD k 0 = V at ck HV
                    go_wp2
                    clear ck gl
                    go_loopw [15, 77] (fun s i wr => ∃ (t : Nat) (B : Bool) (cnt2 : Int), t ≤ S ∧ i = .int .i64 t ∧ s = .bool B ∧ Gw W wr b m p r c g2 cs2 cnt2 ∧ OwnV 1 wC wr base 29 (.slice (some ⟨gg, 0, none⟩) LL cp) l2 ∧ base ≤ wr.heap.size ∧ Hid ((k < t → B = true) ∧ 0 ≤ cnt2 ∧ cnt2 ≤ 100 * j + 1 + 8 * k + t)) (fun s i _ => S - (intOf i).toNat)
                    case atStart => exact ⟨0, false, cnt2, Nat.zero_le _, rfl, rfl, HX.out, HO.out, HZ.out, ⟨fun h => by omega, HC.out.1, by have := HC.out.2; omega⟩⟩
                    case round =>
                      clear HX HO HZ HC q1
                      obtain ⟨t, B, cnt3, ht, rfl, rfl, X, O, Z, HC⟩ := hrel
                      have HX := hidOf X
                      have HO := hidOf O
                      have HZ := hidOf Z
                      clear X O Z
                      have q1 := cell_of_blk (HCB.out.kept HX.out.kp (by simp)) (i := 1) (v := .int .i64 c.s) rfl
                      rw [HSS.out] at q1
                      by_cases hlt2 : t < S
                      · have hltz2 : (t : Int) < (S : Int) := by omega
                        cases B with
                        | true =>
                          go_wp2
                          go_roundw
                          case rel => exact ⟨t + 1, true, cnt3, by omega, by go_num, rfl, HX.out, HO.out, HZ.out, ⟨fun _ => rfl, HC.out.2.1, by have := HC.out.2.2; omega⟩⟩
                          case measure => simp [intOf]; omega
                        | false =>
                          obtain ⟨V2, hV2⟩ : ∃ V2, rdG cs2 (rsV c th t) = V2 := ⟨_, rfl⟩
                          have HV2 : Hid (k = t → V2 = V) := hidOf (fun e => by rw [← hV2, ← HV.out, G2.out.2.1, e])
                          have ST := hidOf (HX.out.reserved_kept th (t : Int) HC.out.2.1 (by have := HC.out.2.2; omega) hV2)
                          clear hV2
                          go_wp2_with fail
                          refine ST.out.mono ?_
                          rintro ee w6 ⟨rfl, X, K6⟩
                          have O6 := HO.out.kept K6 (fun x hx => by have h9 := (HO.out.base x hx).1; have := HA.out; simp; omega)
                          have Z6 : base ≤ w6.heap.size := Nat.le_trans HZ.out K6.size
                          clear HX HO HZ ST K6 q1
                          have HX := hidOf X
                          have HO := hidOf O6
                          have HZ := hidOf Z6
                          clear X O6 Z6
                          have q1 := cell_of_blk (HCB.out.kept HX.out.kp (by simp)) (i := 1) (v := .int .i64 c.s) rfl
                          rw [HSS.out] at q1
                          go_wp2
                          go_roundw
                          case rel =>
                            refine ⟨t + 1, V2 == V, cnt3 + 1, by omega, by go_num, rfl, HX.out, HO.out, HZ.out, ⟨fun h => ?_, by have := HC.out.2.1; omega, by have := HC.out.2.2; omega⟩⟩
                            by_cases he : k = t
                            · rw [HV2.out he]; simp
                            · exact absurd (HC.out.1 (by omega)) (by simp)
                          case measure => simp [intOf]; omega
                      · have htz : ¬ (t : Int) < (S : Int) := by omega
                        have hB : B = true := HC.out.1 (by have := LS.out; omega)
                        subst hB
                        have HC2 : Hid (0 ≤ cnt3 ∧ cnt3 ≤ 100 * j + 1 + 8 * (k + 1 : Nat)) := hidOf ⟨HC.out.2.1, by have := HC.out.2.2; omega⟩
                        clear HC
                        go_wp2
                        go_roundw
                        case rel => exact ⟨k + 1, cnt3, by omega, by go_num, HX.out, HO.out, HZ.out, HC2.out⟩
                        case measure => simp [intOf]; omega
                  · have hkz : ¬ (k : Int) < (LL : Int) := by omega
                    have hke : k = LL := by omega
                    have HC2 : Hid (0 ≤ cnt2 ∧ cnt2 ≤ 100 * (j + 1 : Nat)) := hidOf ⟨HC.out.1, by have := HC.out.2; omega⟩
                    have hLS : ¬ (S : Int) < (LL : Int) := by have := LS.out; omega
                    have ST := hidOf (HX.out.latest_is (V := e) G2.out.1)
                    clear HC hke hk hlk
                    go_wp2_with fail
                    refine ST.out.mono ?_
                    rintro ee w7 ⟨rfl, rfl⟩
                    clear ST
                    go_wp2
                    go_roundw
                    case rel => exact ⟨j + 1, _, l2, g2, cs2, cnt2, by omega, by go_num, rfl, HX.out, HO.out, HZ.out, ⟨SP.out, G2.out.2.1, G2.out.2.2, HC2.out⟩⟩
                    case measure => simp [intOf]; omega
              · have SP : Hid (Stn c cs2 g2 (([] : List Int) ++ [e])) := hidOf (by
                  have z := HB.out.1.pub hri HB.out.2.2.1 (by rw [HB.out.2.1]; omega) (by rw [HB.out.2.1]; omega) e
                  rw [hcs2, hg2, if_neg hu] at z
                  exact z)
                have G2 : Hid (g2.l = e ∧ g2.t = th ∧ (cs2.length : Int) = lnV c) := hidOf ⟨hg2 ▸ rfl, hg2 ▸ HB.out.2.1, by rw [← hcs2, clV_len]; exact HB.out.2.2.1⟩
                have ST := hidOf (HX.out.publish_kept e (by have := HB.out.1.u; omega) (by have := HB.out.1.le; have := HRT.out.s1; omega) HB.out.2.2.2.1 (by have := HB.out.2.2.2.2; omega) (D := false) (decide_eq_false hu) hg2 hcs2)
                clear hcs2 hg2
                rw [e1]
                go_wp2_with fail
                refine ST.out.mono ?_
                rintro ee w4 ⟨rfl, X, K4⟩
                have O4 := (OwnV.nil (n := 1) (f := wC) wr base 29).kept K4 (fun x hx => by have h9 := ((OwnV.nil (n := 1) (f := wC) wr base 29).base x hx).1; have := HA.out; simp; omega)
                have s4 : base ≤ w4.heap.size := Nat.le_trans HZ.out K4.size
                have HL0 : Hid ((([] : List Int)).length ≤ 8) := hidOf (by simp)
                obtain ⟨gg, cp, w5, hap, O5, AT, K5⟩ := append_word 24 w4 base w4.heap.size _ _ e rfl O4 s4 (by have := HL0.out; omega)
                have X5 := X.far HA.out K5 (fun x hx => by have h9 := O4.base x (by simpa using hx); exact h9.1)
                have q5 : base ≤ w5.heap.size := Nat.le_trans s4 K5.size
                obtain ⟨LL, hLL⟩ : ∃ LL, LL = (([] : List Int)).length + 1 := ⟨_, rfl⟩
                rw [← hLL] at hap O5
                have HLL : Hid (LL = (([] : List Int) ++ [e]).length) := hidOf (by rw [hLL, List.length_append, List.length_singleton])
                have L8 : LL ≤ 8 := by have := HLL.out; have z := SP.out.u; have z2 := SP.out.le; have := HRT.out.s1; omega
                have LS : Hid (LL ≤ S) := hidOf (by have := HLL.out; have z := SP.out.u; have z2 := SP.out.le; have := HSS.out; omega)
                clear HX ST X O4 K4 K5 AT HL0 hLL cj HO HZ s4 q1
                go_wp2_with (at_builtin; refine wpList_append_run rfl (.tmp 65) (.tmp 67) 24 rfl rfl rfl hap ?_)
                have HX := hidOf X5
                have HO := hidOf O5
                have HZ := hidOf q5
                have HC : Hid (0 ≤ cnt ∧ cnt ≤ 100 * j) := HB.out.2.2.2
                clear X5 O5 q5 hap HB
                obtain ⟨l2, hl2⟩ : ∃ l2, l2 = ([] : List Int) ++ [e] := ⟨_, rfl⟩
                rw [← hl2] at SP HLL HO
                clear hl2
                have q1 := cell_of_blk (HCB.out.kept HX.out.kp (by simp)) (i := 1) (v := .int .i64 c.s) rfl
                rw [HSS.out] at q1
                go_wp2
                go_loopw [71] (fun i wr => ∃ (k : Nat) (cnt2 : Int), k ≤ LL ∧ i = .int .i64 k ∧ Gw W wr b m p r c g2 cs2 cnt2 ∧ OwnV 1 wC wr base 29 (.slice (some ⟨gg, 0, none⟩) LL cp) l2 ∧ base ≤ wr.heap.size ∧ Hid (0 ≤ cnt2 ∧ cnt2 ≤ 100 * j + 1 + 8 * k)) (fun i _ => LL - (intOf i).toNat)
                case atStart => exact ⟨0, cnt + 1, Nat.zero_le _, rfl, HX.out, HO.out, HZ.out, ⟨by have := HC.out.1; omega, by have := HC.out.2; omega⟩⟩
                case round =>
                  clear HX HO HZ HC
                  obtain ⟨k, cnt2, hk, rfl, X, O, Z, HC⟩ := hrel
                  have HX := hidOf X
                  have HO := hidOf O
                  have HZ := hidOf Z
                  clear X O Z q1
                  have q1 := cell_of_blk (HCB.out.kept HX.out.kp (by simp)) (i := 1) (v := .int .i64 c.s) rfl
                  rw [HSS.out] at q1
                  by_cases hlk : k < LL
                  · have hlkz : (k : Int) < (LL : Int) := by omega
                    obtain ⟨ck, gl⟩ := HO.out.cellw (k := k) (by rw [← HLL.out]; exact hlk)
                    have HV := hidOf (SP.out.st k (by rw [← HLL.out]; exact hlk))
                    generalize l2.getD k 0 = V at ck HV
                    go_wp2
                    clear ck gl
                    go_loopw [15, 77] (fun s i wr => ∃ (t : Nat) (B : Bool) (cnt2 : Int), t ≤ S ∧ i = .int .i64 t ∧ s = .bool B ∧ Gw W wr b m p r c g2 cs2 cnt2 ∧ OwnV 1 wC wr base 29 (.slice (some ⟨gg, 0, none⟩) LL cp) l2 ∧ base ≤ wr.heap.size ∧ Hid ((k < t → B = true) ∧ 0 ≤ cnt2 ∧ cnt2 ≤ 100 * j + 1 + 8 * k + t)) (fun s i _ => S - (intOf i).toNat)
                    case atStart => exact ⟨0, false, cnt2, Nat.zero_le _, rfl, rfl, HX.out, HO.out, HZ.out, ⟨fun h => by omega, HC.out.1, by have := HC.out.2; omega⟩⟩
                    case round =>
                      clear HX HO HZ HC q1
                      obtain ⟨t, B, cnt3, ht, rfl, rfl, X, O, Z, HC⟩ := hrel
                      have HX := hidOf X
                      have HO := hidOf O
                      have HZ := hidOf Z
                      clear X O Z
                      have q1 := cell_of_blk (HCB.out.kept HX.out.kp (by simp)) (i := 1) (v := .int .i64 c.s) rfl
                      rw [HSS.out] at q1
                      by_cases hlt2 : t < S
                      · have hltz2 : (t : Int) < (S : Int) := by omega
                        cases B with
                        | true =>
                          go_wp2
                          go_roundw
                          case rel => exact ⟨t + 1, true, cnt3, by omega, by go_num, rfl, HX.out, HO.out, HZ.out, ⟨fun _ => rfl, HC.out.2.1, by have := HC.out.2.2; omega⟩⟩
                          case measure => simp [intOf]; omega
                        | false =>
                          obtain ⟨V2, hV2⟩ : ∃ V2, rdG cs2 (rsV c th t) = V2 := ⟨_, rfl⟩
                          have HV2 : Hid (k = t → V2 = V) := hidOf (fun e => by rw [← hV2, ← HV.out, G2.out.2.1, e])
                          have ST := hidOf (HX.out.reserved_kept th (t : Int) HC.out.2.1 (by have := HC.out.2.2; omega) hV2)
                          clear hV2
                          go_wp2_with fail
                          refine ST.out.mono ?_
                          rintro ee w6 ⟨rfl, X, K6⟩
                          have O6 := HO.out.kept K6 (fun x hx => by have h9 := (HO.out.base x hx).1; have := HA.out; simp; omega)
                          have Z6 : base ≤ w6.heap.size := Nat.le_trans HZ.out K6.size
                          clear HX HO HZ ST K6 q1
                          have HX := hidOf X
                          have HO := hidOf O6
                          have HZ := hidOf Z6
                          clear X O6 Z6
                          have q1 := cell_of_blk (HCB.out.kept HX.out.kp (by simp)) (i := 1) (v := .int .i64 c.s) rfl
                          rw [HSS.out] at q1
                          go_wp2
                          go_roundw
                          case rel =>
                            refine ⟨t + 1, V2 == V, cnt3 + 1, by omega, by go_num, rfl, HX.out, HO.out, HZ.out, ⟨fun h => ?_, by have := HC.out.2.1; omega, by have := HC.out.2.2; omega⟩⟩
                            by_cases he : k = t
                            · rw [HV2.out he]; simp
                            · exact absurd (HC.out.1 (by omega)) (by simp)
                          case measure => simp [intOf]; omega
                      · have htz : ¬ (t : Int) < (S : Int) := by omega
                        have hB : B = true := HC.out.1 (by have := LS.out; omega)
                        subst hB
                        have HC2 : Hid (0 ≤ cnt3 ∧ cnt3 ≤ 100 * j + 1 + 8 * (k + 1 : Nat)) := hidOf ⟨HC.out.2.1, by have := HC.out.2.2; omega⟩
                        clear HC
                        go_wp2
                        go_roundw
                        case rel => exact ⟨k + 1, cnt3, by omega, by go_num, HX.out, HO.out, HZ.out, HC2.out⟩
                        case measure => simp [intOf]; omega
                  · have hkz : ¬ (k : Int) < (LL : Int) := by omega
                    have hke : k = LL := by omega
                    have HC2 : Hid (0 ≤ cnt2 ∧ cnt2 ≤ 100 * (j + 1 : Nat)) := hidOf ⟨HC.out.1, by have := HC.out.2; omega⟩
                    have hLS : ¬ (S : Int) < (LL : Int) := by have := LS.out; omega
                    have ST := hidOf (HX.out.latest_is (V := e) G2.out.1)
                    clear HC hke hk hlk
                    go_wp2_with fail
                    refine ST.out.mono ?_
                    rintro ee w7 ⟨rfl, rfl⟩
                    clear ST
                    go_wp2
                    go_roundw
                    case rel => exact ⟨j + 1, _, l2, g2, cs2, cnt2, by omega, by go_num, rfl, HX.out, HO.out, HZ.out, ⟨SP.out, G2.out.2.1, G2.out.2.2, HC2.out⟩⟩
                    case measure => simp [intOf]; omega
            · have hjz : ¬ (j : Int) < (n : Int) := by omega
              have AL := hidOf (alive_any _ (HTW.out.kept HX.out.kp))
              go_wp2_with fail
              refine AL.out.mono ?_
              rintro e WA ⟨rfl, KA⟩
              go_wp2
              go_ret
              exact ⟨rfl, HK0.out.trans (HX.out.kp.trans KA)⟩
      · have t1c : c.t ≤ th := by omega
        go_enter Tryd.func4, Tryd.ntmps4
        go_upto_region 1 with (fail)
        rw [← hq]
        refine gen_world (fun W => RW 23 W q #[.int .i64 c.t, .int .i64 c.s, .int .i64 c.c, .int .i64 c.h, .int .i64 c.k, .int .i64 c.e, .int .i64 c.l] ∧ Kept [] w W) BX.out ?_
        have hqw : w.heap.size ≤ q := by omega
        clear BX hq
        rintro W ⟨CB, K0⟩
        have HCB := hidOf CB
        have HTW := hidOf (HT.out.kept K0)
        have HK0 := hidOf K0
        clear CB K0
        have NW := hidOf (mnew_yes c W HTW.out hri)
        go_wp2_with (first | ((with_reducible change wpList _ _ _ (Oper.mk _ (Op.load 23 (Operand.tmp 3)) _ _ _ _ :: _) _ _); refine wpList_load_rw 23 isT_cf rfl (.tmp 3) rfl q rfl #[.int .i64 c.t, .int .i64 c.s, .int .i64 c.c, .int .i64 c.h, .int .i64 c.k, .int .i64 c.e, .int .i64 c.l] rfl HCB.out ?_))
        refine NW.out.mono ?_
        rintro e w1 ⟨m, p, r, rfl, ⟨hm, hp, hr⟩, M, K1⟩
        have q0 := cell_of_blk (HCB.out.kept K1 (by simp)) (i := 0) (v := .int .i64 c.t) rfl
        have q1 := cell_of_blk (HCB.out.kept K1 (by simp)) (i := 1) (v := .int .i64 c.s) rfl
        go_wp2_with fail
        refine (gnew_any th _).mono ?_
        rintro e w2 ⟨b, rfl, hb, G, K2⟩
        clear q0 q1
        have HX := hidOf (Gw.start K1 hp hr M K2 hb G)
        have q0 := cell_of_blk (HCB.out.kept HX.out.kp (by simp)) (i := 0) (v := .int .i64 c.t) rfl
        have q1 := cell_of_blk (HCB.out.kept HX.out.kp (by simp)) (i := 1) (v := .int .i64 c.s) rfl
        clear NW M K1 K2 G hm hp hr hb
        have AL := hidOf (alive_any _ (HTW.out.kept HX.out.kp))
        go_wp2_with fail
        refine AL.out.mono ?_
        rintro e WA ⟨rfl, KA⟩
        go_wp2
        go_ret
        exact ⟨rfl, HK0.out.trans (HX.out.kp.trans KA)⟩
  · have hrf : riB c = false := by simpa using hri
    go_enter Tryd.func4, Tryd.ntmps4
    go_upto_region 1 with (fail)
    rw [← hq]
    refine gen_world (fun W => RW 23 W q #[.int .i64 c.t, .int .i64 c.s, .int .i64 c.c, .int .i64 c.h, .int .i64 c.k, .int .i64 c.e, .int .i64 c.l] ∧ Kept [] w W) BX.out ?_
    have hqw : w.heap.size ≤ q := by omega
    clear BX hq
    rintro W ⟨CB, K0⟩
    have HCB := hidOf CB
    have HTW := hidOf (HT.out.kept K0)
    have HK0 := hidOf K0
    clear CB K0
    have NW := hidOf (mnew_wrong c W hrf)
    go_wp2_with (first | ((with_reducible change wpList _ _ _ (Oper.mk _ (Op.load 23 (Operand.tmp 3)) _ _ _ _ :: _) _ _); refine wpList_load_rw 23 isT_cf rfl (.tmp 3) rfl q rfl #[.int .i64 c.t, .int .i64 c.s, .int .i64 c.c, .int .i64 c.h, .int .i64 c.k, .int .i64 c.e, .int .i64 c.l] rfl HCB.out ?_))
    refine NW.out.mono ?_
    rintro e w1 ⟨rfl, K1⟩
    go_wp2_with fail
    refine (gnew_any th _).mono ?_
    rintro e w2 ⟨b, rfl, hb, G, K2⟩
    have KX := hidOf (K1.trans K2)
    clear NW K1 K2 G hb
    have AL := hidOf (alive_any _ (HTW.out.kept KX.out))
    go_wp2_with fail
    refine AL.out.mono ?_
    rintro e WA ⟨rfl, KA⟩
    go_wp2
    go_ret
    exact ⟨rfl, HK0.out.trans (KX.out.trans KA)⟩

set_option maxRecDepth 100000 in
theorem guardStands_lifted (os : Os) (started : os.Started) (H : Type) (enc : TypeId × Value → H) :
    ReturnsInHanded {} Tryd.checked os 4 .any (fun w args => (Rows.guardStandsSpec.pre enc Tryd.prog Tryd.f4 [] false w args ∧ laidMetH Tryd.prog laid1 w) ∧ sizedMet enc Tryd.prog Tryd.f4 (OpenSpec.ofChange Rows.guardStandsSpec) false w args)
      (Rows.guardStandsSpec.post enc Tryd.prog Tryd.f4 false true false false) := by
  refine returnsInHanded_of_change_and (C := Tryd.checked) (X := fun w _ => laidMetH Tryd.prog laid1 w) (fun _ _ _ hh h => h.of_heap hh) own started (by kernel_rfl) Tryd.func4
    (ChangeSpec.witness_shaped (enc := enc) (C := Tryd.checked) (os := os) (X := fun w _ => laidMetH Tryd.prog laid1 w) false (World.doorLaid Tryd.prog 400 os) #[.agg #[.int .i64 0, .int .i64 0, .int .i64 0, .int .i64 0, .int .i64 0, .int .i64 0, .int .i64 0], .int .i64 0, .slice none 0 0] 8 rfl (World.shaped_of_RefB (by kernel_rfl) (by kernel_rfl)) (by kernel_rfl) (by kernel_rfl) (by kernel_rfl) (door_met os _)) ?_
  intro W base args ds gs before hval0 hW _ _ hL _
  have hval : ∀ (j : Nat) t v, Tryd.f4.params[j]? = some t → args[j]? = some v → Value.okWide Tryd.prog W .any base t v := hval0
  have hW' := hW
  obtain ⟨p, q, hA0, hV, rfl, _, _⟩ := hW
  have hA : DataW.TrodAll enc Tryd.prog W 0 (fun _ => true) true Tryd.f4.params.toList args.toList ds p := hA0
  rw [Tryd.params4] at hA hval
  clear hA0 hval0
  obtain ⟨v0, vs0, d0, ds0, p0, q0, hargs, rfl, rfl, h0, r0⟩ := trodAll_cons hA
  obtain ⟨v1, vs1, d1, ds1, p1, q1, rfl, rfl, rfl, h1, r1⟩ := trodAll_cons r0
  obtain ⟨v2, vs2, d2, ds2, p2, q2, rfl, rfl, rfl, h2, r2⟩ := trodAll_cons r1
  obtain ⟨rfl, rfl, rfl⟩ := trodAll_nil r2
  obtain rfl : args = #[v0, v1, v2] := by cases args; simp_all
  obtain ⟨rfl, rfl⟩ := trodVars_none hV
  have k0 := h0
  have k1 := h1
  have k2 := h2
  simp only [List.append_nil] at hW'
  have hlt0 : ∀ x ∈ p0, x.block < W.heap.size := fun x hx => hW'.lt x (by simp [hx])
  have hlt1 : ∀ x ∈ p1, x.block < W.heap.size := fun x hx => hW'.lt x (by simp [hx])
  have hlt2 : ∀ x ∈ p2, x.block < W.heap.size := fun x hx => hW'.lt x (by simp [hx])
  obtain ⟨c0, rfl, g0⟩ := open_cfg (hval 0 23 v0 rfl rfl) h0
  obtain ⟨a1, rfl, rfl, rfl, w1⟩ := open_int Tryd.underlying3 (hval 1 3 v1 rfl rfl) h1
  obtain ⟨ao2, cap2, xs2, rfl, s2, g2, z2, n2⟩ := open_words (hval 2 24 v2 rfl rfl) h2
  refine (guardStands_walk W c0 g0 a1 w1 ao2 xs2 cap2 s2 g2 n2 (tab_of_laid hL)).mono fun e W' ⟨he, hg⟩ => ?_
  subst he
  have hb := hg.below (by simp)
  exact ⟨_, rfl, _, _, _, [], _, [], hW', (trodAll_cons_mk (shut_bool Tryd.underlying4 _) trodAll_mk0), (trodAll_cons_mk (Below.trod laidOut (by kernel_rfl) (of_decide_eq_true (by kernel_rfl)) k0 hb hlt0) (trodAll_cons_mk (Below.trod laidOut (by kernel_rfl) (of_decide_eq_true (by kernel_rfl)) k1 hb hlt1) (trodAll_cons_mk (Below.trod laidOut (by kernel_rfl) (of_decide_eq_true (by kernel_rfl)) k2 hb hlt2) trodAll_mk0))), rfl, hb.frame _, fun h => by cases h⟩

theorem guardStands_over : Rows.GuardStandsSaid :=
  OpenClaim.holds_of_wide 4 Tryd.f4 rfl rfl rfl rfl rfl rfl rfl ⟨rfl, rfl, rfl, rfl, rfl⟩ rfl rfl rfl rfl rfl (by kernel_rfl) Tryd.func4 (by kernel_rfl)
    (of_decide_eq_true (by kernel_rfl)) (by unfold Func.isWrapper; first | (rw [if_pos (by decide +kernel)]; kernel_rfl) | (rw [if_neg (by decide +kernel)]; exact ⟨rfl, rfl⟩))
    (fun os started H enc _ => guardStands_lifted os started H enc)

theorem guardStands_holds : Rows.GuardStandsCardSaid :=
  Claim7.holds_tied_plain_at .later [] [.data] true (true, "b4883c6acc027d471720382080dd105359c62c6a05fa2fbd39293c40dd38c4e0") false
    guardStands_over (fun _ h => by cases h) (by kernel_rfl) (fun _ h => by cases h) guardStands_row_tie rfl ⟨rfl, rfl⟩ (by kernel_rfl) rfl
    (fun f fn hf hfn => by
      obtain rfl : f = 4 := Option.some.inj ((show Tryd.prog.funcNamed "stepstone/stepstonelaw10.GuardStands" = some 4 by kernel_rfl).symm.trans hf) |>.symm
      obtain rfl : fn = Tryd.f4 := (Option.some.inj (Tryd.func4.symm.trans hfn)).symm
      exact ⟨by kernel_rfl, fun j t ht => by
          rw [Tryd.params4] at ht
          rcases j with _ | j
          · have : t = 23 := by simpa using ht.symm
            subst this; exact (show Tryd.prog.wantsStandIn 23 = false by kernel_rfl)
          rcases j with _ | j
          · have : t = 3 := by simpa using ht.symm
            subst this; exact (show Tryd.prog.wantsStandIn 3 = false by kernel_rfl)
          rcases j with _ | j
          · have : t = 24 := by simpa using ht.symm
            subst this; exact (show Tryd.prog.wantsStandIn 24 = false by kernel_rfl)
          simp at ht⟩)
    (by kernel_rfl)
#print axioms guardStands_holds
end Go.Proofs.YtpobanjpgdghlaaDoor
