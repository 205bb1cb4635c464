/-
  Behind clearing all reservations none stands, and the next publish is of the first one.
  Conditions: the package variable of handle that the code reads starts as the program's text lays it (the card ties it to that text).
-/
import Derived.Test.YtpobanjpgdghlaaDoorGAlive
import Derived.Test.YtpobanjpgdghlaaDoorHLaid
import Derived.Test.YtpobanjpgdghlaaDoorPArgs
import Derived.ProofKit
import Derived.SizedLaws
import Derived.Carry
namespace Go.Proofs.YtpobanjpgdghlaaDoor
open Go.ChangeShapes Go.WideShapes Go.ChangeAt Go.RowKit
open Go.Deep
open Go.Proofs.YtpobanjpgdghlaaDoor.K
set_option maxRecDepth 100000

set_option maxRecDepth 100000 in
set_option maxHeartbeats 8000000 in
theorem guardClears_walk (w : World) (c : Cfg) (_g : c.wf) (ao : Option Addr) (xs : List Int) (cap : Nat) (hs : Sl w ao xs) (_hg : ∀ x ∈ xs, isWord x) (_hc : ao = none → cap = 0) (nx : Int) (_h2 : (Lit.int .u64 nx).wf = true) (hT : Tab w) :
    Calls Tryd.prog 6 #[c.val, .slice ao xs.length cap, .int .u64 nx] w fun e w' => e = .returned (.bool true) ∧ Kept [] w w' := by
  simp only [Cfg.val]
  obtain ⟨n, hn⟩ : ∃ n, n = xs.length := ⟨_, rfl⟩
  rw [← hn]
  have HN := hidOf hn
  have HS := hidOf hs
  have HT := hidOf hT
  clear hn hs hT
  obtain ⟨q, hq⟩ : ∃ q, q = w.heap.size := ⟨_, rfl⟩
  have BX : Hid (RW 23 (w.alloc (.cells #[.int .i64 c.t, .int .i64 c.s, .int .i64 c.c, .int .i64 c.h, .int .i64 c.k, .int .i64 c.e, .int .i64 c.l] 23)) q #[.int .i64 c.t, .int .i64 c.s, .int .i64 c.c, .int .i64 c.h, .int .i64 c.k, .int .i64 c.e, .int .i64 c.l] ∧ Kept [] w (w.alloc (.cells #[.int .i64 c.t, .int .i64 c.s, .int .i64 c.c, .int .i64 c.h, .int .i64 c.k, .int .i64 c.e, .int .i64 c.l] 23))) := by rw [hq]; exact ⟨RW.new _ _ _, (Kept.refl [] w).alloc _⟩
  by_cases hri : riB c = true
  · have HRT := hidOf (riB_true.1 hri)
    by_cases h1 : 40 < (n : Int)
    · go_enter Tryd.func6, Tryd.ntmps6
      go_upto_region 1 with (fail)
      rw [← hq]
      refine gen_world (fun W => RW 23 W q #[.int .i64 c.t, .int .i64 c.s, .int .i64 c.c, .int .i64 c.h, .int .i64 c.k, .int .i64 c.e, .int .i64 c.l] ∧ Kept [] w W) BX.out ?_
      have hqw : w.heap.size ≤ q := by omega
      clear BX hq
      rintro W ⟨CB, K0⟩
      have HCB := hidOf CB
      have HTW := hidOf (HT.out.kept K0)
      have HK0 := hidOf K0
      clear CB K0
      have NW := hidOf (mnew_yes c W HTW.out hri)
      go_wp2_with (first | ((with_reducible change wpList _ _ _ (Oper.mk _ (Op.load 23 (Operand.tmp 3)) _ _ _ _ :: _) _ _); refine wpList_load_rw 23 isT_cf rfl (.tmp 3) rfl q rfl #[.int .i64 c.t, .int .i64 c.s, .int .i64 c.c, .int .i64 c.h, .int .i64 c.k, .int .i64 c.e, .int .i64 c.l] rfl HCB.out ?_))
      refine NW.out.mono ?_
      rintro e w1 ⟨m, p, r, rfl, ⟨hm, hp, hr⟩, M, K1⟩
      have q0 := cell_of_blk (HCB.out.kept K1 (by simp)) (i := 0) (v := .int .i64 c.t) rfl
      have q1 := cell_of_blk (HCB.out.kept K1 (by simp)) (i := 1) (v := .int .i64 c.s) rfl
      go_wp2_with fail
      refine (gnew_any 0 _).mono ?_
      rintro e w2 ⟨b, rfl, hb, G, K2⟩
      clear q0 q1
      have HX := hidOf (Gw.start K1 hp hr M K2 hb G)
      have q0 := cell_of_blk (HCB.out.kept HX.out.kp (by simp)) (i := 0) (v := .int .i64 c.t) rfl
      have q1 := cell_of_blk (HCB.out.kept HX.out.kp (by simp)) (i := 1) (v := .int .i64 c.s) rfl
      clear NW M K1 K2 G hm hp hr hb
      have AL := hidOf (alive_any _ (HTW.out.kept HX.out.kp))
      go_wp2_with fail
      refine AL.out.mono ?_
      rintro e WA ⟨rfl, KA⟩
      go_wp2
      go_ret
      exact ⟨rfl, HK0.out.trans (HX.out.kp.trans KA)⟩
    · go_enter Tryd.func6, Tryd.ntmps6
      go_upto_region 1 with (fail)
      rw [← hq]
      refine gen_world (fun W => RW 23 W q #[.int .i64 c.t, .int .i64 c.s, .int .i64 c.c, .int .i64 c.h, .int .i64 c.k, .int .i64 c.e, .int .i64 c.l] ∧ Kept [] w W) BX.out ?_
      have hqw : w.heap.size ≤ q := by omega
      clear BX hq
      rintro W ⟨CB, K0⟩
      have HCB := hidOf CB
      have HTW := hidOf (HT.out.kept K0)
      have HK0 := hidOf K0
      clear CB K0
      have NW := hidOf (mnew_yes c W HTW.out hri)
      go_wp2_with (first | ((with_reducible change wpList _ _ _ (Oper.mk _ (Op.load 23 (Operand.tmp 3)) _ _ _ _ :: _) _ _); refine wpList_load_rw 23 isT_cf rfl (.tmp 3) rfl q rfl #[.int .i64 c.t, .int .i64 c.s, .int .i64 c.c, .int .i64 c.h, .int .i64 c.k, .int .i64 c.e, .int .i64 c.l] rfl HCB.out ?_))
      refine NW.out.mono ?_
      rintro e w1 ⟨m, p, r, rfl, ⟨hm, hp, hr⟩, M, K1⟩
      have q0 := cell_of_blk (HCB.out.kept K1 (by simp)) (i := 0) (v := .int .i64 c.t) rfl
      have q1 := cell_of_blk (HCB.out.kept K1 (by simp)) (i := 1) (v := .int .i64 c.s) rfl
      go_wp2_with fail
      refine (gnew_any 0 _).mono ?_
      rintro e w2 ⟨b, rfl, hb, G, K2⟩
      clear q0 q1
      have HX := hidOf (Gw.start K1 hp hr M K2 hb G)
      have q0 := cell_of_blk (HCB.out.kept HX.out.kp (by simp)) (i := 0) (v := .int .i64 c.t) rfl
      have q1 := cell_of_blk (HCB.out.kept HX.out.kp (by simp)) (i := 1) (v := .int .i64 c.s) rfl
      clear NW M K1 K2 G hm hp hr hb
      have FL := hidOf (fc_ln c)
      clear q0 q1
      go_wp2
      go_loopw [44] (fun i wr => ∃ (j : Nat) (g : Gs) (cs : List Int) (cnt : Int), j ≤ n ∧ i = .int .i64 j ∧ Gw W wr b m p r c g cs cnt ∧ Hid (g.t = 0 ∧ 0 ≤ g.u ∧ g.u ≤ c.s ∧ (cs.length : Int) = lnV c ∧ 0 ≤ cnt ∧ cnt ≤ j)) (fun i _ => n - (intOf i).toNat)
      case atStart => exact ⟨0, _, _, 0, Nat.zero_le _, rfl, HX.out, ⟨rfl, Int.le_refl _, by show (0 : Int) ≤ c.s; have := HRT.out.s0; omega, FL.out, Int.le_refl _, Int.le_refl _⟩⟩
      case round =>
        clear HX FL
        obtain ⟨j, g, cs, cnt, hj, rfl, X, HB⟩ := hrel
        have HX := hidOf X
        clear X
        by_cases hlt : j < n
        · have hltz : (j : Int) < (n : Int) := by omega
          obtain ⟨b1, o1, e1, l1, cj⟩ := Sl.cell (HS.out.new (HK0.out.trans HX.out.kp)) (i := j) (by rw [← HN.out]; exact hlt)
          generalize xs.getD j 0 = e at cj
          have ST := hidOf (HX.out.publish e HB.out.2.1 (by have := HB.out.2.2.1; have := HRT.out.s1; omega) HB.out.2.2.2.2.1 (by have := HB.out.2.2.2.2.2; omega))
          rw [e1]
          go_wp2_with fail
          refine ST.out.mono ?_
          rintro e w4 ⟨rfl, X⟩
          clear HX ST cj
          have HX := hidOf X
          clear X
          go_wp2
          go_roundw
          case rel =>
            refine ⟨j + 1, _, _, cnt + 1, by omega, by go_num, HX.out, ⟨HB.out.1, ?_, ?_, ?_, by have := HB.out.2.2.2.2.1; omega, by have := HB.out.2.2.2.2.2; omega⟩⟩
            · have := (pubG_u (c := c) (g := g) HRT.out.s0 HB.out.2.1 e).1; omega
            · exact (pubG_u HRT.out.s0 HB.out.2.1 _).2
            · rw [clV_len]; exact HB.out.2.2.2.1
          case measure => simp [intOf]; omega
        · have hjz : ¬ (j : Int) < (n : Int) := by omega
          have HJ : Hid (j ≤ n) := hj
          clear hj hlt
          obtain ⟨S, hS⟩ : ∃ S : Nat, c.s = S := ⟨c.s.toNat, by have := HRT.out.s0; omega⟩
          have HSS := hidOf hS
          have hS8 : (S : Int) ≤ 8 := by have := HRT.out.s1; omega
          have hS1 : 1 ≤ (S : Int) := by have := HRT.out.s0; omega
          clear hS
          have q1 := cell_of_blk (HCB.out.kept HX.out.kp (by simp)) (i := 1) (v := .int .i64 c.s) rfl
          rw [HSS.out] at q1
          go_wp2
          go_loopw [55] (fun i wr => ∃ (k : Nat) (g : Gs) (cs : List Int) (cnt : Int), k ≤ S ∧ i = .int .i64 k ∧ Gw W wr b m p r c g cs cnt ∧ Hid (g.t = 0 ∧ 0 ≤ g.u ∧ g.u ≤ c.s ∧ (cs.length : Int) = lnV c ∧ 0 ≤ cnt ∧ cnt ≤ 40 + k ∧ (∀ x : Int, 0 ≤ x → x < k → rdG cs (rsV c 0 x) = 0) ∧ (k = S → g = ⟨0, 0, 0⟩))) (fun i _ => S - (intOf i).toNat)
          case atStart => exact ⟨0, _, _, cnt, Nat.zero_le _, rfl, HX.out, ⟨HB.out.1, HB.out.2.1, HB.out.2.2.1, HB.out.2.2.2.1, HB.out.2.2.2.2.1, by have := HB.out.2.2.2.2.2; have := HJ.out; omega, fun x x0 x1 => by omega, fun h => by have := HSS.out; have := HRT.out.s0; omega⟩⟩
          case round =>
            clear HX HB
            obtain ⟨k, g, cs, cnt, hk, rfl, X, HB⟩ := hrel
            have HX := hidOf X
            clear X q1
            by_cases hlt : k < S
            · have hltz : (k : Int) < (S : Int) := by omega
              have ST := hidOf (HX.out.clear (k : Int) (by have := HRT.out.s0; omega) (by have := HRT.out.s1; omega) HB.out.2.2.2.2.1 (by have := HB.out.2.2.2.2.2.1; have := HSS.out; have := HRT.out.s1; omega))
              go_wp2_with fail
              refine ST.out.mono ?_
              rintro e w5 ⟨rfl, X⟩
              clear HX ST
              have HX := hidOf X
              clear X
              have q1 := cell_of_blk (HCB.out.kept HX.out.kp (by simp)) (i := 1) (v := .int .i64 c.s) rfl
              rw [HSS.out] at q1
              go_wp2
              go_roundw
              case rel =>
                obtain ⟨z1, z2, z3, z4, z5, z6, z7, z8⟩ := HB.out
                refine ⟨k + 1, _, _, cnt + 1, by omega, by go_num, HX.out, ⟨(clrG_t _).trans z1, ?_, ?_, by rw [clV_len]; exact z4, by omega, by omega, fun x x0 x1 => ?_, fun h => ?_⟩⟩
                · rcases clrG_u (c := c) (g := g) (k : Int) with h | h <;> omega
                · have := HRT.out.s0; rcases clrG_u (c := c) (g := g) (k : Int) with h | h <;> omega
                · rw [rs_store z4]
                  by_cases hx : x = k
                  · rw [if_pos ⟨⟨hri, by omega, by have := HRT.out.t0; omega, by omega, by have := HSS.out; omega⟩, z1.symm, hx⟩]
                  · rw [if_neg (fun h => hx h.2.2)]; exact z7 x x0 (by omega)
                · unfold clrG
                  rw [if_pos (by have := HSS.out; omega), z1]
              case measure => simp [intOf]; omega
            · have hke : k = S := by omega
              have hkz : ¬ (k : Int) < (S : Int) := by omega
              have eg : g = ⟨0, 0, 0⟩ := HB.out.2.2.2.2.2.2.2 hke
              subst eg
              have HR : Hid ((cs.length : Int) = lnV c ∧ (∀ x : Int, 0 ≤ x → x < S → rdG cs (rsV c 0 x) = 0) ∧ 0 ≤ cnt ∧ cnt ≤ 100) := ⟨HB.out.2.2.2.1, by rw [← hke]; exact HB.out.2.2.2.2.2.2.1, HB.out.2.2.2.2.1, by have := HB.out.2.2.2.2.2.1; have := HSS.out; have := HRT.out.s1; omega⟩
              clear HB hke hlt hk
              have q1 := cell_of_blk (HCB.out.kept HX.out.kp (by simp)) (i := 1) (v := .int .i64 c.s) rfl
              rw [HSS.out] at q1
              go_wp2
              go_loopw [65] (fun i wr => ∃ (k : Nat) (cnt : Int), k ≤ S ∧ i = .int .i64 k ∧ Gw W wr b m p r c ⟨0, 0, 0⟩ cs cnt ∧ Hid (0 ≤ cnt ∧ cnt ≤ 100 + k)) (fun i _ => S - (intOf i).toNat)
              case atStart => exact ⟨0, cnt, Nat.zero_le _, rfl, HX.out, ⟨HR.out.2.2.1, by have := HR.out.2.2.2; omega⟩⟩
              case round =>
                clear HX
                obtain ⟨k, cnt, hk, rfl, X, HB⟩ := hrel
                have HX := hidOf X
                clear X q1
                by_cases hlt : k < S
                · have hltz : (k : Int) < (S : Int) := by omega
                  have ST := hidOf (HX.out.reserved_is 0 (k : Int) HB.out.1 (by have := HB.out.2; omega) (V := 0) (HR.out.2.1 k (by omega) hltz))
                  go_wp2_with fail
                  refine ST.out.mono ?_
                  rintro e w6 ⟨rfl, X⟩
                  clear HX ST
                  have HX := hidOf X
                  clear X
                  have q1 := cell_of_blk (HCB.out.kept HX.out.kp (by simp)) (i := 1) (v := .int .i64 c.s) rfl
                  rw [HSS.out] at q1
                  go_wp2
                  go_roundw
                  case rel => exact ⟨k + 1, cnt + 1, by omega, by go_num, HX.out, ⟨by have := HB.out.1; omega, by have := HB.out.2; omega⟩⟩
                  case measure => simp [intOf]; omega
                · have hkz : ¬ (k : Int) < (S : Int) := by omega
                  have HC : Hid (0 ≤ cnt ∧ cnt ≤ 200) := ⟨HB.out.1, by have := HB.out.2; have := HSS.out; have := HRT.out.s1; omega⟩
                  clear HB hlt hk
                  have ST := hidOf (HX.out.latest_is (V := 0) rfl)
                  go_wp2_with fail
                  refine ST.out.mono ?_
                  rintro e w7 ⟨rfl, rfl⟩
                  clear ST
                  obtain ⟨cs2, hcs2⟩ : ∃ cs2, clV cs 2 (rsV c 0 (pubN c ⟨0, 0, 0⟩)) 0 nx = cs2 := ⟨_, rfl⟩
                  have E2 : Hid (rdG cs2 (rsV c 0 0) = nx) := hidOf (by
                    rw [← hcs2, show pubN c ⟨0, 0, 0⟩ = 0 by unfold pubN; split <;> rfl, rs_store HR.out.1, if_pos ⟨⟨hri, by omega, by have := HRT.out.t0; omega, by omega, by have := HRT.out.s0; omega⟩, rfl, rfl⟩])
                  obtain ⟨g2, hg2⟩ : ∃ g2, pubG c ⟨0, 0, 0⟩ nx = g2 := ⟨_, rfl⟩
                  have E3 : Hid (g2.l = nx) := hidOf (hg2 ▸ rfl)
                  have ST := hidOf (HX.out.publish_is nx (by show (0 : Int) ≤ 0; decide) (by show (0 : Int) < 1000; decide) HC.out.1 (by have := HC.out.2; omega) (D := true) (decide_eq_true (by show (0 : Int) < c.s; have := HRT.out.s0; omega)) hg2 hcs2)
                  clear hcs2 hg2
                  go_wp2_with fail
                  refine ST.out.mono ?_
                  rintro e w8 ⟨rfl, X⟩
                  clear HX ST
                  have HX := hidOf X
                  clear X
                  have AL := hidOf (alive_any _ (HTW.out.kept HX.out.kp))
                  go_wp2_with fail
                  refine AL.out.mono ?_
                  rintro e WA ⟨rfl, KA⟩
                  replace HX := hidOf (HX.out.new KA)
                  clear AL KA
                  have ST := hidOf (HX.out.reserved_is 0 0 (by have := HC.out.1; omega) (by have := HC.out.2; omega) (V := nx) E2.out)
                  go_wp2_with fail
                  refine ST.out.mono ?_
                  rintro e w9 ⟨rfl, X⟩
                  clear HX ST
                  have HX := hidOf X
                  clear X
                  have ST := hidOf (HX.out.latest_is (V := nx) E3.out)
                  go_wp2_with fail
                  refine ST.out.mono ?_
                  rintro e wa ⟨rfl, rfl⟩
                  clear ST
                  go_wp2
                  go_ret
                  exact ⟨rfl, HK0.out.trans HX.out.kp⟩
  · have hrf : riB c = false := by simpa using hri
    go_enter Tryd.func6, Tryd.ntmps6
    go_upto_region 1 with (fail)
    rw [← hq]
    refine gen_world (fun W => RW 23 W q #[.int .i64 c.t, .int .i64 c.s, .int .i64 c.c, .int .i64 c.h, .int .i64 c.k, .int .i64 c.e, .int .i64 c.l] ∧ Kept [] w W) BX.out ?_
    have hqw : w.heap.size ≤ q := by omega
    clear BX hq
    rintro W ⟨CB, K0⟩
    have HCB := hidOf CB
    have HTW := hidOf (HT.out.kept K0)
    have HK0 := hidOf K0
    clear CB K0
    have NW := hidOf (mnew_wrong c W hrf)
    go_wp2_with (first | ((with_reducible change wpList _ _ _ (Oper.mk _ (Op.load 23 (Operand.tmp 3)) _ _ _ _ :: _) _ _); refine wpList_load_rw 23 isT_cf rfl (.tmp 3) rfl q rfl #[.int .i64 c.t, .int .i64 c.s, .int .i64 c.c, .int .i64 c.h, .int .i64 c.k, .int .i64 c.e, .int .i64 c.l] rfl HCB.out ?_))
    refine NW.out.mono ?_
    rintro e w1 ⟨rfl, K1⟩
    go_wp2_with fail
    refine (gnew_any 0 _).mono ?_
    rintro e w2 ⟨b, rfl, hb, G, K2⟩
    have KX := hidOf (K1.trans K2)
    clear NW K1 K2 G hb
    have AL := hidOf (alive_any _ (HTW.out.kept KX.out))
    go_wp2_with fail
    refine AL.out.mono ?_
    rintro e WA ⟨rfl, KA⟩
    go_wp2
    go_ret
    exact ⟨rfl, HK0.out.trans (KX.out.trans KA)⟩

set_option maxRecDepth 100000 in
theorem guardClears_lifted (os : Os) (started : os.Started) (H : Type) (enc : TypeId × Value → H) :
    ReturnsInHanded {} Tryd.checked os 6 .any (fun w args => (Rows.guardClearsSpec.pre enc Tryd.prog Tryd.f6 [] false w args ∧ laidMetH Tryd.prog laid1 w) ∧ sizedMet enc Tryd.prog Tryd.f6 (OpenSpec.ofChange Rows.guardClearsSpec) false w args)
      (Rows.guardClearsSpec.post enc Tryd.prog Tryd.f6 false true false false) := by
  refine returnsInHanded_of_change_and (C := Tryd.checked) (X := fun w _ => laidMetH Tryd.prog laid1 w) (fun _ _ _ hh h => h.of_heap hh) own started (by kernel_rfl) Tryd.func6
    (ChangeSpec.witness_shaped (enc := enc) (C := Tryd.checked) (os := os) (X := fun w _ => laidMetH Tryd.prog laid1 w) false (World.doorLaid Tryd.prog 400 os) #[.agg #[.int .i64 0, .int .i64 0, .int .i64 0, .int .i64 0, .int .i64 0, .int .i64 0, .int .i64 0], .slice none 0 0, .int .u64 0] 8 rfl (World.shaped_of_RefB (by kernel_rfl) (by kernel_rfl)) (by kernel_rfl) (by kernel_rfl) (by kernel_rfl) (door_met os _)) ?_
  intro W base args ds gs before hval0 hW _ _ hL _
  have hval : ∀ (j : Nat) t v, Tryd.f6.params[j]? = some t → args[j]? = some v → Value.okWide Tryd.prog W .any base t v := hval0
  have hW' := hW
  obtain ⟨p, q, hA0, hV, rfl, _, _⟩ := hW
  have hA : DataW.TrodAll enc Tryd.prog W 0 (fun _ => true) true Tryd.f6.params.toList args.toList ds p := hA0
  rw [Tryd.params6] at hA hval
  clear hA0 hval0
  obtain ⟨v0, vs0, d0, ds0, p0, q0, hargs, rfl, rfl, h0, r0⟩ := trodAll_cons hA
  obtain ⟨v1, vs1, d1, ds1, p1, q1, rfl, rfl, rfl, h1, r1⟩ := trodAll_cons r0
  obtain ⟨v2, vs2, d2, ds2, p2, q2, rfl, rfl, rfl, h2, r2⟩ := trodAll_cons r1
  obtain ⟨rfl, rfl, rfl⟩ := trodAll_nil r2
  obtain rfl : args = #[v0, v1, v2] := by cases args; simp_all
  obtain ⟨rfl, rfl⟩ := trodVars_none hV
  have k0 := h0
  have k1 := h1
  have k2 := h2
  simp only [List.append_nil] at hW'
  have hlt0 : ∀ x ∈ p0, x.block < W.heap.size := fun x hx => hW'.lt x (by simp [hx])
  have hlt1 : ∀ x ∈ p1, x.block < W.heap.size := fun x hx => hW'.lt x (by simp [hx])
  have hlt2 : ∀ x ∈ p2, x.block < W.heap.size := fun x hx => hW'.lt x (by simp [hx])
  obtain ⟨c0, rfl, g0⟩ := open_cfg (hval 0 23 v0 rfl rfl) h0
  obtain ⟨ao1, cap1, xs1, rfl, s1, g1, z1, n1⟩ := open_words (hval 1 24 v1 rfl rfl) h1
  obtain ⟨a2, rfl, rfl, rfl, w2⟩ := open_int Tryd.underlying29 (hval 2 29 v2 rfl rfl) h2
  refine (guardClears_walk W c0 g0 ao1 xs1 cap1 s1 g1 n1 a2 w2 (tab_of_laid hL)).mono fun e W' ⟨he, hg⟩ => ?_
  subst he
  have hb := hg.below (by simp)
  exact ⟨_, rfl, _, _, _, [], _, [], hW', (trodAll_cons_mk (shut_bool Tryd.underlying4 _) trodAll_mk0), (trodAll_cons_mk (Below.trod laidOut (by kernel_rfl) (of_decide_eq_true (by kernel_rfl)) k0 hb hlt0) (trodAll_cons_mk (Below.trod laidOut (by kernel_rfl) (of_decide_eq_true (by kernel_rfl)) k1 hb hlt1) (trodAll_cons_mk (Below.trod laidOut (by kernel_rfl) (of_decide_eq_true (by kernel_rfl)) k2 hb hlt2) trodAll_mk0))), rfl, hb.frame _, fun h => by cases h⟩

theorem guardClears_over : Rows.GuardClearsSaid :=
  OpenClaim.holds_of_wide 6 Tryd.f6 rfl rfl rfl rfl rfl rfl rfl ⟨rfl, rfl, rfl, rfl, rfl⟩ rfl rfl rfl rfl rfl (by kernel_rfl) Tryd.func6 (by kernel_rfl)
    (of_decide_eq_true (by kernel_rfl)) (by unfold Func.isWrapper; first | (rw [if_pos (by decide +kernel)]; kernel_rfl) | (rw [if_neg (by decide +kernel)]; exact ⟨rfl, rfl⟩))
    (fun os started H enc _ => guardClears_lifted os started H enc)

theorem guardClears_holds : Rows.GuardClearsCardSaid :=
  Claim7.holds_tied_plain_at .later [] [.data] true (true, "b4883c6acc027d471720382080dd105359c62c6a05fa2fbd39293c40dd38c4e0") false
    guardClears_over (fun _ h => by cases h) (by kernel_rfl) (fun _ h => by cases h) guardClears_row_tie rfl ⟨rfl, rfl⟩ (by kernel_rfl) rfl
    (fun f fn hf hfn => by
      obtain rfl : f = 6 := Option.some.inj ((show Tryd.prog.funcNamed "stepstone/stepstonelaw10.GuardClears" = some 6 by kernel_rfl).symm.trans hf) |>.symm
      obtain rfl : fn = Tryd.f6 := (Option.some.inj (Tryd.func6.symm.trans hfn)).symm
      exact ⟨by kernel_rfl, fun j t ht => by
          rw [Tryd.params6] at ht
          rcases j with _ | j
          · have : t = 23 := by simpa using ht.symm
            subst this; exact (show Tryd.prog.wantsStandIn 23 = false by kernel_rfl)
          rcases j with _ | j
          · have : t = 24 := by simpa using ht.symm
            subst this; exact (show Tryd.prog.wantsStandIn 24 = false by kernel_rfl)
          rcases j with _ | j
          · have : t = 29 := by simpa using ht.symm
            subst this; exact (show Tryd.prog.wantsStandIn 29 = false by kernel_rfl)
          simp at ht⟩)
    (by kernel_rfl)
#print axioms guardClears_holds
end Go.Proofs.YtpobanjpgdghlaaDoor
