/-
  A check tells the clock, and that it is the latest just behind a publish of it, as long as the clock stands.
  Conditions: the package variable of handle that the code reads starts as the program's text lays it (the card ties it to that text).
-/
import Derived.Test.YtpobanjpgdghlaaDoorGAlive
import Derived.Test.YtpobanjpgdghlaaDoorHLaid
import Derived.Test.YtpobanjpgdghlaaDoorPArgs
import Derived.ProofKit
import Derived.SizedLaws
import Derived.Carry
namespace Go.Proofs.YtpobanjpgdghlaaDoor
open Go.ChangeShapes Go.WideShapes Go.ChangeAt Go.RowKit
open Go.Deep
open Go.Proofs.YtpobanjpgdghlaaDoor.K
set_option maxRecDepth 100000

set_option maxRecDepth 100000 in
set_option maxHeartbeats 8000000 in
theorem guardChecks_walk (w : World) (c : Cfg) (_g : c.wf) (tk : Int) (_h1 : (Lit.int .i64 tk).wf = true) (th : Int) (_h2 : (Lit.int .i64 th).wf = true) (hT : Tab w) :
    Calls Tryd.prog 7 #[c.val, .int .i64 tk, .int .i64 th] w fun e w' => e = .returned (.bool true) ∧ Kept [] w w' := by
  simp only [Cfg.val]
  have HT := hidOf hT
  clear hT
  obtain ⟨q, hq⟩ : ∃ q, q = w.heap.size := ⟨_, rfl⟩
  have BX : Hid (RW 23 (w.alloc (.cells #[.int .i64 c.t, .int .i64 c.s, .int .i64 c.c, .int .i64 c.h, .int .i64 c.k, .int .i64 c.e, .int .i64 c.l] 23)) q #[.int .i64 c.t, .int .i64 c.s, .int .i64 c.c, .int .i64 c.h, .int .i64 c.k, .int .i64 c.e, .int .i64 c.l] ∧ Kept [] w (w.alloc (.cells #[.int .i64 c.t, .int .i64 c.s, .int .i64 c.c, .int .i64 c.h, .int .i64 c.k, .int .i64 c.e, .int .i64 c.l] 23))) := by rw [hq]; exact ⟨RW.new _ _ _, (Kept.refl [] w).alloc _⟩
  by_cases hri : riB c = true
  · by_cases h1 : tk < 0
    · go_enter Tryd.func7, Tryd.ntmps7
      go_upto_region 1 with (fail)
      rw [← hq]
      refine gen_world (fun W => RW 23 W q #[.int .i64 c.t, .int .i64 c.s, .int .i64 c.c, .int .i64 c.h, .int .i64 c.k, .int .i64 c.e, .int .i64 c.l] ∧ Kept [] w W) BX.out ?_
      have hqw : w.heap.size ≤ q := by omega
      clear BX hq
      rintro W ⟨CB, K0⟩
      have HCB := hidOf CB
      have HTW := hidOf (HT.out.kept K0)
      have HK0 := hidOf K0
      clear CB K0
      have NW := hidOf (mnew_yes c W HTW.out hri)
      go_wp2_with (first | ((with_reducible change wpList _ _ _ (Oper.mk _ (Op.load 23 (Operand.tmp 3)) _ _ _ _ :: _) _ _); refine wpList_load_rw 23 isT_cf rfl (.tmp 3) rfl q rfl #[.int .i64 c.t, .int .i64 c.s, .int .i64 c.c, .int .i64 c.h, .int .i64 c.k, .int .i64 c.e, .int .i64 c.l] rfl HCB.out ?_))
      refine NW.out.mono ?_
      rintro e w1 ⟨m, p, r, rfl, ⟨hm, hp, hr⟩, M, K1⟩
      have q0 := cell_of_blk (HCB.out.kept K1 (by simp)) (i := 0) (v := .int .i64 c.t) rfl
      have q1 := cell_of_blk (HCB.out.kept K1 (by simp)) (i := 1) (v := .int .i64 c.s) rfl
      go_wp2_with fail
      refine (gnew_any th _).mono ?_
      rintro e w2 ⟨b, rfl, hb, G, K2⟩
      clear q0 q1
      have HX := hidOf (Gw.start K1 hp hr M K2 hb G)
      have q0 := cell_of_blk (HCB.out.kept HX.out.kp (by simp)) (i := 0) (v := .int .i64 c.t) rfl
      have q1 := cell_of_blk (HCB.out.kept HX.out.kp (by simp)) (i := 1) (v := .int .i64 c.s) rfl
      clear NW M K1 K2 G hm hp hr hb
      have AL := hidOf (alive_any _ (HTW.out.kept HX.out.kp))
      go_wp2_with fail
      refine AL.out.mono ?_
      rintro e WA ⟨rfl, KA⟩
      go_wp2
      go_ret
      exact ⟨rfl, HK0.out.trans (HX.out.kp.trans KA)⟩
    · by_cases h2 : 100 < tk
      · go_enter Tryd.func7, Tryd.ntmps7
        go_upto_region 1 with (fail)
        rw [← hq]
        refine gen_world (fun W => RW 23 W q #[.int .i64 c.t, .int .i64 c.s, .int .i64 c.c, .int .i64 c.h, .int .i64 c.k, .int .i64 c.e, .int .i64 c.l] ∧ Kept [] w W) BX.out ?_
        have hqw : w.heap.size ≤ q := by omega
        clear BX hq
        rintro W ⟨CB, K0⟩
        have HCB := hidOf CB
        have HTW := hidOf (HT.out.kept K0)
        have HK0 := hidOf K0
        clear CB K0
        have NW := hidOf (mnew_yes c W HTW.out hri)
        go_wp2_with (first | ((with_reducible change wpList _ _ _ (Oper.mk _ (Op.load 23 (Operand.tmp 3)) _ _ _ _ :: _) _ _); refine wpList_load_rw 23 isT_cf rfl (.tmp 3) rfl q rfl #[.int .i64 c.t, .int .i64 c.s, .int .i64 c.c, .int .i64 c.h, .int .i64 c.k, .int .i64 c.e, .int .i64 c.l] rfl HCB.out ?_))
        refine NW.out.mono ?_
        rintro e w1 ⟨m, p, r, rfl, ⟨hm, hp, hr⟩, M, K1⟩
        have q0 := cell_of_blk (HCB.out.kept K1 (by simp)) (i := 0) (v := .int .i64 c.t) rfl
        have q1 := cell_of_blk (HCB.out.kept K1 (by simp)) (i := 1) (v := .int .i64 c.s) rfl
        go_wp2_with fail
        refine (gnew_any th _).mono ?_
        rintro e w2 ⟨b, rfl, hb, G, K2⟩
        clear q0 q1
        have HX := hidOf (Gw.start K1 hp hr M K2 hb G)
        have q0 := cell_of_blk (HCB.out.kept HX.out.kp (by simp)) (i := 0) (v := .int .i64 c.t) rfl
        have q1 := cell_of_blk (HCB.out.kept HX.out.kp (by simp)) (i := 1) (v := .int .i64 c.s) rfl
        clear NW M K1 K2 G hm hp hr hb
        have AL := hidOf (alive_any _ (HTW.out.kept HX.out.kp))
        go_wp2_with fail
        refine AL.out.mono ?_
        rintro e WA ⟨rfl, KA⟩
        go_wp2
        go_ret
        exact ⟨rfl, HK0.out.trans (HX.out.kp.trans KA)⟩
      · obtain ⟨N, hN⟩ : ∃ N : Nat, tk = N := ⟨tk.toNat, by omega⟩
        subst hN
        have n100 : (N : Int) ≤ 100 := by omega
        clear h1 h2
        go_enter Tryd.func7, Tryd.ntmps7
        go_upto_region 1 with (fail)
        rw [← hq]
        refine gen_world (fun W => RW 23 W q #[.int .i64 c.t, .int .i64 c.s, .int .i64 c.c, .int .i64 c.h, .int .i64 c.k, .int .i64 c.e, .int .i64 c.l] ∧ Kept [] w W) BX.out ?_
        have hqw : w.heap.size ≤ q := by omega
        clear BX hq
        rintro W ⟨CB, K0⟩
        have HCB := hidOf CB
        have HTW := hidOf (HT.out.kept K0)
        have HK0 := hidOf K0
        clear CB K0
        have NW := hidOf (mnew_yes c W HTW.out hri)
        go_wp2_with (first | ((with_reducible change wpList _ _ _ (Oper.mk _ (Op.load 23 (Operand.tmp 3)) _ _ _ _ :: _) _ _); refine wpList_load_rw 23 isT_cf rfl (.tmp 3) rfl q rfl #[.int .i64 c.t, .int .i64 c.s, .int .i64 c.c, .int .i64 c.h, .int .i64 c.k, .int .i64 c.e, .int .i64 c.l] rfl HCB.out ?_))
        refine NW.out.mono ?_
        rintro e w1 ⟨m, p, r, rfl, ⟨hm, hp, hr⟩, M, K1⟩
        have q0 := cell_of_blk (HCB.out.kept K1 (by simp)) (i := 0) (v := .int .i64 c.t) rfl
        have q1 := cell_of_blk (HCB.out.kept K1 (by simp)) (i := 1) (v := .int .i64 c.s) rfl
        go_wp2_with fail
        refine (gnew_any th _).mono ?_
        rintro e w2 ⟨b, rfl, hb, G, K2⟩
        clear q0 q1
        have HX := hidOf (Gw.start K1 hp hr M K2 hb G)
        have q0 := cell_of_blk (HCB.out.kept HX.out.kp (by simp)) (i := 0) (v := .int .i64 c.t) rfl
        have q1 := cell_of_blk (HCB.out.kept HX.out.kp (by simp)) (i := 1) (v := .int .i64 c.s) rfl
        clear NW M K1 K2 G hm hp hr hb
        have F0 := fc_clock hri
        have FL := fc_ln c
        have HF := hidOf (And.intro F0 FL)
        clear F0 FL q0 q1
        go_wp2
        go_loopw [47] (fun i wr => ∃ (j : Nat) (cs : List Int) (cnt : Int), j ≤ N ∧ i = .int .i64 j ∧ Gw W wr b m p r c ⟨0, 0, th⟩ cs cnt ∧ Hid (rdG cs 0 = 1 + j ∧ hasC cs 0 ∧ 0 ≤ cnt ∧ cnt ≤ j)) (fun i _ => N - (intOf i).toNat)
        case atStart => exact ⟨0, _, 0, Nat.zero_le _, rfl, HX.out, ⟨by rw [HF.out.1.1]; rfl, HF.out.1.2, Int.le_refl _, Int.le_refl _⟩⟩
        case round =>
          clear HX HF
          obtain ⟨j, cs, cnt, hj, rfl, X, HB⟩ := hrel
          have HX := hidOf X
          clear X
          by_cases hlt : j < N
          · have hltz : (j : Int) < (N : Int) := by omega
            have ST := hidOf (HX.out.tick HB.out.2.2.1 (by have := HB.out.2.2.2; omega))
            go_wp2_with fail
            refine ST.out.mono ?_
            rintro e w4 ⟨v, rfl, X⟩
            clear HX ST
            have HX := hidOf X
            clear X
            go_wp2
            go_roundw
            case rel =>
              refine ⟨j + 1, _, cnt + 1, by omega, by go_num, HX.out, ⟨?_, (hasC_len (clV_len _ _ _ _ _) 0).2 HB.out.2.1, by have := HB.out.2.2.1; omega, by have := HB.out.2.2.2; omega⟩⟩
              rw [rd_tick _ HB.out.2.1, HB.out.1]
              unfold add64
              rw [IntKind.wrap_u64]; omega
            case measure => simp [intOf]; omega
          · have hje : j = N := by omega
            have e0 : rdG cs 0 = (N : Int) + 1 := by rw [HB.out.1, hje]; omega
            have HE := hidOf (And.intro e0 HB.out.2)
            have hjz : ¬ (j : Int) < (N : Int) := by omega
            clear hje e0 HB
            have ST := hidOf (HX.out.check_is (E := (N : Int) + 1) (B := false) HE.out.2.2.1 (by have := HE.out.2.2.2; omega) HE.out.1 (by show (((N : Int) + 1) == (0 : Int)) = false; simp; omega))
            go_wp2_with fail
            refine ST.out.mono ?_
            rintro e w4 ⟨rfl, X⟩
            clear HX ST
            have HX := hidOf X
            clear X
            obtain ⟨cs2, hcs2⟩ : ∃ cs2, clV cs 2 (rsV c th (pubN c ⟨0, 0, th⟩)) 0 ((N : Int) + 1) = cs2 := ⟨_, rfl⟩
            have E2 : Hid (rdG cs2 0 = (N : Int) + 1 ∧ hasC cs2 0) := ⟨by rw [← hcs2, rs_clock]; exact HE.out.1, by rw [← hcs2]; exact (hasC_len (clV_len _ _ _ _ _) 0).2 HE.out.2.1⟩
            obtain ⟨g2, hg2⟩ : ∃ g2, pubG c ⟨0, 0, th⟩ ((N : Int) + 1) = g2 := ⟨_, rfl⟩
            have E3 : Hid (g2.l = (N : Int) + 1) := by rw [← hg2]; rfl
            have ST := hidOf (HX.out.publish_is ((N : Int) + 1) (by show (0 : Int) ≤ 0; decide) (by show (0 : Int) < 1000; decide) (by have := HE.out.2.2.1; omega) (by have := HE.out.2.2.2; omega) rfl hg2 hcs2)
            clear hcs2 hg2
            go_wp2_with fail
            refine ST.out.mono ?_
            rintro e w5 ⟨rfl, X⟩
            clear HX ST
            have HX := hidOf X
            clear X
            have ST := hidOf (HX.out.check_is (E := (N : Int) + 1) (B := true) (by have := HE.out.2.2.1; omega) (by have := HE.out.2.2.2; omega) E2.out.1 (by rw [E3.out]; simp))
            go_wp2_with fail
            refine ST.out.mono ?_
            rintro e w6 ⟨rfl, X⟩
            clear HX ST
            have HX := hidOf X
            clear X
            have ST := hidOf (HX.out.tick (by have := HE.out.2.2.1; omega) (by have := HE.out.2.2.2; omega))
            go_wp2_with fail
            refine ST.out.mono ?_
            rintro e w7 ⟨v, rfl, X⟩
            clear HX ST
            have HX := hidOf X
            clear X
            have ST := hidOf (HX.out.check_is (E := (N : Int) + 1 + 1) (B := false) (by have := HE.out.2.2.1; omega) (by have := HE.out.2.2.2; omega) (by rw [rd_tick _ E2.out.2, E2.out.1]; unfold add64; rw [IntKind.wrap_u64]; omega) (by rw [E3.out]; simp; omega))
            go_wp2_with fail
            refine ST.out.mono ?_
            rintro e w8 ⟨rfl, X⟩
            clear HX ST
            have HX := hidOf X
            clear X E2 E3
            have nz0 : 0 ≤ (N : Int) := by omega
            clear HE
            have AL := hidOf (alive_any _ (HTW.out.kept HX.out.kp))
            go_wp2_with fail
            refine AL.out.mono ?_
            rintro e WA ⟨rfl, KA⟩
            go_wp2
            go_ret
            exact ⟨rfl, HK0.out.trans (HX.out.kp.trans KA)⟩
  · have hrf : riB c = false := by simpa using hri
    go_enter Tryd.func7, Tryd.ntmps7
    go_upto_region 1 with (fail)
    rw [← hq]
    refine gen_world (fun W => RW 23 W q #[.int .i64 c.t, .int .i64 c.s, .int .i64 c.c, .int .i64 c.h, .int .i64 c.k, .int .i64 c.e, .int .i64 c.l] ∧ Kept [] w W) BX.out ?_
    have hqw : w.heap.size ≤ q := by omega
    clear BX hq
    rintro W ⟨CB, K0⟩
    have HCB := hidOf CB
    have HTW := hidOf (HT.out.kept K0)
    have HK0 := hidOf K0
    clear CB K0
    have NW := hidOf (mnew_wrong c W hrf)
    go_wp2_with (first | ((with_reducible change wpList _ _ _ (Oper.mk _ (Op.load 23 (Operand.tmp 3)) _ _ _ _ :: _) _ _); refine wpList_load_rw 23 isT_cf rfl (.tmp 3) rfl q rfl #[.int .i64 c.t, .int .i64 c.s, .int .i64 c.c, .int .i64 c.h, .int .i64 c.k, .int .i64 c.e, .int .i64 c.l] rfl HCB.out ?_))
    refine NW.out.mono ?_
    rintro e w1 ⟨rfl, K1⟩
    go_wp2_with fail
    refine (gnew_any th _).mono ?_
    rintro e w2 ⟨b, rfl, hb, G, K2⟩
    have KX := hidOf (K1.trans K2)
    clear NW K1 K2 G hb
    have AL := hidOf (alive_any _ (HTW.out.kept KX.out))
    go_wp2_with fail
    refine AL.out.mono ?_
    rintro e WA ⟨rfl, KA⟩
    go_wp2
    go_ret
    exact ⟨rfl, HK0.out.trans (KX.out.trans KA)⟩

set_option maxRecDepth 100000 in
theorem guardChecks_lifted (os : Os) (started : os.Started) (H : Type) (enc : TypeId × Value → H) :
    ReturnsInHanded {} Tryd.checked os 7 .any (fun w args => (Rows.guardChecksSpec.pre enc Tryd.prog Tryd.f7 [] false w args ∧ laidMetH Tryd.prog laid1 w) ∧ sizedMet enc Tryd.prog Tryd.f7 (OpenSpec.ofChange Rows.guardChecksSpec) false w args)
      (Rows.guardChecksSpec.post enc Tryd.prog Tryd.f7 false true false false) := by
  refine returnsInHanded_of_change_and (C := Tryd.checked) (X := fun w _ => laidMetH Tryd.prog laid1 w) (fun _ _ _ hh h => h.of_heap hh) own started (by kernel_rfl) Tryd.func7
    (ChangeSpec.witness_shaped (enc := enc) (C := Tryd.checked) (os := os) (X := fun w _ => laidMetH Tryd.prog laid1 w) false (World.doorLaid Tryd.prog 400 os) #[.agg #[.int .i64 0, .int .i64 0, .int .i64 0, .int .i64 0, .int .i64 0, .int .i64 0, .int .i64 0], .int .i64 0, .int .i64 0] 8 rfl (World.shaped_of_RefB (by kernel_rfl) (by kernel_rfl)) (by kernel_rfl) (by kernel_rfl) (by kernel_rfl) (door_met os _)) ?_
  intro W base args ds gs before hval0 hW _ _ hL _
  have hval : ∀ (j : Nat) t v, Tryd.f7.params[j]? = some t → args[j]? = some v → Value.okWide Tryd.prog W .any base t v := hval0
  have hW' := hW
  obtain ⟨p, q, hA0, hV, rfl, _, _⟩ := hW
  have hA : DataW.TrodAll enc Tryd.prog W 0 (fun _ => true) true Tryd.f7.params.toList args.toList ds p := hA0
  rw [Tryd.params7] at hA hval
  clear hA0 hval0
  obtain ⟨v0, vs0, d0, ds0, p0, q0, hargs, rfl, rfl, h0, r0⟩ := trodAll_cons hA
  obtain ⟨v1, vs1, d1, ds1, p1, q1, rfl, rfl, rfl, h1, r1⟩ := trodAll_cons r0
  obtain ⟨v2, vs2, d2, ds2, p2, q2, rfl, rfl, rfl, h2, r2⟩ := trodAll_cons r1
  obtain ⟨rfl, rfl, rfl⟩ := trodAll_nil r2
  obtain rfl : args = #[v0, v1, v2] := by cases args; simp_all
  obtain ⟨rfl, rfl⟩ := trodVars_none hV
  have k0 := h0
  have k1 := h1
  have k2 := h2
  simp only [List.append_nil] at hW'
  have hlt0 : ∀ x ∈ p0, x.block < W.heap.size := fun x hx => hW'.lt x (by simp [hx])
  have hlt1 : ∀ x ∈ p1, x.block < W.heap.size := fun x hx => hW'.lt x (by simp [hx])
  have hlt2 : ∀ x ∈ p2, x.block < W.heap.size := fun x hx => hW'.lt x (by simp [hx])
  obtain ⟨c0, rfl, g0⟩ := open_cfg (hval 0 23 v0 rfl rfl) h0
  obtain ⟨a1, rfl, rfl, rfl, w1⟩ := open_int Tryd.underlying3 (hval 1 3 v1 rfl rfl) h1
  obtain ⟨a2, rfl, rfl, rfl, w2⟩ := open_int Tryd.underlying3 (hval 2 3 v2 rfl rfl) h2
  refine (guardChecks_walk W c0 g0 a1 w1 a2 w2 (tab_of_laid hL)).mono fun e W' ⟨he, hg⟩ => ?_
  subst he
  have hb := hg.below (by simp)
  exact ⟨_, rfl, _, _, _, [], _, [], hW', (trodAll_cons_mk (shut_bool Tryd.underlying4 _) trodAll_mk0), (trodAll_cons_mk (Below.trod laidOut (by kernel_rfl) (of_decide_eq_true (by kernel_rfl)) k0 hb hlt0) (trodAll_cons_mk (Below.trod laidOut (by kernel_rfl) (of_decide_eq_true (by kernel_rfl)) k1 hb hlt1) (trodAll_cons_mk (Below.trod laidOut (by kernel_rfl) (of_decide_eq_true (by kernel_rfl)) k2 hb hlt2) trodAll_mk0))), rfl, hb.frame _, fun h => by cases h⟩

theorem guardChecks_over : Rows.GuardChecksSaid :=
  OpenClaim.holds_of_wide 7 Tryd.f7 rfl rfl rfl rfl rfl rfl rfl ⟨rfl, rfl, rfl, rfl, rfl⟩ rfl rfl rfl rfl rfl (by kernel_rfl) Tryd.func7 (by kernel_rfl)
    (of_decide_eq_true (by kernel_rfl)) (by unfold Func.isWrapper; first | (rw [if_pos (by decide +kernel)]; kernel_rfl) | (rw [if_neg (by decide +kernel)]; exact ⟨rfl, rfl⟩))
    (fun os started H enc _ => guardChecks_lifted os started H enc)

theorem guardChecks_holds : Rows.GuardChecksCardSaid :=
  Claim7.holds_tied_plain_at .later [] [.data] true (true, "b4883c6acc027d471720382080dd105359c62c6a05fa2fbd39293c40dd38c4e0") false
    guardChecks_over (fun _ h => by cases h) (by kernel_rfl) (fun _ h => by cases h) guardChecks_row_tie rfl ⟨rfl, rfl⟩ (by kernel_rfl) rfl
    (fun f fn hf hfn => by
      obtain rfl : f = 7 := Option.some.inj ((show Tryd.prog.funcNamed "stepstone/stepstonelaw10.GuardChecks" = some 7 by kernel_rfl).symm.trans hf) |>.symm
      obtain rfl : fn = Tryd.f7 := (Option.some.inj (Tryd.func7.symm.trans hfn)).symm
      exact ⟨by kernel_rfl, fun j t ht => by
          rw [Tryd.params7] at ht
          rcases j with _ | j
          · have : t = 23 := by simpa using ht.symm
            subst this; exact (show Tryd.prog.wantsStandIn 23 = false by kernel_rfl)
          rcases j with _ | j
          · have : t = 3 := by simpa using ht.symm
            subst this; exact (show Tryd.prog.wantsStandIn 3 = false by kernel_rfl)
          rcases j with _ | j
          · have : t = 3 := by simpa using ht.symm
            subst this; exact (show Tryd.prog.wantsStandIn 3 = false by kernel_rfl)
          simp at ht⟩)
    (by kernel_rfl)
#print axioms guardChecks_holds
end Go.Proofs.YtpobanjpgdghlaaDoor
