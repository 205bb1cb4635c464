/-
  Giving any slot back is the one access that the document says.
  Conditions: the package variable of handle that the code reads starts as the program's text lays it (the card ties it to that text).
-/
import Derived.Test.YtmmpafhfanldbaaDoorKLaw
import Derived.Test.YtmmpafhfanldbaaDoorHLaid
import Derived.Test.YtmmpafhfanldbaaDoorPArgs
import Derived.ProofKit
import Derived.SizedLaws
import Derived.Carry
namespace Go.Proofs.YtmmpafhfanldbaaDoor
open Go.ChangeShapes Go.WideShapes Go.ChangeAt Go.RowKit
open Go.Deep
open Go.Proofs.YtmmpafhfanldbaaDoor.K
set_option maxRecDepth 100000

set_option maxRecDepth 100000 in
set_option maxHeartbeats 8000000 in
theorem claimBacks_walk (w : World) (c : Cfg) (_g : c.wf) (ao : Option Addr) (xs : List Int) (cap : Nat) (hs : Sl w ao xs) (hg : ∀ x ∈ xs, isWord x) (hc : ao = none → cap = 0) (h : Int) (hh : (Lit.int .u64 h).wf = true) (hT : Tab w) :
    Calls Tryd.prog 4 #[c.val, .slice ao xs.length cap, .int .u64 h] w fun e w' => e = .returned (.bool true) ∧ Kept [] w w' := by
  have hb := bounds_u64 hh
  clear hh
  simp only [Cfg.val]
  obtain ⟨n, hn⟩ : ∃ n, n = xs.length := ⟨_, rfl⟩
  rw [← hn]
  have HN := hidOf hn
  have HS := hidOf hs
  have HC := hidOf hc
  have HW := hidOf (wds_of hg)
  have HT := hidOf hT
  clear hn hs hc hg hT
  have K0 : Kept [] w (w.alloc (.cells #[.int .i64 c.t, .int .i64 c.s, .int .i64 c.c, .int .i64 c.h, .int .i64 c.k, .int .i64 c.e, .int .i64 c.l] 23)) := (Kept.refl [] w).alloc _
  by_cases hW : IsW c n
  · have HI := hidOf hW
    have OF := hidOf (kof_yes c ao xs n cap (w.alloc (.cells #[.int .i64 c.t, .int .i64 c.s, .int .i64 c.c, .int .i64 c.h, .int .i64 c.k, .int .i64 c.e, .int .i64 c.l] 23)) hW HN.out (HS.out.new K0) HC.out)
    obtain ⟨n0, n1⟩ := isW_cap hW
    have n4 := hW.2.2
    clear hW
    go_enter Tryd.func4, Tryd.ntmps4
    go_wp2_with fail
    refine OF.out.mono ?_
    rintro e w1 ⟨m, p, r, g, c', rfl, ⟨a1, a2, a3, a4, a5⟩, M, R, K1⟩
    rw [nblk_alloc] at a1 a2 a3 a4
    have HX := hidOf (And.intro M (And.intro R (K0.trans K1)))
    clear M R K1 OF K0
    go_upto_region 4 with (first | ((with_reducible change wpList _ _ _ (Oper.mk _ (Op.store 35 (Operand.tmp 8) _) _ _ _ _ :: _) _ _); refine wpList_store_rw 35 isT_rm rfl (.tmp 8) (.tmp 15) rfl w1.heap.size (rmA c (some ⟨g, 0, none⟩) n c' 0 Acc.zero) rfl rfl rfl (rm_one _ _ _ _ _ _) rmZ (RW.new 35 w1 rmZ) rfl ?_))
    obtain ⟨q, hq⟩ : ∃ q, q = w1.heap.size := ⟨_, rfl⟩
    rw [← hq]
    refine gen_world (fun V => RW 35 V q (rmA c (some ⟨g, 0, none⟩) n c' 0 Acc.zero) ∧ Kept [] w1 V) ?_ ?_
    · rw [hq]; exact ⟨(RW.new 35 w1 rmZ).row _, ((Kept.refl [] w1).alloc _).setRow (Or.inr (Nat.le_refl _)) _⟩
    have hq1 : w1.heap.size ≤ q := by omega
    clear hq
    rintro V ⟨Q, KV⟩
    obtain ⟨gp, gm⟩ := row_ne_bk HX.out.1 HX.out.2.1
    have M := HX.out.1.new KV
    have R := HX.out.2.1.kept KV (by simp)
    have K := HX.out.2.2.trans KV
    have T := HT.out.kept K
    have sp := lt_of_blk HX.out.1.bk.st
    have sr := lt_of_blk HX.out.1.bk.row
    clear HX KV HT
    have BK := hidOf (back_any m p r c xs 0 Acc.zero h _ M T (by omega) (by omega) (by decide) (by decide))
    have HR := hidOf R
    have HT := hidOf T
    clear M T R
    go_wp2_with fail
    refine BK.out.mono ?_
    rintro e w2 ⟨rfl, M2, K2⟩
    have Q2 := Q.kept K2 (by simp; omega)
    have T2 := HT.out.keptL K2 (by have := M2.pos; simp; omega)
    have R2 := HR.out.kept K2 (by simp; omega)
    have KK : Kept [] w w2 := K.then K2 (by simp; omega)
    have HX := hidOf (And.intro M2 (And.intro R2 KK))
    clear M2 R2 KK K2 K BK HR Q HT
    go_wp2_with fail
    refine (alive_any _ T2).mono ?_
    rintro e w3 ⟨rfl, K3⟩
    have Q3 := Q2.kept K3 (by simp)
    have RB := hidOf (rback_any c g xs c' 0 Acc.zero h w3 (HX.out.2.1.kept K3 (by simp)) (by rw [← HN.out]; omega) (by decide) (by decide) (by omega) (by omega))
    have HY := hidOf (And.intro (HX.out.1.new K3) (HX.out.2.2.trans K3))
    clear HX K3 Q2 T2
    go_wp2_with (first | ((with_reducible change wpList _ _ _ (Oper.mk _ (Op.load 35 _) _ _ _ _ :: _) _ _); refine wpList_load_rwg 35 isT_rm rfl (.tmp 8) rfl q rfl (rmA c (some ⟨g, 0, none⟩) n c' 0 Acc.zero) rfl Q3 ?_))
    have RB2 : Hid (Calls Tryd.prog 21 #[.agg (rmA c (some ⟨g, 0, none⟩) n c' 0 Acc.zero), .int .u64 h] w3 fun e w' => ∃ g' c', e = .returned (.agg (rmA c (some ⟨g', 0, none⟩) n c' (0 + 1) (acV xs 2 (clV' c (ixV h) 0) 0 0 (bkV c h)))) ∧ (g' = g ∨ w3.heap.size ≤ g') ∧ RowR w' g' (clV xs 2 (clV' c (ixV h) 0) 0 (bkV c h)) c' ∧ Kept [] w3 w') := by rw [HN.out]; exact RB.out
    refine RB2.out.mono ?_
    rintro e w4 ⟨g2, c2, rfl, h2, R4, K4⟩
    have M4 := HY.out.1.new K4
    have SM := hidOf (ksame_any m p r g2 c c _ _ _ n c2 w4 M4 R4 (by rw [HN.out]; unfold clV; split <;> simp) (by omega))
    have HZ := hidOf (And.intro M4 (HY.out.2.trans K4))
    clear HY RB RB2 M4 R4 K4 h2 Q3
    go_wp2_with fail
    refine SM.out.mono ?_
    rintro e w5 ⟨rfl, K5⟩
    have M5 := HZ.out.1.new K5
    have K6 := HZ.out.2.trans K5
    have HM5 := hidOf M5
    clear HZ SM K5 M5
    go_wp2_with (first
      | (go_at_call 22; refine (bank_any m p r c _ _ _ _ HM5.out).mono ?_; rintro e w2 ⟨rfl, rfl⟩)
      | (go_at_call 23; refine (count_any p r _ _ _ _ HM5.out.bk).mono ?_; rintro e w2 ⟨rfl, rfl⟩))
    go_ret
    exact ⟨rfl, K6⟩
  · have OF := hidOf (kof_no c ao n cap (w.alloc (.cells #[.int .i64 c.t, .int .i64 c.s, .int .i64 c.c, .int .i64 c.h, .int .i64 c.k, .int .i64 c.e, .int .i64 c.l] 23)) hW)
    clear hW
    go_enter Tryd.func4, Tryd.ntmps4
    go_wp2_with fail
    refine OF.out.mono ?_
    rintro e w1 ⟨rfl, K1⟩
    have K2 : Kept [] w ((w1.alloc (.cells rmZ 35)).setRow w1.heap.size rmZ) := ((K0.trans K1).alloc _).setRow (Or.inr (by have := K1.size; rw [nblk_alloc] at this; omega)) _
    have T := HT.out.kept K2
    have AL := hidOf (alive_any _ T)
    clear HT T K1 K0 OF
    go_wp2_with (first | ((with_reducible change wpList _ _ _ (Oper.mk _ (Op.store 35 (Operand.tmp 8) _) _ _ _ _ :: _) _ _); refine wpList_store_rw 35 isT_rm rfl (.tmp 8) (.tmp 15) rfl w1.heap.size rmZ rfl rfl rfl rmZ_one rmZ (RW.new 35 w1 rmZ) rfl ?_))
    refine AL.out.mono ?_
    rintro e WA ⟨rfl, KA⟩
    go_wp2
    go_ret
    exact ⟨rfl, K2.trans KA⟩

set_option maxRecDepth 100000 in
theorem claimBacks_lifted (os : Os) (started : os.Started) (H : Type) (enc : TypeId × Value → H) :
    ReturnsInHanded {} Tryd.checked os 4 .any (fun w args => (Rows.claimBacksSpec.pre enc Tryd.prog Tryd.f4 [] false w args ∧ laidMetH Tryd.prog laid1 w) ∧ sizedMet enc Tryd.prog Tryd.f4 (OpenSpec.ofChange Rows.claimBacksSpec) false w args)
      (Rows.claimBacksSpec.post enc Tryd.prog Tryd.f4 false true false false) := by
  refine returnsInHanded_of_change_and (C := Tryd.checked) (X := fun w _ => laidMetH Tryd.prog laid1 w) (fun _ _ _ hh h => h.of_heap hh) own started (by kernel_rfl) Tryd.func4
    (ChangeSpec.witness_shaped (enc := enc) (C := Tryd.checked) (os := os) (X := fun w _ => laidMetH Tryd.prog laid1 w) false (World.doorLaid Tryd.prog 400 os) #[.agg #[.int .i64 0, .int .i64 0, .int .i64 0, .int .i64 0, .int .i64 0, .int .i64 0, .int .i64 0], .slice none 0 0, .int .u64 0] 8 rfl (World.shaped_of_RefB (by kernel_rfl) (by kernel_rfl)) (by kernel_rfl) (by kernel_rfl) (by kernel_rfl) (door_met os _)) ?_
  intro W base args ds gs before hval0 hW _ _ hL _
  have hval : ∀ (j : Nat) t v, Tryd.f4.params[j]? = some t → args[j]? = some v → Value.okWide Tryd.prog W .any base t v := hval0
  have hW' := hW
  obtain ⟨p, q, hA0, hV, rfl, _, _⟩ := hW
  have hA : DataW.TrodAll enc Tryd.prog W 0 (fun _ => true) true Tryd.f4.params.toList args.toList ds p := hA0
  rw [Tryd.params4] at hA hval
  clear hA0 hval0
  obtain ⟨v0, vs0, d0, ds0, p0, q0, hargs, rfl, rfl, h0, r0⟩ := trodAll_cons hA
  obtain ⟨v1, vs1, d1, ds1, p1, q1, rfl, rfl, rfl, h1, r1⟩ := trodAll_cons r0
  obtain ⟨v2, vs2, d2, ds2, p2, q2, rfl, rfl, rfl, h2, r2⟩ := trodAll_cons r1
  obtain ⟨rfl, rfl, rfl⟩ := trodAll_nil r2
  obtain rfl : args = #[v0, v1, v2] := by cases args; simp_all
  obtain ⟨rfl, rfl⟩ := trodVars_none hV
  have k0 := h0
  have k1 := h1
  have k2 := h2
  simp only [List.append_nil] at hW'
  have hlt0 : ∀ x ∈ p0, x.block < W.heap.size := fun x hx => hW'.lt x (by simp [hx])
  have hlt1 : ∀ x ∈ p1, x.block < W.heap.size := fun x hx => hW'.lt x (by simp [hx])
  have hlt2 : ∀ x ∈ p2, x.block < W.heap.size := fun x hx => hW'.lt x (by simp [hx])
  obtain ⟨c0, rfl, g0⟩ := open_cfg (hval 0 23 v0 rfl rfl) h0
  obtain ⟨ao1, cap1, xs1, rfl, s1, g1, z1, n1⟩ := open_words (hval 1 24 v1 rfl rfl) h1
  obtain ⟨a2, rfl, rfl, rfl, w2⟩ := open_int Tryd.underlying29 (hval 2 29 v2 rfl rfl) h2
  refine (claimBacks_walk W c0 g0 ao1 xs1 cap1 s1 g1 n1 a2 w2 (tab_of_laid hL)).mono fun e W' ⟨he, hg⟩ => ?_
  subst he
  have hb := hg.below (by simp)
  exact ⟨_, rfl, _, _, _, [], _, [], hW', (trodAll_cons_mk (shut_bool Tryd.underlying4 _) trodAll_mk0), (trodAll_cons_mk (Below.trod laidOut (by kernel_rfl) (of_decide_eq_true (by kernel_rfl)) k0 hb hlt0) (trodAll_cons_mk (Below.trod laidOut (by kernel_rfl) (of_decide_eq_true (by kernel_rfl)) k1 hb hlt1) (trodAll_cons_mk (Below.trod laidOut (by kernel_rfl) (of_decide_eq_true (by kernel_rfl)) k2 hb hlt2) trodAll_mk0))), rfl, hb.frame _, fun h => by cases h⟩

theorem claimBacks_over : Rows.ClaimBacksSaid :=
  OpenClaim.holds_of_wide 4 Tryd.f4 rfl rfl rfl rfl rfl rfl rfl ⟨rfl, rfl, rfl, rfl, rfl⟩ rfl rfl rfl rfl rfl (by kernel_rfl) Tryd.func4 (by kernel_rfl)
    (of_decide_eq_true (by kernel_rfl)) (by unfold Func.isWrapper; first | (rw [if_pos (by decide +kernel)]; kernel_rfl) | (rw [if_neg (by decide +kernel)]; exact ⟨rfl, rfl⟩))
    (fun os started H enc _ => claimBacks_lifted os started H enc)

theorem claimBacks_holds : Rows.ClaimBacksCardSaid :=
  Claim7.holds_tied_plain_at .later [] [.data] true (true, "16d24a33fc2aa0e14e1eec150c167cb59402c41f178cda57adfd34c93caf4e6b") false
    claimBacks_over (fun _ h => by cases h) (by kernel_rfl) (fun _ h => by cases h) claimBacks_row_tie rfl ⟨rfl, rfl⟩ (by kernel_rfl) rfl
    (fun f fn hf hfn => by
      obtain rfl : f = 4 := Option.some.inj ((show Tryd.prog.funcNamed "stepstone/stepstonelaw09.ClaimBacks" = some 4 by kernel_rfl).symm.trans hf) |>.symm
      obtain rfl : fn = Tryd.f4 := (Option.some.inj (Tryd.func4.symm.trans hfn)).symm
      exact ⟨by kernel_rfl, fun j t ht => by
          rw [Tryd.params4] at ht
          rcases j with _ | j
          · have : t = 23 := by simpa using ht.symm
            subst this; exact (show Tryd.prog.wantsStandIn 23 = false by kernel_rfl)
          rcases j with _ | j
          · have : t = 24 := by simpa using ht.symm
            subst this; exact (show Tryd.prog.wantsStandIn 24 = false by kernel_rfl)
          rcases j with _ | j
          · have : t = 29 := by simpa using ht.symm
            subst this; exact (show Tryd.prog.wantsStandIn 29 = false by kernel_rfl)
          simp at ht⟩)
    (by kernel_rfl)
#print axioms claimBacks_holds
end Go.Proofs.YtmmpafhfanldbaaDoor
