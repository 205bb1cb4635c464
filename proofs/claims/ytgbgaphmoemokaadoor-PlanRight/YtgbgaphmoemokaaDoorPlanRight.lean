/-
  For every configuration: Right and Len tell what the document's own answers tell, and there are cells just if it is right; the law PlanRight answers true, and the configuration reads as it did.
  Conditions: the package variable of handle that the code reads starts as the program's text lays it (the card ties it to that text).
-/
import Derived.Test.YtgbgaphmoemokaaDoorPAlive
import Derived.Test.YtgbgaphmoemokaaDoorPWhere
import Derived.Test.YtgbgaphmoemokaaDoorHLaid
import Derived.Test.YtgbgaphmoemokaaDoorPArgs
import Derived.ProofKit
import Derived.SizedLaws
import Derived.Carry
namespace Go.Proofs.YtgbgaphmoemokaaDoor
open Go.ChangeShapes Go.WideShapes Go.ChangeAt Go.RowKit
open Go.Deep

set_option maxRecDepth 100000 in
set_option maxHeartbeats 4000000 in
theorem planRight_walk (w : World) (c : Cfg) (_g : c.wf) (hT : Tab w) : Calls Tryd.prog 3 #[c.val] w fun e w' => e = .returned (.bool true) ∧ Kept [] w w' := by
  simp only [Cfg.val]
  have Z := CB.new w c
  have K0 : Kept [] w (w.alloc (.cells #[.int .i64 c.t, .int .i64 c.s, .int .i64 c.c, .int .i64 c.h, .int .i64 c.k, .int .i64 c.e, .int .i64 c.l] 23)) := (Kept.refl _ _).alloc _
  have HT0 : Hid _ := hT.kept K0
  clear hT
  obtain ⟨n, hn⟩ : ∃ n, lnV c = n := ⟨_, rfl⟩
  have hp := ln_pos c
  have HL : Hid _ := hn
  rw [hn] at hp
  obtain ⟨v, hv⟩ : ∃ v, riB c = v := ⟨_, rfl⟩
  have HV : Hid _ := hv
  rw [hv] at hp
  clear hn hv
  go_enter Tryd.func3, Tryd.ntmps3
  go_wp2_with fail
  have HT : Hid (Tab (w.alloc (.cells #[.int .i64 c.t, .int .i64 c.s, .int .i64 c.c, .int .i64 c.h, .int .i64 c.k, .int .i64 c.e, .int .i64 c.l] 23))) := HT0.out
  clear HT0
  generalize w.alloc (.cells #[.int .i64 c.t, .int .i64 c.s, .int .i64 c.c, .int .i64 c.h, .int .i64 c.k, .int .i64 c.e, .int .i64 c.l] 23) = W at Z K0 HT ⊢
  have q0 : ∀ u : KW W, u.val.cell? ⟨w.heap.size, 0, none⟩ = some (.int .i64 c.t) := KW.cell (cell_of_blk Z (i := 0) rfl)
  have q1 : ∀ u : KW W, u.val.cell? ⟨w.heap.size, 1, none⟩ = some (.int .i64 c.s) := KW.cell (cell_of_blk Z (i := 1) rfl)
  have q2 : ∀ u : KW W, u.val.cell? ⟨w.heap.size, 2, none⟩ = some (.int .i64 c.c) := KW.cell (cell_of_blk Z (i := 2) rfl)
  have q3 : ∀ u : KW W, u.val.cell? ⟨w.heap.size, 3, none⟩ = some (.int .i64 c.h) := KW.cell (cell_of_blk Z (i := 3) rfl)
  have q4 : ∀ u : KW W, u.val.cell? ⟨w.heap.size, 4, none⟩ = some (.int .i64 c.k) := KW.cell (cell_of_blk Z (i := 4) rfl)
  have q5 : ∀ u : KW W, u.val.cell? ⟨w.heap.size, 5, none⟩ = some (.int .i64 c.e) := KW.cell (cell_of_blk Z (i := 5) rfl)
  have q6 : ∀ u : KW W, u.val.cell? ⟨w.heap.size, 6, none⟩ = some (.int .i64 c.l) := KW.cell (cell_of_blk Z (i := 6) rfl)
  cases v
  all_goals
    refine wp_region_kept (by kernel_rfl) (by kernel_rfl) ?_
    repeat (first | go_big_quiet_step ((first | (go_at_call 9; exact alive_kw HT.out _) | (go_at_call 10; exact Calls.kw_of (right_is HV.out _)) | (go_at_call 11; exact Calls.kw_of (rright_is HV.out _)) | (go_at_call 12; exact Calls.kw_of (len_is HL.out _)) | (go_at_call 13; exact Calls.kw_of (rlen_is HL.out _)))) | quiet_step ((first | (go_at_call 9; exact alive_kw HT.out _) | (go_at_call 10; exact Calls.kw_of (right_is HV.out _)) | (go_at_call 11; exact Calls.kw_of (rright_is HV.out _)) | (go_at_call 12; exact Calls.kw_of (len_is HL.out _)) | (go_at_call 13; exact Calls.kw_of (rlen_is HL.out _)))))
    refine wpQuiet_nil ?_
    intro _ hw'
    obtain ⟨pq, hw''⟩ := hw'
    subst hw''
    go_wp2
    go_ret
    exact ⟨rfl, K0.trans pq.kept⟩

set_option maxRecDepth 100000 in
theorem planRight_lifted (os : Os) (started : os.Started) (H : Type) (enc : TypeId × Value → H) :
    ReturnsInHanded {} Tryd.checked os 3 .any (fun w args => (Rows.planRightSpec.pre enc Tryd.prog Tryd.f3 [] false w args ∧ laidMetH Tryd.prog laid1 w) ∧ sizedMet enc Tryd.prog Tryd.f3 (OpenSpec.ofChange Rows.planRightSpec) false w args)
      (Rows.planRightSpec.post enc Tryd.prog Tryd.f3 false true false false) := by
  refine returnsInHanded_of_change_and (C := Tryd.checked) (X := fun w _ => laidMetH Tryd.prog laid1 w) (fun _ _ _ hh h => h.of_heap hh) own started (by kernel_rfl) Tryd.func3
    (ChangeSpec.witness_shaped (enc := enc) (C := Tryd.checked) (os := os) (X := fun w _ => laidMetH Tryd.prog laid1 w) false (World.doorLaid Tryd.prog 400 os) #[.agg #[.int .i64 0, .int .i64 0, .int .i64 0, .int .i64 0, .int .i64 0, .int .i64 0, .int .i64 0]] 8 rfl (World.shaped_of_RefB (by kernel_rfl) (by kernel_rfl)) (by kernel_rfl) (by kernel_rfl) (by kernel_rfl) (door_met os _)) ?_
  intro W base args ds gs before hval0 hW _ _ hL _
  have hval : ∀ (j : Nat) t v, Tryd.f3.params[j]? = some t → args[j]? = some v → Value.okWide Tryd.prog W .any base t v := hval0
  have hW' := hW
  obtain ⟨p, q, hA0, hV, rfl, _, _⟩ := hW
  have hA : DataW.TrodAll enc Tryd.prog W 0 (fun _ => true) true Tryd.f3.params.toList args.toList ds p := hA0
  rw [Tryd.params3] at hA hval
  clear hA0 hval0
  obtain ⟨v0, vs0, d0, ds0, p0, q0, hargs, rfl, rfl, h0, r0⟩ := trodAll_cons hA
  obtain ⟨rfl, rfl, rfl⟩ := trodAll_nil r0
  obtain rfl : args = #[v0] := by cases args; simp_all
  obtain ⟨rfl, rfl⟩ := trodVars_none hV
  have k0 := h0
  simp only [List.append_nil] at hW'
  have hlt0 : ∀ x ∈ p0, x.block < W.heap.size := fun x hx => hW'.lt x (by simp [hx])
  obtain ⟨c0, rfl, g0⟩ := open_cfg (hval 0 23 v0 rfl rfl) h0
  refine (planRight_walk W c0 g0 (tab_of_laid hL)).mono fun e W' ⟨he, hg⟩ => ?_
  subst he
  have hb := hg.below (by simp)
  exact ⟨_, rfl, _, _, _, [], _, [], hW', (trodAll_cons_mk (shut_bool Tryd.underlying4 _) trodAll_mk0), (trodAll_cons_mk (Below.trod laidOut (by kernel_rfl) (of_decide_eq_true (by kernel_rfl)) k0 hb hlt0) trodAll_mk0), rfl, hb.frame _, fun h => by cases h⟩

theorem planRight_over : Rows.PlanRightSaid :=
  OpenClaim.holds_of_wide 3 Tryd.f3 rfl rfl rfl rfl rfl rfl rfl ⟨rfl, rfl, rfl, rfl, rfl⟩ rfl rfl rfl rfl rfl (by kernel_rfl) Tryd.func3 (by kernel_rfl)
    (of_decide_eq_true (by kernel_rfl)) (by unfold Func.isWrapper; first | (rw [if_pos (by decide +kernel)]; kernel_rfl) | (rw [if_neg (by decide +kernel)]; exact ⟨rfl, rfl⟩))
    (fun os started H enc _ => planRight_lifted os started H enc)

theorem planRight_holds : Rows.PlanRightCardSaid :=
  Claim7.holds_tied_plain_at .later [] [.data] true (true, "e3d404ef9abe130c130384d299250e9f91cc40664bec313a866518bcdb2f0e4d") false
    planRight_over (fun _ h => by cases h) (by kernel_rfl) (fun _ h => by cases h) planRight_row_tie rfl ⟨rfl, rfl⟩ (by kernel_rfl) rfl
    (fun f fn hf hfn => by
      obtain rfl : f = 3 := Option.some.inj ((show Tryd.prog.funcNamed "stepstone/stepstonelaw04.PlanRight" = some 3 by kernel_rfl).symm.trans hf) |>.symm
      obtain rfl : fn = Tryd.f3 := (Option.some.inj (Tryd.func3.symm.trans hfn)).symm
      exact ⟨by kernel_rfl, fun j t ht => by
          rw [Tryd.params3] at ht
          rcases j with _ | j
          · have : t = 23 := by simpa using ht.symm
            subst this; exact (show Tryd.prog.wantsStandIn 23 = false by kernel_rfl)
          simp at ht⟩)
    (by kernel_rfl)
#print axioms planRight_holds
end Go.Proofs.YtgbgaphmoemokaaDoor
