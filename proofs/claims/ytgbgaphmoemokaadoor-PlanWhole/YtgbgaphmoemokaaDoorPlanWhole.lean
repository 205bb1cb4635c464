/-
  For every configuration: its cells, in order, are the clock, the reservations and the slots' fields, as the document lists them; the law PlanWhole answers true, and the configuration reads as it did.
  Conditions: the package variable of handle that the code reads starts as the program's text lays it (the card ties it to that text).
-/
import Derived.Test.YtgbgaphmoemokaaDoorPAlive
import Derived.Test.YtgbgaphmoemokaaDoorPWhere
import Derived.Test.YtgbgaphmoemokaaDoorHLaid
import Derived.Test.YtgbgaphmoemokaaDoorPArgs
import Derived.ProofKit
import Derived.SizedLaws
import Derived.Carry
namespace Go.Proofs.YtgbgaphmoemokaaDoor
open Go.ChangeShapes Go.WideShapes Go.ChangeAt Go.RowKit
open Go.Deep

set_option maxRecDepth 100000 in
set_option maxHeartbeats 4000000 in
theorem planWhole_walk (w : World) (c : Cfg) (_g : c.wf) (hT : Tab w) : Calls Tryd.prog 7 #[c.val] w fun e w' => e = .returned (.bool true) ∧ Kept [] w w' := by
  simp only [Cfg.val]
  have heq := eq_rplace
  have Z := CB.new w c
  have K0 : Kept [] w (w.alloc (.cells #[.int .i64 c.t, .int .i64 c.s, .int .i64 c.c, .int .i64 c.h, .int .i64 c.k, .int .i64 c.e, .int .i64 c.l] 23)) := (Kept.refl _ _).alloc _
  have HT0 : Hid _ := hT.kept K0
  clear hT
  cases hr : riB c
  · have HL : Hid _ := ln_no hr
    have HR : Hid _ := hr
    clear hr
    go_enter Tryd.func7, Tryd.ntmps7
    go_wp2_with fail
    refine (places_no c _ HR.out).mono ?_
    rintro e W1 ⟨rfl, K1⟩
    have Z1 := Z.kept K1 (by simp)
    have T1 := K0.trans K1
    have G1 : Hid (Tab W1) := Tab.kept HT0.out K1
    clear Z K0 HT0 K1
    have q0 := cell_of_blk Z1 (i := 0) rfl
    have q1 := cell_of_blk Z1 (i := 1) rfl
    have q2 := cell_of_blk Z1 (i := 2) rfl
    have q3 := cell_of_blk Z1 (i := 3) rfl
    have q4 := cell_of_blk Z1 (i := 4) rfl
    have q5 := cell_of_blk Z1 (i := 5) rfl
    have q6 := cell_of_blk Z1 (i := 6) rfl
    go_wp2_with fail
    refine (len_is HL.out _).mono ?_
    rintro e W2 ⟨rfl, K2⟩
    have T2 := T1.trans K2
    have G2 : Hid (Tab W2) := Tab.kept G1.out K2
    clear Z1 T1 G1 K2 q0 q1 q2 q3 q4 q5 q6
    go_wp2_with fail
    refine wp_loop_rounds 1 ?_
    rw [rounds_succ]
    go_wp2_with fail
    refine (alive_any _ (by exact G2.out)).mono ?_
    rintro e W3 ⟨rfl, K3⟩
    go_wp2
    go_ret
    exact ⟨rfl, T2.trans K3⟩
  · obtain ⟨T, S, C, H, L, hN⟩ := nums c hr
    have HR : Hid _ := hr
    have HN : Hid (Nums c T S C H L) := hN
    have HL : Hid (lnV c = (L : Int)) := hN.len
    have hL := hN.le
    have PG : Hid (∀ k, k < L → ∀ j < 3, (pls c L)[k * 3 + j]? = (whV c (k : Int)).cells[j]?) := fun k hk j hj => pls_get c L k j hk hj
    clear hr hN
    go_enter Tryd.func7, Tryd.ntmps7
    go_wp2_with fail
    refine (places_yes c _ HR.out HN.out).mono ?_
    rintro e W1 ⟨g, cap, rfl, R1, K1⟩
    have Z1 := Z.kept K1 (by simp)
    have T1 := K0.trans K1
    have G1 : Hid (Tab W1) := Tab.kept HT0.out K1
    clear Z K0 HT0 K1
    have q0 := cell_of_blk Z1 (i := 0) rfl
    have q1 := cell_of_blk Z1 (i := 1) rfl
    have q2 := cell_of_blk Z1 (i := 2) rfl
    have q3 := cell_of_blk Z1 (i := 3) rfl
    have q4 := cell_of_blk Z1 (i := 4) rfl
    have q5 := cell_of_blk Z1 (i := 5) rfl
    have q6 := cell_of_blk Z1 (i := 6) rfl
    go_wp2_with fail
    refine (len_is HL.out _).mono ?_
    rintro e W2 ⟨rfl, K2⟩
    have Z2 := Z1.kept K2 (by simp)
    have R2 := R1.kept K2 (by simp)
    have T2 := T1.trans K2
    have G2 : Hid (Tab W2) := Tab.kept G1.out K2
    clear Z1 T1 G1 K2 R1 q0 q1 q2 q3 q4 q5 q6
    go_wp2_with fail
    go_loopw [15] (fun i wr => ∃ k : Nat, k ≤ L ∧ i = .int .i64 k ∧ Kept [] W2 wr) (fun i _ => L - (intOf i).toNat)
    case atStart => exact ⟨0, Nat.zero_le _, rfl, Kept.refl _ _⟩
    case round =>
      obtain ⟨k, hk, rfl, KK⟩ := hrel
      have T3 := T2.trans KK
      by_cases hlt : k < L
      · have Q : Hid _ := PG.out k hlt
        obtain ⟨p, hp⟩ : ∃ p, whV c (k : Int) = p := ⟨_, rfl⟩
        have HP : Hid _ := hp
        rw [hp] at Q
        clear hp
        have R3 := R2.kept KK (by simp)
        have Z3 := Z2.kept KK (by simp)
        have r0 : wr.cell? ⟨g, k * 3, none⟩ = some (.int .i64 p.k) := R3.cell ((Q.out 0 (by omega)).trans rfl)
        have r1 : wr.cell? ⟨g, k * 3 + 1, none⟩ = some (.int .i64 p.a) := R3.cell ((Q.out 1 (by omega)).trans rfl)
        have r2 : wr.cell? ⟨g, k * 3 + 2, none⟩ = some (.int .i64 p.b) := R3.cell ((Q.out 2 (by omega)).trans rfl)
        clear R3
        obtain ⟨B, hB⟩ : ∃ B, B = wr.heap.size := ⟨_, rfl⟩
        go_wp2_with fail
        refine gen_world (fun W => CB W w.heap.size c ∧ W.heap[B]? = some (.cells #[.int .i64 p.k, .int .i64 p.a, .int .i64 p.b] 32 (0, 0)) ∧ Kept [] W2 W) ?_ ?_
        · rw [hB]
          exact ⟨Z3.kept ((Kept.refl [] _).alloc _) (by simp), blk_alloc_new _ _, KK.alloc _⟩
        rw [← hB]
        clear Z3 hB r0 r1 r2 KK T3
        rintro W ⟨Z, P0, KK⟩
        have q0 : ∀ u : KW W, u.val.cell? ⟨w.heap.size, 0, none⟩ = some (.int .i64 c.t) := KW.cell (cell_of_blk Z (i := 0) rfl)
        have q1 : ∀ u : KW W, u.val.cell? ⟨w.heap.size, 1, none⟩ = some (.int .i64 c.s) := KW.cell (cell_of_blk Z (i := 1) rfl)
        have q2 : ∀ u : KW W, u.val.cell? ⟨w.heap.size, 2, none⟩ = some (.int .i64 c.c) := KW.cell (cell_of_blk Z (i := 2) rfl)
        have q3 : ∀ u : KW W, u.val.cell? ⟨w.heap.size, 3, none⟩ = some (.int .i64 c.h) := KW.cell (cell_of_blk Z (i := 3) rfl)
        have q4 : ∀ u : KW W, u.val.cell? ⟨w.heap.size, 4, none⟩ = some (.int .i64 c.k) := KW.cell (cell_of_blk Z (i := 4) rfl)
        have q5 : ∀ u : KW W, u.val.cell? ⟨w.heap.size, 5, none⟩ = some (.int .i64 c.e) := KW.cell (cell_of_blk Z (i := 5) rfl)
        have q6 : ∀ u : KW W, u.val.cell? ⟨w.heap.size, 6, none⟩ = some (.int .i64 c.l) := KW.cell (cell_of_blk Z (i := 6) rfl)
        have z0 : ∀ u : KW W, u.val.cell? ⟨B, 0, none⟩ = some (.int .i64 p.k) := KW.cell (cell_of_blk P0 (i := 0) rfl)
        have z1 : ∀ u : KW W, u.val.cell? ⟨B, 1, none⟩ = some (.int .i64 p.a) := KW.cell (cell_of_blk P0 (i := 1) rfl)
        have z2 : ∀ u : KW W, u.val.cell? ⟨B, 2, none⟩ = some (.int .i64 p.b) := KW.cell (cell_of_blk P0 (i := 2) rfl)
        refine wp_region_kept (by kernel_rfl) (by kernel_rfl) ?_
        repeat (first | go_big_quiet_step ((first | (go_at_call 18; exact Calls.kw_of (where_is HP.out _)))) | quiet_step ((first | (go_at_call 18; exact Calls.kw_of (where_is HP.out _)))))
        refine wpQuiet_nil ?_
        intro _ hw'
        obtain ⟨pq, hw''⟩ := hw'
        subst hw''
        go_wp2
        go_roundw
        case rel => exact ⟨k + 1, by omega, by go_num, KK.trans pq.kept⟩
        case measure => simp [intOf]; omega
      · go_wp2_with fail
        refine (alive_any _ (Tab.kept G2.out KK)).mono ?_
        rintro e W5 ⟨rfl, K5⟩
        go_wp2
        go_ret
        exact ⟨rfl, T3.trans K5⟩

set_option maxRecDepth 100000 in
theorem planWhole_lifted (os : Os) (started : os.Started) (H : Type) (enc : TypeId × Value → H) :
    ReturnsInHanded {} Tryd.checked os 7 .any (fun w args => (Rows.planWholeSpec.pre enc Tryd.prog Tryd.f7 [] false w args ∧ laidMetH Tryd.prog laid1 w) ∧ sizedMet enc Tryd.prog Tryd.f7 (OpenSpec.ofChange Rows.planWholeSpec) false w args)
      (Rows.planWholeSpec.post enc Tryd.prog Tryd.f7 false true false false) := by
  refine returnsInHanded_of_change_and (C := Tryd.checked) (X := fun w _ => laidMetH Tryd.prog laid1 w) (fun _ _ _ hh h => h.of_heap hh) own started (by kernel_rfl) Tryd.func7
    (ChangeSpec.witness_shaped (enc := enc) (C := Tryd.checked) (os := os) (X := fun w _ => laidMetH Tryd.prog laid1 w) false (World.doorLaid Tryd.prog 400 os) #[.agg #[.int .i64 0, .int .i64 0, .int .i64 0, .int .i64 0, .int .i64 0, .int .i64 0, .int .i64 0]] 8 rfl (World.shaped_of_RefB (by kernel_rfl) (by kernel_rfl)) (by kernel_rfl) (by kernel_rfl) (by kernel_rfl) (door_met os _)) ?_
  intro W base args ds gs before hval0 hW _ _ hL _
  have hval : ∀ (j : Nat) t v, Tryd.f7.params[j]? = some t → args[j]? = some v → Value.okWide Tryd.prog W .any base t v := hval0
  have hW' := hW
  obtain ⟨p, q, hA0, hV, rfl, _, _⟩ := hW
  have hA : DataW.TrodAll enc Tryd.prog W 0 (fun _ => true) true Tryd.f7.params.toList args.toList ds p := hA0
  rw [Tryd.params7] at hA hval
  clear hA0 hval0
  obtain ⟨v0, vs0, d0, ds0, p0, q0, hargs, rfl, rfl, h0, r0⟩ := trodAll_cons hA
  obtain ⟨rfl, rfl, rfl⟩ := trodAll_nil r0
  obtain rfl : args = #[v0] := by cases args; simp_all
  obtain ⟨rfl, rfl⟩ := trodVars_none hV
  have k0 := h0
  simp only [List.append_nil] at hW'
  have hlt0 : ∀ x ∈ p0, x.block < W.heap.size := fun x hx => hW'.lt x (by simp [hx])
  obtain ⟨c0, rfl, g0⟩ := open_cfg (hval 0 23 v0 rfl rfl) h0
  refine (planWhole_walk W c0 g0 (tab_of_laid hL)).mono fun e W' ⟨he, hg⟩ => ?_
  subst he
  have hb := hg.below (by simp)
  exact ⟨_, rfl, _, _, _, [], _, [], hW', (trodAll_cons_mk (shut_bool Tryd.underlying4 _) trodAll_mk0), (trodAll_cons_mk (Below.trod laidOut (by kernel_rfl) (of_decide_eq_true (by kernel_rfl)) k0 hb hlt0) trodAll_mk0), rfl, hb.frame _, fun h => by cases h⟩

theorem planWhole_over : Rows.PlanWholeSaid :=
  OpenClaim.holds_of_wide 7 Tryd.f7 rfl rfl rfl rfl rfl rfl rfl ⟨rfl, rfl, rfl, rfl, rfl⟩ rfl rfl rfl rfl rfl (by kernel_rfl) Tryd.func7 (by kernel_rfl)
    (of_decide_eq_true (by kernel_rfl)) (by unfold Func.isWrapper; first | (rw [if_pos (by decide +kernel)]; kernel_rfl) | (rw [if_neg (by decide +kernel)]; exact ⟨rfl, rfl⟩))
    (fun os started H enc _ => planWhole_lifted os started H enc)

theorem planWhole_holds : Rows.PlanWholeCardSaid :=
  Claim7.holds_tied_plain_at .later [] [.data] true (true, "e3d404ef9abe130c130384d299250e9f91cc40664bec313a866518bcdb2f0e4d") false
    planWhole_over (fun _ h => by cases h) (by kernel_rfl) (fun _ h => by cases h) planWhole_row_tie rfl ⟨rfl, rfl⟩ (by kernel_rfl) rfl
    (fun f fn hf hfn => by
      obtain rfl : f = 7 := Option.some.inj ((show Tryd.prog.funcNamed "stepstone/stepstonelaw04.PlanWhole" = some 7 by kernel_rfl).symm.trans hf) |>.symm
      obtain rfl : fn = Tryd.f7 := (Option.some.inj (Tryd.func7.symm.trans hfn)).symm
      exact ⟨by kernel_rfl, fun j t ht => by
          rw [Tryd.params7] at ht
          rcases j with _ | j
          · have : t = 23 := by simpa using ht.symm
            subst this; exact (show Tryd.prog.wantsStandIn 23 = false by kernel_rfl)
          simp at ht⟩)
    (by kernel_rfl)
#print axioms planWhole_holds
end Go.Proofs.YtgbgaphmoemokaaDoor
