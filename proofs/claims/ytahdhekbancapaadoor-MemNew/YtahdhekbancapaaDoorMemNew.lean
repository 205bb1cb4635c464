/-
  For every configuration: a new world, or that there is none, is what the document says; the law MemNew answers true, and the configuration reads as it did.
  Conditions: the package variable of handle that the code reads starts as the program's text lays it (the card ties it to that text).
-/
import Derived.Test.YtahdhekbancapaaDoorMSame
import Derived.Test.YtahdhekbancapaaDoorMAlive
import Derived.Test.YtahdhekbancapaaDoorHLaid
import Derived.Test.YtahdhekbancapaaDoorPArgs
import Derived.ProofKit
import Derived.SizedLaws
import Derived.Carry
namespace Go.Proofs.YtahdhekbancapaaDoor
open Go.ChangeShapes Go.WideShapes Go.ChangeAt Go.RowKit
open Go.Deep
set_option maxRecDepth 100000

set_option maxRecDepth 100000 in
set_option maxHeartbeats 4000000 in
theorem memNew_walk (w : World) (c : Cfg) (_g : c.wf) (hT : Tab w) : Calls Tryd.prog 3 #[c.val] w fun e w' => e = .returned (.bool true) ∧ Kept [] w w' := by
  simp only [Cfg.val]
  have Z := CB.new w c
  have T : Kept [] w (w.alloc (.cells #[.int .i64 c.t, .int .i64 c.s, .int .i64 c.c, .int .i64 c.h, .int .i64 c.k, .int .i64 c.e, .int .i64 c.l] 23)) := (Kept.refl _ _).alloc _
  have HT : Hid (Tab (w.alloc (.cells #[.int .i64 c.t, .int .i64 c.s, .int .i64 c.c, .int .i64 c.h, .int .i64 c.k, .int .i64 c.e, .int .i64 c.l] 23))) := hT.kept T
  obtain ⟨b, hb⟩ : ∃ b, b = w.heap.size := ⟨_, rfl⟩
  clear hT
  cases hr : riB c
  · have HR : Hid _ := hr
    clear hr
    go_enter Tryd.func3, Tryd.ntmps3
    go_wp2_with fail
    rw [← hb] at Z ⊢
    clear hb
    generalize (w.alloc (.cells #[.int .i64 c.t, .int .i64 c.s, .int .i64 c.c, .int .i64 c.h, .int .i64 c.k, .int .i64 c.e, .int .i64 c.l] 23)) = W at Z T HT ⊢
    refine (mnew_wrong c _ HR.out).mono ?_
    rintro e W1 ⟨rfl, K1⟩
    replace Z := Z.kept K1 (by simp)
    replace T := T.trans K1
    replace HT : Hid _ := Tab.kept HT.out K1
    have q0 := cell_of_blk Z (i := 0) rfl
    have q1 := cell_of_blk Z (i := 1) rfl
    have q2 := cell_of_blk Z (i := 2) rfl
    have q3 := cell_of_blk Z (i := 3) rfl
    have q4 := cell_of_blk Z (i := 4) rfl
    have q5 := cell_of_blk Z (i := 5) rfl
    have q6 := cell_of_blk Z (i := 6) rfl
    go_wp2_with fail
    refine (rright_is HR.out _).mono ?_
    rintro e W2 ⟨rfl, K2⟩
    replace Z := Z.kept K2 (by simp)
    replace T := T.trans K2
    replace HT : Hid _ := Tab.kept HT.out K2
    clear q0 q1 q2 q3 q4 q5 q6
    go_wp2_with fail
    refine (alive_any _ (by exact HT.out)).mono ?_
    rintro e WA ⟨rfl, KA⟩
    go_wp2
    go_ret
    exact ⟨rfl, T.trans KA⟩
  · have HR : Hid _ := hr
    clear hr
    go_enter Tryd.func3, Tryd.ntmps3
    go_wp2_with fail
    rw [← hb] at Z ⊢
    clear hb
    generalize (w.alloc (.cells #[.int .i64 c.t, .int .i64 c.s, .int .i64 c.c, .int .i64 c.h, .int .i64 c.k, .int .i64 c.e, .int .i64 c.l] 23)) = W at Z T HT ⊢
    refine (mnew_yes c _ (by exact HT.out) HR.out).mono ?_
    rintro e W1 ⟨m, p, r, rfl, _, M, K1⟩
    replace Z := Z.kept K1 (by simp)
    replace T := T.trans K1
    replace HT : Hid _ := Tab.kept HT.out K1
    have q0 := cell_of_blk Z (i := 0) rfl
    have q1 := cell_of_blk Z (i := 1) rfl
    have q2 := cell_of_blk Z (i := 2) rfl
    have q3 := cell_of_blk Z (i := 3) rfl
    have q4 := cell_of_blk Z (i := 4) rfl
    have q5 := cell_of_blk Z (i := 5) rfl
    have q6 := cell_of_blk Z (i := 6) rfl
    go_wp2_with fail
    refine (rright_is HR.out _).mono ?_
    rintro e W2 ⟨rfl, K2⟩
    replace Z := Z.kept K2 (by simp)
    replace T := T.trans K2
    replace HT : Hid _ := Tab.kept HT.out K2
    replace M := M.new K2
    clear q0 q1 q2 q3 q4 q5 q6 K1 K2
    have HS : Hid (∀ W' : World, Kept [] W2 W' → W'.cell? ⟨m, 0, none⟩ = some (.int .i64 c.t) ∧ W'.cell? ⟨m, 1, none⟩ = some (.int .i64 c.s) ∧ W'.cell? ⟨m, 2, none⟩ = some (.int .i64 c.c) ∧ W'.cell? ⟨m, 3, none⟩ = some (.int .i64 c.h) ∧ W'.cell? ⟨m, 4, none⟩ = some (.int .i64 c.k) ∧ W'.cell? ⟨m, 5, none⟩ = some (.int .i64 c.e) ∧ W'.cell? ⟨m, 6, none⟩ = some (.int .i64 c.l) ∧ W'.cell? ⟨b, 0, none⟩ = some (.int .i64 c.t) ∧ W'.cell? ⟨b, 1, none⟩ = some (.int .i64 c.s) ∧ W'.cell? ⟨b, 2, none⟩ = some (.int .i64 c.c) ∧ W'.cell? ⟨b, 3, none⟩ = some (.int .i64 c.h) ∧ W'.cell? ⟨b, 4, none⟩ = some (.int .i64 c.k) ∧ W'.cell? ⟨b, 5, none⟩ = some (.int .i64 c.e) ∧ W'.cell? ⟨b, 6, none⟩ = some (.int .i64 c.l)) := by
      intro W' k
      have z := k.blk M.st (by simp)
      have y := k.blk Z (by simp)
      exact ⟨cell_of_blk z (i := 0) rfl, cell_of_blk z (i := 1) rfl, cell_of_blk z (i := 2) rfl, cell_of_blk z (i := 3) rfl, cell_of_blk z (i := 4) rfl, cell_of_blk z (i := 5) rfl, cell_of_blk z (i := 6) rfl, cell_of_blk y (i := 0) rfl, cell_of_blk y (i := 1) rfl, cell_of_blk y (i := 2) rfl, cell_of_blk y (i := 3) rfl, cell_of_blk y (i := 4) rfl, cell_of_blk y (i := 5) rfl, cell_of_blk y (i := 6) rfl⟩
    have RN : Hid (∀ W' : World, Kept [] W2 W' → Calls Tryd.prog 14 #[.agg #[.int .i64 c.t, .int .i64 c.s, .int .i64 c.c, .int .i64 c.h, .int .i64 c.k, .int .i64 c.e, .int .i64 c.l]] W' fun e w' => ∃ g, e = .returned (rmV c (some ⟨g, 0, none⟩) (lnN c) (lnN c) 0 Acc.zero) ∧ RowR w' g (fcV c) (lnN c) ∧ Kept [] W2 w') := fun W' k => (rmnew_any c W' HR.out).mono fun _ _ ⟨g, h1, _, h3, h4⟩ => ⟨g, h1, by have q := h3.rowR; rw [fcV_len] at q; exact q, k.trans h4⟩
    have SM : Hid (∀ (W' : World) (g cap : Nat), Kept [] W2 W' → RowR W' g (fcV c) cap → Calls Tryd.prog 13 #[.pointer (some ⟨m, 0, none⟩), rmV c (some ⟨g, 0, none⟩) (lnN c) cap 0 Acc.zero] W' fun e w' => e = .returned (.bool true) ∧ Kept [] W2 w') := fun W' g cap k q => (msame_any m p r c c (fcV c) 0 Acc.zero g (lnN c) cap W' (M.new k) q (fcV_len c).symm (by have := lnN_le c; omega)).mono fun _ _ h => ⟨h.1, k.trans h.2⟩
    have AL : Hid (∀ W' : World, Kept [] W2 W' → Calls Tryd.prog 11 #[] W' fun e w' => e = .returned (.bool true) ∧ Kept [] W2 w') := fun W' k => (alive_any W' (Tab.kept HT.out k)).mono fun _ _ h => ⟨h.1, k.trans h.2⟩
    have CF : Hid (∀ W' : World, Kept [] W2 W' → Calls Tryd.prog 12 #[.agg #[.int .i64 c.t, .int .i64 c.s, .int .i64 c.c, .int .i64 c.h, .int .i64 c.k, .int .i64 c.e, .int .i64 c.l]] W' fun e w' => e = .returned (.agg #[.int .i64 c.t, .int .i64 c.s, .int .i64 c.c, .int .i64 c.h, .int .i64 c.k, .int .i64 c.e, .int .i64 c.l]) ∧ Kept [] W2 w') := fun W' k => (config_any c W').mono fun _ _ h => ⟨h.1, k.trans h.2⟩
    have HF : Hid _ := T
    clear M Z T
    go_wp2_with fail
    go_region_held3 (fun W' => W'.cell? ⟨m, 0, none⟩ = some (.int .i64 c.t) ∧ W'.cell? ⟨m, 1, none⟩ = some (.int .i64 c.s) ∧ W'.cell? ⟨m, 2, none⟩ = some (.int .i64 c.c) ∧ W'.cell? ⟨m, 3, none⟩ = some (.int .i64 c.h) ∧ W'.cell? ⟨m, 4, none⟩ = some (.int .i64 c.k) ∧ W'.cell? ⟨m, 5, none⟩ = some (.int .i64 c.e) ∧ W'.cell? ⟨m, 6, none⟩ = some (.int .i64 c.l) ∧ W'.cell? ⟨b, 0, none⟩ = some (.int .i64 c.t) ∧ W'.cell? ⟨b, 1, none⟩ = some (.int .i64 c.s) ∧ W'.cell? ⟨b, 2, none⟩ = some (.int .i64 c.c) ∧ W'.cell? ⟨b, 3, none⟩ = some (.int .i64 c.h) ∧ W'.cell? ⟨b, 4, none⟩ = some (.int .i64 c.k) ∧ W'.cell? ⟨b, 5, none⟩ = some (.int .i64 c.e) ∧ W'.cell? ⟨b, 6, none⟩ = some (.int .i64 c.l))
      (exact HS.out _ (by (repeat (first | (with_reducible refine Kept.setCell ?_ ?_ _) | (with_reducible refine Kept.alloc ?_ _) | (with_reducible refine Kept.drew ?_))); (first | (with_reducible assumption) | (with_reducible exact Kept.refl _ _) | exact Kept.weaken (l := []) (by with_reducible assumption) (by simp)); all_goals (first | exact Or.inr (Nat.le_refl _) | (refine Or.inr (Kept.size (l := []) ?_); assumption) | (refine Or.inl ?_; simp; done))))
      (first
        | (go_at_call 11; refine (AL.out _ (by assumption)).mono ?_; rintro e w8 ⟨rfl, K8⟩)
        | (go_at_call 12; refine (CF.out _ (by (repeat (first | (with_reducible refine Kept.setCell ?_ ?_ _) | (with_reducible refine Kept.alloc ?_ _) | (with_reducible refine Kept.drew ?_))); (first | (with_reducible assumption) | (with_reducible exact Kept.refl _ _) | exact Kept.weaken (l := []) (by with_reducible assumption) (by simp)); all_goals (first | exact Or.inr (Nat.le_refl _) | (refine Or.inr (Kept.size (l := []) ?_); assumption) | (refine Or.inl ?_; simp; done)))).mono ?_; rintro e w5 ⟨rfl, K5⟩)
        | (go_at_call 14; refine (RN.out _ (by assumption)).mono ?_; rintro e w6 ⟨g, rfl, R6, K6⟩)
        | (go_at_call 13; refine (SM.out _ _ _ K6 R6).mono ?_; rintro e w7 ⟨rfl, K7⟩))
    all_goals
      go_wp2
      go_ret
      exact ⟨rfl, HF.out.trans K8⟩

set_option maxRecDepth 100000 in
theorem memNew_lifted (os : Os) (started : os.Started) (H : Type) (enc : TypeId × Value → H) :
    ReturnsInHanded {} Tryd.checked os 3 .any (fun w args => (Rows.memNewSpec.pre enc Tryd.prog Tryd.f3 [] false w args ∧ laidMetH Tryd.prog laid1 w) ∧ sizedMet enc Tryd.prog Tryd.f3 (OpenSpec.ofChange Rows.memNewSpec) false w args)
      (Rows.memNewSpec.post enc Tryd.prog Tryd.f3 false true false false) := by
  refine returnsInHanded_of_change_and (C := Tryd.checked) (X := fun w _ => laidMetH Tryd.prog laid1 w) (fun _ _ _ hh h => h.of_heap hh) own started (by kernel_rfl) Tryd.func3
    (ChangeSpec.witness_shaped (enc := enc) (C := Tryd.checked) (os := os) (X := fun w _ => laidMetH Tryd.prog laid1 w) false (World.doorLaid Tryd.prog 400 os) #[.agg #[.int .i64 0, .int .i64 0, .int .i64 0, .int .i64 0, .int .i64 0, .int .i64 0, .int .i64 0]] 8 rfl (World.shaped_of_RefB (by kernel_rfl) (by kernel_rfl)) (by kernel_rfl) (by kernel_rfl) (by kernel_rfl) (door_met os _)) ?_
  intro W base args ds gs before hval0 hW _ _ hL _
  have hval : ∀ (j : Nat) t v, Tryd.f3.params[j]? = some t → args[j]? = some v → Value.okWide Tryd.prog W .any base t v := hval0
  have hW' := hW
  obtain ⟨p, q, hA0, hV, rfl, _, _⟩ := hW
  have hA : DataW.TrodAll enc Tryd.prog W 0 (fun _ => true) true Tryd.f3.params.toList args.toList ds p := hA0
  rw [Tryd.params3] at hA hval
  clear hA0 hval0
  obtain ⟨v0, vs0, d0, ds0, p0, q0, hargs, rfl, rfl, h0, r0⟩ := trodAll_cons hA
  obtain ⟨rfl, rfl, rfl⟩ := trodAll_nil r0
  obtain rfl : args = #[v0] := by cases args; simp_all
  obtain ⟨rfl, rfl⟩ := trodVars_none hV
  have k0 := h0
  simp only [List.append_nil] at hW'
  have hlt0 : ∀ x ∈ p0, x.block < W.heap.size := fun x hx => hW'.lt x (by simp [hx])
  obtain ⟨c0, rfl, g0⟩ := open_cfg (hval 0 23 v0 rfl rfl) h0
  refine (memNew_walk W c0 g0 (tab_of_laid hL)).mono fun e W' ⟨he, hg⟩ => ?_
  subst he
  have hb := hg.below (by simp)
  exact ⟨_, rfl, _, _, _, [], _, [], hW', (trodAll_cons_mk (shut_bool Tryd.underlying4 _) trodAll_mk0), (trodAll_cons_mk (Below.trod laidOut (by kernel_rfl) (of_decide_eq_true (by kernel_rfl)) k0 hb hlt0) trodAll_mk0), rfl, hb.frame _, fun h => by cases h⟩

theorem memNew_over : Rows.MemNewSaid :=
  OpenClaim.holds_of_wide 3 Tryd.f3 rfl rfl rfl rfl rfl rfl rfl ⟨rfl, rfl, rfl, rfl, rfl⟩ rfl rfl rfl rfl rfl (by kernel_rfl) Tryd.func3 (by kernel_rfl)
    (of_decide_eq_true (by kernel_rfl)) (by unfold Func.isWrapper; first | (rw [if_pos (by decide +kernel)]; kernel_rfl) | (rw [if_neg (by decide +kernel)]; exact ⟨rfl, rfl⟩))
    (fun os started H enc _ => memNew_lifted os started H enc)

theorem memNew_holds : Rows.MemNewCardSaid :=
  Claim7.holds_tied_plain_at .later [] [.data] true (true, "8fbe9499f1103e4c4dda2993993749ae3f6b66e8777a4b39f9f429556d4835eb") false
    memNew_over (fun _ h => by cases h) (by kernel_rfl) (fun _ h => by cases h) memNew_row_tie rfl ⟨rfl, rfl⟩ (by kernel_rfl) rfl
    (fun f fn hf hfn => by
      obtain rfl : f = 3 := Option.some.inj ((show Tryd.prog.funcNamed "stepstone/stepstonelaw05.MemNew" = some 3 by kernel_rfl).symm.trans hf) |>.symm
      obtain rfl : fn = Tryd.f3 := (Option.some.inj (Tryd.func3.symm.trans hfn)).symm
      exact ⟨by kernel_rfl, fun j t ht => by
          rw [Tryd.params3] at ht
          rcases j with _ | j
          · have : t = 23 := by simpa using ht.symm
            subst this; exact (show Tryd.prog.wantsStandIn 23 = false by kernel_rfl)
          simp at ht⟩)
    (by kernel_rfl)
#print axioms memNew_holds
end Go.Proofs.YtahdhekbancapaaDoor
