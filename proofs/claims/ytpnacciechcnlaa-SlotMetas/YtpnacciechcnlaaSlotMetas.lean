/-
  For every state and generation: Meta tells what the document's own answer tells, and where there is a word its parts are those that it was made of; the law SlotMetas answers true, and the arguments read as they did.
  Conditions: none.
-/
import Derived.Test.YtpnacciechcnlaaAlive
import Derived.ProofKit
namespace Go.Proofs.Ytpnacciechcnlaa
open Go.ChangeShapes Go.WideShapes Go.ChangeAt Go.RowKit

theorem meta_parts (s g : Int) (h : meB s g = true) : (0 ≤ meV s g ∧ meV s g < 18446744073709551616) ∧ stV (meV s g) = s ∧ gnV (meV s g) = g := by
  obtain ⟨s0, s1, g0, g1⟩ := meB_true h
  refine ⟨by unfold meV; omega, by unfold stV meV; omega, ?_⟩
  rw [gnV_lo _ (by unfold meV; omega)]; unfold meV; omega
set_option maxRecDepth 100000 in
set_option maxHeartbeats 1000000 in
theorem slotMetas_walk (a0 : Int) (_w0 : (Lit.int .i64 a0).wf = true) (a1 : Int) (_w1 : (Lit.int .i64 a1).wf = true) (w : World) :
    Calls Try.prog 3 #[.int .i64 a0, .int .i64 a1] w fun e w' => e = .returned (.bool true) ∧ Grown w w' := by
  have S0 := Grown.refl w
  cases hf : meB a0 a1
  · have HF : Hid _ := hf
    clear hf
    go_enter Try.func3, Try.ntmps3
    go_wp2_with fail
    refine (meta_no a0 a1 w _ S0 HF.out).mono ?_
    rintro e w1 ⟨rfl, S1⟩
    go_wp2_with fail
    refine (rmeta_no a0 a1 w _ S1 HF.out).mono ?_
    rintro e w2 ⟨rfl, S2⟩
    go_wp2_with fail
    refine (alive_any w _ S2).mono ?_
    rintro e w3 ⟨rfl, S3⟩
    go_wp2
    go_ret
    exact ⟨rfl, S3⟩
  · obtain ⟨⟨b0, b1⟩, e1, e2⟩ := meta_parts a0 a1 hf
    have HF : Hid _ := hf
    clear hf
    go_enter Try.func3, Try.ntmps3
    go_wp2_with fail
    refine (meta_yes a0 a1 w _ S0 HF.out).mono ?_
    rintro e w1 ⟨rfl, S1⟩
    go_wp2_with fail
    refine (rmeta_yes a0 a1 w _ S1 HF.out).mono ?_
    rintro e w2 ⟨rfl, S2⟩
    generalize meV a0 a1 = X at b0 b1 e1 e2 ⊢
    go_wp2_with fail
    refine (alive_any w _ S2).mono ?_
    rintro e w3 ⟨rfl, S3⟩
    go_wp2_with fail
    refine (state_any X w _ S3 b0 b1).mono ?_
    rintro e w4 ⟨rfl, S4⟩
    go_wp2_with fail
    refine (gen_any X w _ S4 b0 b1).mono ?_
    rintro e w5 ⟨rfl, S5⟩
    go_wp2
    go_ret
    exact ⟨rfl, S5⟩

theorem slotMetas_own : ownKnob Try.prog.godebug = none := by kernel_rfl
set_option maxRecDepth 100000 in
theorem slotMetas_lifted (os : Os) (started : os.Started) (H : Type) (enc : TypeId × Value → H) :
    ReturnsInHanded {} Try.checked os 3 .any (Rows.slotMetasSpec.pre6 enc Try.prog Try.f3 Rows.slotMetasRow.domain false) (Rows.slotMetasSpec.post enc Try.prog Try.f3 false true false false) := by
  refine returnsInHanded_of_change (C := Try.checked) slotMetas_own started (by kernel_rfl) Try.func3
    (ChangeSpec.witness6 (enc := enc) (C := Try.checked) false ⟨#[], #[.int .i64 0, .int .i64 0], []⟩ 8 (by kernel_rfl) (by kernel_rfl) (by kernel_rfl) (by kernel_rfl)) ?_
  intro W base args ds gs before hval0 hW hcnd _
  have hval : ∀ (j : Nat) t v, Try.f3.params[j]? = some t → args[j]? = some v → Value.okWide Try.prog W .any base t v := hval0
  have hW' := hW
  obtain ⟨p, q, hA0, hV, rfl, hfz, hnd⟩ := hW
  have hA : DataW.TrodAll enc Try.prog W 0 (fun _ => true) true Try.f3.params.toList args.toList ds p := hA0
  rw [Try.params3] at hA hval
  obtain ⟨v0, vs0, d0, ds0, p0, q0, hargs, rfl, rfl, h0, r0⟩ := trodAll_cons hA
  obtain ⟨v1, vs1, d1, ds1, p1, q1, rfl, rfl, rfl, h1, r1⟩ := trodAll_cons r0
  obtain ⟨rfl, rfl, rfl⟩ := trodAll_nil r1
  obtain rfl : args = #[v0, v1] := by cases args; simp_all
  obtain ⟨rfl, rfl⟩ := trodVars_none hV
  obtain ⟨a0, rfl, rfl, rfl, w0⟩ := open_int Try.underlying3 (hval 0 3 v0 rfl rfl) h0
  obtain ⟨a1, rfl, rfl, rfl, w1⟩ := open_int Try.underlying3 (hval 1 3 v1 rfl rfl) h1
  clear hA0 hval0
  simp only [List.append_nil] at hW'
  refine (slotMetas_walk a0 w0 a1 w1 W).mono fun e W' ⟨he, hg⟩ => ?_
  subst he
  exact ⟨_, rfl, post_of_same (pa := []) (pv := []) hW' (fun _ _ _ => (trodAll_cons_mk (shut_bool Try.underlying4 _) trodAll_mk0)) (fun sp _ => (trodAll_cons_mk (shut_int Try.underlying3 w0) (trodAll_cons_mk (shut_int Try.underlying3 w1) trodAll_mk0))) (fun _ _ => rfl) rfl
    (hg.frame _) hg.2.1 (ok_one (by kernel_rfl) rfl (okWide_bool_mk Try.underlying4 _))⟩

theorem slotMetas_holds : Rows.SlotMetasSaid :=
  OpenClaim.holds_of_wide 3 Try.f3 rfl rfl rfl rfl rfl rfl rfl ⟨rfl, rfl, rfl, rfl, rfl⟩ rfl rfl rfl rfl rfl (by kernel_rfl) Try.func3 (by kernel_rfl)
    (of_decide_eq_true (by kernel_rfl)) (by unfold Func.isWrapper; first | (rw [if_pos (by decide +kernel)]; kernel_rfl) | (rw [if_neg (by decide +kernel)]; exact ⟨rfl, rfl⟩))
    (fun os started H enc _ => slotMetas_lifted os started H enc)
#print axioms slotMetas_holds
end Go.Proofs.Ytpnacciechcnlaa
