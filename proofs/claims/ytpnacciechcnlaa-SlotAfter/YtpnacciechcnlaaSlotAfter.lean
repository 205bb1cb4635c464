/-
  For every generation and greatest one: After tells what the document's own answer tells; the slot is never Taken, and has the next generation, or is Out; the law SlotAfter answers true, and the arguments read as they did.
  Conditions: none.
-/
import Derived.Test.YtpnacciechcnlaaAlive
import Derived.ProofKit
namespace Go.Proofs.Ytpnacciechcnlaa
open Go.ChangeShapes Go.WideShapes Go.ChangeAt Go.RowKit

theorem after_parts (g l : Int) : (0 ≤ afV g l ∧ afV g l < 18446744073709551616) ∧ (stV (afV g l) = 0 ∨ stV (afV g l) = 2) := by
  unfold afV stV; (repeat' split) <;> omega
theorem after_in (g l : Int) (h : 0 ≤ g) (h0 : g < l) (h1 : l ≤ 1073741823) : stV (afV g l) = 0 ∧ gnV (afV g l) = g + 1 := by
  rw [af_in g l g l (by rw [if_neg (by omega)]) (by rw [if_neg (by omega), if_neg (by omega)]) h0]
  exact ⟨by unfold stV; omega, by rw [gnV_lo _ (by omega)]; omega⟩
theorem after_out (g l : Int) (h : 0 ≤ l) (h0 : l ≤ g) (h1 : l ≤ 1073741823) : stV (afV g l) = 2 := by
  rw [af_out g l g l (by rw [if_neg (by omega)]) (by rw [if_neg (by omega), if_neg (by omega)]) h0]
  unfold stV; omega
set_option maxRecDepth 100000 in
set_option maxHeartbeats 1000000 in
theorem slotAfter_walk (a0 : Int) (_w0 : (Lit.int .i64 a0).wf = true) (a1 : Int) (_w1 : (Lit.int .i64 a1).wf = true) (w : World) :
    Calls Try.prog 5 #[.int .i64 a0, .int .i64 a1] w fun e w' => e = .returned (.bool true) ∧ Grown w w' := by
  have S0 := Grown.refl w
  obtain ⟨⟨b0, b1⟩, hst⟩ := after_parts a0 a1
  by_cases hr : a0 < 0 ∨ a1 < 0 ∨ 1073741823 < a1
  · have hr' : a0 < 0 ∨ (0 ≤ a0 ∧ a1 < 0) ∨ (0 ≤ a0 ∧ 0 ≤ a1 ∧ 1073741823 < a1) := by omega
    clear hr
    rcases hst with e1 | e1 <;> rcases hr' with h | ⟨h, h2⟩ | ⟨h, h2, h3⟩
    all_goals
      go_enter Try.func5, Try.ntmps5
      go_wp2_with fail
      refine (after_any a0 a1 w _ S0).mono ?_
      rintro e w1 ⟨rfl, S1⟩
      generalize hX : afV a0 a1 = X at *
      have HX : Hid _ := hX
      clear hX
      go_wp2_with fail
      refine (state_any X w _ S1 b0 b1).mono ?_
      rintro e w2 ⟨rfl, S2⟩
      go_wp2_with fail
      refine (rafter_any a0 a1 w _ S2).mono ?_
      rintro e w3 ⟨rfl, S3⟩
      rw [HX.out]
      go_wp2_with fail
      refine (alive_any w _ S3).mono ?_
      rintro e w4 ⟨rfl, S4⟩

      go_wp2
      go_ret
      exact ⟨rfl, S4⟩

  · have g0 : 0 ≤ a0 := by omega
    have l0 : 0 ≤ a1 := by omega
    have l1 : a1 ≤ 1073741823 := by omega
    clear hr hst
    by_cases hc : a1 ≤ a0
    · have e1 := after_out a0 a1 l0 hc l1
      have e2 : decide (a1 ≤ a0) = true := decide_eq_true hc
      go_enter Try.func5, Try.ntmps5
      go_wp2_with fail
      refine (after_any a0 a1 w _ S0).mono ?_
      rintro e w1 ⟨rfl, S1⟩
      generalize hX : afV a0 a1 = X at *
      have HX : Hid _ := hX
      clear hX
      go_wp2_with fail
      refine (state_any X w _ S1 b0 b1).mono ?_
      rintro e w2 ⟨rfl, S2⟩
      go_wp2_with fail
      refine (rafter_any a0 a1 w _ S2).mono ?_
      rintro e w3 ⟨rfl, S3⟩
      rw [HX.out]
      go_wp2_with fail
      refine (alive_any w _ S3).mono ?_
      rintro e w4 ⟨rfl, S4⟩

      go_wp2
      go_ret
      exact ⟨rfl, S4⟩

    · obtain ⟨e1, e3⟩ := after_in a0 a1 g0 (by omega) l1
      have e2 : decide (a1 ≤ a0) = false := decide_eq_false hc
      have hc' : a0 < a1 := by omega
      clear hc
      go_enter Try.func5, Try.ntmps5
      go_wp2_with fail
      refine (after_any a0 a1 w _ S0).mono ?_
      rintro e w1 ⟨rfl, S1⟩
      generalize hX : afV a0 a1 = X at *
      have HX : Hid _ := hX
      clear hX
      go_wp2_with fail
      refine (state_any X w _ S1 b0 b1).mono ?_
      rintro e w2 ⟨rfl, S2⟩
      go_wp2_with fail
      refine (rafter_any a0 a1 w _ S2).mono ?_
      rintro e w3 ⟨rfl, S3⟩
      rw [HX.out]
      go_wp2_with fail
      refine (alive_any w _ S3).mono ?_
      rintro e w4 ⟨rfl, S4⟩
      go_wp2_with fail
      refine (gen_any X w _ S4 b0 b1).mono ?_
      rintro e w5 ⟨rfl, S5⟩
      go_wp2
      go_ret
      exact ⟨rfl, S5⟩


theorem slotAfter_own : ownKnob Try.prog.godebug = none := by kernel_rfl
set_option maxRecDepth 100000 in
theorem slotAfter_lifted (os : Os) (started : os.Started) (H : Type) (enc : TypeId × Value → H) :
    ReturnsInHanded {} Try.checked os 5 .any (Rows.slotAfterSpec.pre6 enc Try.prog Try.f5 Rows.slotAfterRow.domain false) (Rows.slotAfterSpec.post enc Try.prog Try.f5 false true false false) := by
  refine returnsInHanded_of_change (C := Try.checked) slotAfter_own started (by kernel_rfl) Try.func5
    (ChangeSpec.witness6 (enc := enc) (C := Try.checked) false ⟨#[], #[.int .i64 0, .int .i64 0], []⟩ 8 (by kernel_rfl) (by kernel_rfl) (by kernel_rfl) (by kernel_rfl)) ?_
  intro W base args ds gs before hval0 hW hcnd _
  have hval : ∀ (j : Nat) t v, Try.f5.params[j]? = some t → args[j]? = some v → Value.okWide Try.prog W .any base t v := hval0
  have hW' := hW
  obtain ⟨p, q, hA0, hV, rfl, hfz, hnd⟩ := hW
  have hA : DataW.TrodAll enc Try.prog W 0 (fun _ => true) true Try.f5.params.toList args.toList ds p := hA0
  rw [Try.params5] at hA hval
  obtain ⟨v0, vs0, d0, ds0, p0, q0, hargs, rfl, rfl, h0, r0⟩ := trodAll_cons hA
  obtain ⟨v1, vs1, d1, ds1, p1, q1, rfl, rfl, rfl, h1, r1⟩ := trodAll_cons r0
  obtain ⟨rfl, rfl, rfl⟩ := trodAll_nil r1
  obtain rfl : args = #[v0, v1] := by cases args; simp_all
  obtain ⟨rfl, rfl⟩ := trodVars_none hV
  obtain ⟨a0, rfl, rfl, rfl, w0⟩ := open_int Try.underlying3 (hval 0 3 v0 rfl rfl) h0
  obtain ⟨a1, rfl, rfl, rfl, w1⟩ := open_int Try.underlying3 (hval 1 3 v1 rfl rfl) h1
  clear hA0 hval0
  simp only [List.append_nil] at hW'
  refine (slotAfter_walk a0 w0 a1 w1 W).mono fun e W' ⟨he, hg⟩ => ?_
  subst he
  exact ⟨_, rfl, post_of_same (pa := []) (pv := []) hW' (fun _ _ _ => (trodAll_cons_mk (shut_bool Try.underlying4 _) trodAll_mk0)) (fun sp _ => (trodAll_cons_mk (shut_int Try.underlying3 w0) (trodAll_cons_mk (shut_int Try.underlying3 w1) trodAll_mk0))) (fun _ _ => rfl) rfl
    (hg.frame _) hg.2.1 (ok_one (by kernel_rfl) rfl (okWide_bool_mk Try.underlying4 _))⟩

theorem slotAfter_holds : Rows.SlotAfterSaid :=
  OpenClaim.holds_of_wide 5 Try.f5 rfl rfl rfl rfl rfl rfl rfl ⟨rfl, rfl, rfl, rfl, rfl⟩ rfl rfl rfl rfl rfl (by kernel_rfl) Try.func5 (by kernel_rfl)
    (of_decide_eq_true (by kernel_rfl)) (by unfold Func.isWrapper; first | (rw [if_pos (by decide +kernel)]; kernel_rfl) | (rw [if_neg (by decide +kernel)]; exact ⟨rfl, rfl⟩))
    (fun os started H enc _ => slotAfter_lifted os started H enc)
#print axioms slotAfter_holds
end Go.Proofs.Ytpnacciechcnlaa
