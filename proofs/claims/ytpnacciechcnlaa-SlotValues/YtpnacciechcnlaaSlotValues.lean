/-
  For every value: Value tells what the document's own answer tells, there is a word just if the value is not above MaxValue, and the word has this value, dead or not; the law SlotValues answers true, and the value reads as it did.
  Conditions: none.
-/
import Derived.Test.YtpnacciechcnlaaAlive
import Derived.ProofKit
namespace Go.Proofs.Ytpnacciechcnlaa
open Go.ChangeShapes Go.WideShapes Go.ChangeAt Go.RowKit

theorem value_parts (v : Int) (h0 : 0 ≤ v) (h1 : v < 9223372036854775808) : (0 ≤ v * 2 ∧ v * 2 < 18446744073709551616) ∧ (0 ≤ klV (v * 2) ∧ klV (v * 2) < 18446744073709551616) ∧ ofV (v * 2) = v ∧ ofV (klV (v * 2)) = v ∧ ddB (v * 2) = false ∧ ddB (klV (v * 2)) = true := by
  unfold ofV klV ddB; refine ⟨by omega, by omega, by omega, by omega, ?_, ?_⟩
  · rw [beq_eq_false_iff_ne]; omega
  · rw [beq_iff_eq]; omega
set_option maxRecDepth 100000 in
set_option maxHeartbeats 1000000 in
theorem slotValues_walk (a0 : Int) (w0 : (Lit.int .u64 a0).wf = true) (w : World) :
    Calls Try.prog 6 #[.int .u64 a0] w fun e w' => e = .returned (.bool true) ∧ Grown w w' := by
  obtain ⟨h0, h1'⟩ := bounds_u64 w0
  have h1 : a0 < 18446744073709551616 := by omega
  clear h1' w0
  have S0 := Grown.refl w
  by_cases hv : 9223372036854775808 ≤ a0
  · have hl : decide (a0 ≤ 9223372036854775807) = false := decide_eq_false (by omega)
    go_enter Try.func6, Try.ntmps6
    go_wp2_with fail
    refine (value_no a0 w _ S0 hv h1).mono ?_
    rintro e w1 ⟨rfl, S1⟩
    go_wp2_with fail
    refine (rvalue_no a0 w _ S1 hv).mono ?_
    rintro e w2 ⟨rfl, S2⟩
    go_wp2_with fail
    refine (alive_any w _ S2).mono ?_
    rintro e w3 ⟨rfl, S3⟩
    go_wp2
    go_ret
    exact ⟨rfl, S3⟩
  · have hv : a0 < 9223372036854775808 := by omega
    have hl : decide (a0 ≤ 9223372036854775807) = true := decide_eq_true (by omega)
    obtain ⟨⟨b0, b1⟩, ⟨y0, y1⟩, e1, e2, e3, e4⟩ := value_parts a0 h0 hv
    go_enter Try.func6, Try.ntmps6
    go_wp2_with fail
    refine (value_yes a0 w _ S0 h0 hv).mono ?_
    rintro e w1 ⟨rfl, S1⟩
    go_wp2_with fail
    refine (rvalue_yes a0 w _ S1 h0 hv).mono ?_
    rintro e w2 ⟨rfl, S2⟩
    generalize hX : a0 * 2 = X at b0 b1 y0 y1 e1 e2 e3 e4 ⊢
    clear hX
    go_wp2_with fail
    refine (alive_any w _ S2).mono ?_
    rintro e w3 ⟨rfl, S3⟩
    go_wp2_with fail
    refine (of_any X w _ S3 b0 b1).mono ?_
    rintro e w4 ⟨rfl, S4⟩
    go_wp2_with fail
    refine (kill_any X w _ S4 b0 b1).mono ?_
    rintro e w5 ⟨rfl, S5⟩
    go_wp2_with fail
    refine (of_any (klV X) w _ S5 y0 y1).mono ?_
    rintro e w6 ⟨rfl, S6⟩
    go_wp2_with fail
    refine (dead_any X w _ S6 b0 b1).mono ?_
    rintro e w7 ⟨rfl, S7⟩
    go_wp2_with fail
    refine (kill_any X w _ S7 b0 b1).mono ?_
    rintro e w8 ⟨rfl, S8⟩
    go_wp2_with fail
    refine (dead_any (klV X) w _ S8 y0 y1).mono ?_
    rintro e w9 ⟨rfl, S9⟩
    go_wp2
    go_ret
    exact ⟨rfl, S9⟩

theorem slotValues_own : ownKnob Try.prog.godebug = none := by kernel_rfl
set_option maxRecDepth 100000 in
theorem slotValues_lifted (os : Os) (started : os.Started) (H : Type) (enc : TypeId × Value → H) :
    ReturnsInHanded {} Try.checked os 6 .any (Rows.slotValuesSpec.pre6 enc Try.prog Try.f6 Rows.slotValuesRow.domain false) (Rows.slotValuesSpec.post enc Try.prog Try.f6 false true false false) := by
  refine returnsInHanded_of_change (C := Try.checked) slotValues_own started (by kernel_rfl) Try.func6
    (ChangeSpec.witness6 (enc := enc) (C := Try.checked) false ⟨#[], #[.int .u64 0], []⟩ 8 (by kernel_rfl) (by kernel_rfl) (by kernel_rfl) (by kernel_rfl)) ?_
  intro W base args ds gs before hval0 hW hcnd _
  have hval : ∀ (j : Nat) t v, Try.f6.params[j]? = some t → args[j]? = some v → Value.okWide Try.prog W .any base t v := hval0
  have hW' := hW
  obtain ⟨p, q, hA0, hV, rfl, hfz, hnd⟩ := hW
  have hA : DataW.TrodAll enc Try.prog W 0 (fun _ => true) true Try.f6.params.toList args.toList ds p := hA0
  rw [Try.params6] at hA hval
  obtain ⟨v0, vs0, d0, ds0, p0, q0, hargs, rfl, rfl, h0, r0⟩ := trodAll_cons hA
  obtain ⟨rfl, rfl, rfl⟩ := trodAll_nil r0
  obtain rfl : args = #[v0] := by cases args; simp_all
  obtain ⟨rfl, rfl⟩ := trodVars_none hV
  obtain ⟨a0, rfl, rfl, rfl, w0⟩ := open_int Try.underlying22 (hval 0 22 v0 rfl rfl) h0
  clear hA0 hval0
  simp only [List.append_nil] at hW'
  refine (slotValues_walk a0 w0 W).mono fun e W' ⟨he, hg⟩ => ?_
  subst he
  exact ⟨_, rfl, post_of_same (pa := []) (pv := []) hW' (fun _ _ _ => (trodAll_cons_mk (shut_bool Try.underlying4 _) trodAll_mk0)) (fun sp _ => (trodAll_cons_mk (shut_int Try.underlying22 w0) trodAll_mk0)) (fun _ _ => rfl) rfl
    (hg.frame _) hg.2.1 (ok_one (by kernel_rfl) rfl (okWide_bool_mk Try.underlying4 _))⟩

theorem slotValues_holds : Rows.SlotValuesSaid :=
  OpenClaim.holds_of_wide 6 Try.f6 rfl rfl rfl rfl rfl rfl rfl ⟨rfl, rfl, rfl, rfl, rfl⟩ rfl rfl rfl rfl rfl (by kernel_rfl) Try.func6 (by kernel_rfl)
    (of_decide_eq_true (by kernel_rfl)) (by unfold Func.isWrapper; first | (rw [if_pos (by decide +kernel)]; kernel_rfl) | (rw [if_neg (by decide +kernel)]; exact ⟨rfl, rfl⟩))
    (fun os started H enc _ => slotValues_lifted os started H enc)
#print axioms slotValues_holds
end Go.Proofs.Ytpnacciechcnlaa
