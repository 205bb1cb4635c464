/-
  For every word w: State, Gen, Dead, Kill and Of tell of w what the document's own answers tell; the law SlotParts answers true, and the word reads as it did.
  Conditions: none.
-/
import Derived.Test.YtpnacciechcnlaaAlive
import Derived.ProofKit
namespace Go.Proofs.Ytpnacciechcnlaa
open Go.ChangeShapes Go.WideShapes Go.ChangeAt Go.RowKit

set_option maxRecDepth 100000 in
set_option maxHeartbeats 1000000 in
theorem slotParts_walk (a0 : Int) (w0 : (Lit.int .u64 a0).wf = true) (w : World) :
    Calls Try.prog 4 #[.int .u64 a0] w fun e w' => e = .returned (.bool true) ∧ Grown w w' := by
  obtain ⟨h0, h1'⟩ := bounds_u64 w0
  have h1 : a0 < 18446744073709551616 := by omega
  clear h1' w0
  have S0 := Grown.refl w
  go_enter Try.func4, Try.ntmps4
  go_wp2_with fail
  refine (alive_any w _ S0).mono ?_
  rintro e w1 ⟨rfl, S1⟩
  go_wp2_with fail
  refine (state_any a0 w _ S1 h0 h1).mono ?_
  rintro e w2 ⟨rfl, S2⟩
  go_wp2_with fail
  refine (rstate_any a0 w _ S2 h0 h1).mono ?_
  rintro e w3 ⟨rfl, S3⟩
  go_wp2_with fail
  refine (gen_any a0 w _ S3 h0 h1).mono ?_
  rintro e w4 ⟨rfl, S4⟩
  go_wp2_with fail
  refine (rgen_any a0 w _ S4 h0 h1).mono ?_
  rintro e w5 ⟨rfl, S5⟩
  go_wp2_with fail
  refine (dead_any a0 w _ S5 h0 h1).mono ?_
  rintro e w6 ⟨rfl, S6⟩
  go_wp2_with fail
  refine (rdead_any a0 w _ S6 h0 h1).mono ?_
  rintro e w7 ⟨rfl, S7⟩
  go_wp2_with fail
  refine (kill_any a0 w _ S7 h0 h1).mono ?_
  rintro e w8 ⟨rfl, S8⟩
  go_wp2_with fail
  refine (rkill_any a0 w _ S8 h0 h1).mono ?_
  rintro e w9 ⟨rfl, S9⟩
  go_wp2_with fail
  refine (of_any a0 w _ S9 h0 h1).mono ?_
  rintro e w10 ⟨rfl, S10⟩
  go_wp2_with fail
  refine (rof_any a0 w _ S10 h0 h1).mono ?_
  rintro e w11 ⟨rfl, S11⟩
  go_wp2
  go_ret
  exact ⟨rfl, S11⟩

theorem slotParts_own : ownKnob Try.prog.godebug = none := by kernel_rfl
set_option maxRecDepth 100000 in
theorem slotParts_lifted (os : Os) (started : os.Started) (H : Type) (enc : TypeId × Value → H) :
    ReturnsInHanded {} Try.checked os 4 .any (Rows.slotPartsSpec.pre6 enc Try.prog Try.f4 Rows.slotPartsRow.domain false) (Rows.slotPartsSpec.post enc Try.prog Try.f4 false true false false) := by
  refine returnsInHanded_of_change (C := Try.checked) slotParts_own started (by kernel_rfl) Try.func4
    (ChangeSpec.witness6 (enc := enc) (C := Try.checked) false ⟨#[], #[.int .u64 0], []⟩ 8 (by kernel_rfl) (by kernel_rfl) (by kernel_rfl) (by kernel_rfl)) ?_
  intro W base args ds gs before hval0 hW hcnd _
  have hval : ∀ (j : Nat) t v, Try.f4.params[j]? = some t → args[j]? = some v → Value.okWide Try.prog W .any base t v := hval0
  have hW' := hW
  obtain ⟨p, q, hA0, hV, rfl, hfz, hnd⟩ := hW
  have hA : DataW.TrodAll enc Try.prog W 0 (fun _ => true) true Try.f4.params.toList args.toList ds p := hA0
  rw [Try.params4] at hA hval
  obtain ⟨v0, vs0, d0, ds0, p0, q0, hargs, rfl, rfl, h0, r0⟩ := trodAll_cons hA
  obtain ⟨rfl, rfl, rfl⟩ := trodAll_nil r0
  obtain rfl : args = #[v0] := by cases args; simp_all
  obtain ⟨rfl, rfl⟩ := trodVars_none hV
  obtain ⟨a0, rfl, rfl, rfl, w0⟩ := open_int Try.underlying22 (hval 0 22 v0 rfl rfl) h0
  clear hA0 hval0
  simp only [List.append_nil] at hW'
  refine (slotParts_walk a0 w0 W).mono fun e W' ⟨he, hg⟩ => ?_
  subst he
  exact ⟨_, rfl, post_of_same (pa := []) (pv := []) hW' (fun _ _ _ => (trodAll_cons_mk (shut_bool Try.underlying4 _) trodAll_mk0)) (fun sp _ => (trodAll_cons_mk (shut_int Try.underlying22 w0) trodAll_mk0)) (fun _ _ => rfl) rfl
    (hg.frame _) hg.2.1 (ok_one (by kernel_rfl) rfl (okWide_bool_mk Try.underlying4 _))⟩

theorem slotParts_holds : Rows.SlotPartsSaid :=
  OpenClaim.holds_of_wide 4 Try.f4 rfl rfl rfl rfl rfl rfl rfl ⟨rfl, rfl, rfl, rfl, rfl⟩ rfl rfl rfl rfl rfl (by kernel_rfl) Try.func4 (by kernel_rfl)
    (of_decide_eq_true (by kernel_rfl)) (by unfold Func.isWrapper; first | (rw [if_pos (by decide +kernel)]; kernel_rfl) | (rw [if_neg (by decide +kernel)]; exact ⟨rfl, rfl⟩))
    (fun os started H enc _ => slotParts_lifted os started H enc)
#print axioms slotParts_holds
end Go.Proofs.Ytpnacciechcnlaa
