/-
  For every greatest generation: let go of as often as it is taken anew, a slot is Free in each generation once, and then Out; the law SlotEnds answers true, and the number reads as it did.
  Conditions: none.
-/
import Derived.Test.YtpnacciechcnlaaAlive
import Derived.ProofKit
namespace Go.Proofs.Ytpnacciechcnlaa
open Go.ChangeShapes Go.WideShapes Go.ChangeAt Go.RowKit

def endV (l : Int) (k : Nat) : Int := if (k : Int) ≤ l then 4 * k else 4 * l + 2
theorem endV_in (l : Int) (k : Nat) (h : (k : Int) ≤ l) : endV l k = 4 * k := if_pos h
theorem endV_out (l : Int) (k : Nat) (h : l < (k : Int)) : endV l k = 4 * l + 2 := if_neg (by omega)
theorem endV_next (l : Int) (k : Nat) (h : (k : Int) ≤ l) (h1 : l ≤ 200) : afV k l = endV l (k + 1) := by
  unfold endV afV; (repeat' split) <;> omega
theorem ends_in (k : Nat) (h : (k : Int) ≤ 200) : stV (4 * k) = 0 ∧ gnV (4 * k) = k := ⟨by unfold stV; omega, by rw [gnV_lo _ (by omega)]; omega⟩
theorem ends_out (l : Int) (h : 0 ≤ l) (h1 : l ≤ 200) : stV (4 * l + 2) = 2 ∧ gnV (4 * l + 2) = l := ⟨by unfold stV; omega, by rw [gnV_lo _ (by omega)]; omega⟩
set_option maxRecDepth 100000 in
set_option maxHeartbeats 1000000 in
theorem slotEnds_walk (a0 : Int) (_w0 : (Lit.int .i64 a0).wf = true) (w : World) :
    Calls Try.prog 8 #[.int .i64 a0] w fun e w' => e = .returned (.bool true) ∧ Grown w w' := by
  have S0 := Grown.refl w
  by_cases hr : a0 < 0 ∨ 200 < a0
  · rcases hr with h | h
    · go_enter Try.func8, Try.ntmps8
      go_wp2_with fail
      refine (alive_any w _ S0).mono ?_
      rintro e w1 ⟨rfl, S1⟩
      go_wp2
      go_ret
      exact ⟨rfl, S1⟩
    · have h' : 0 ≤ a0 := by omega
      go_enter Try.func8, Try.ntmps8
      go_wp2_with fail
      refine (alive_any w _ S0).mono ?_
      rintro e w1 ⟨rfl, S1⟩
      go_wp2
      go_ret
      exact ⟨rfl, S1⟩
  · have l0 : 0 ≤ a0 := by omega
    have l1 : a0 ≤ 200 := by omega
    clear hr
    go_enter Try.func8, Try.ntmps8
    go_wp2_with fail
    go_loopw [3, 14] (fun x i wx => ∃ k : Nat, (k : Int) ≤ a0 + 1 ∧ i = .int .i64 k ∧ x = .int .u64 (endV a0 k) ∧ Grown w wx) (fun _ i _ => (a0 + 1 - intOf i).toNat)
    case atStart => exact ⟨0, by omega, rfl, by rw [endV_in _ _ (by omega)]; rfl, S0⟩
    case round =>
      obtain ⟨k, hk, rfl, rfl, S0⟩ := hrel
      by_cases hlt : (k : Int) < a0 + 1
      · have HN : Hid _ := endV_next a0 k (by omega) l1
        rw [endV_in a0 k (by omega)]
        obtain ⟨e1, e2⟩ := ends_in k (by omega)
        have b0 : 0 ≤ 4 * (k : Int) := by omega
        have b1 : 4 * (k : Int) < 18446744073709551616 := by omega
        go_wp2_with fail
        refine (state_any (4 * k) w _ S0 b0 b1).mono ?_
        rintro e w1 ⟨rfl, S1⟩
        go_wp2_with fail
        refine (gen_any (4 * k) w _ S1 b0 b1).mono ?_
        rintro e w2 ⟨rfl, S2⟩
        go_wp2_with fail
        refine (gen_any (4 * k) w _ S2 b0 b1).mono ?_
        rintro e w3 ⟨rfl, S3⟩
        go_wp2_with fail
        refine (after_any k a0 w _ S3).mono ?_
        rintro e w4 ⟨rfl, S4⟩
        rw [HN.out]
        go_wp2
        go_roundw
        case rel => exact ⟨k + 1, by omega, by go_num, rfl, S4⟩
        case measure => simp [intOf]; omega
      · rw [endV_out a0 k (by omega)]
        obtain ⟨e1, e2⟩ := ends_out a0 l0 l1
        have c0 : 0 ≤ 4 * a0 + 2 := by omega
        have c1 : 4 * a0 + 2 < 18446744073709551616 := by omega
        go_wp2_with fail
        refine (alive_any w _ S0).mono ?_
        rintro e w1 ⟨rfl, S1⟩
        go_wp2_with fail
        refine (state_any (4 * a0 + 2) w _ S1 c0 c1).mono ?_
        rintro e w2 ⟨rfl, S2⟩
        go_wp2_with fail
        refine (gen_any (4 * a0 + 2) w _ S2 c0 c1).mono ?_
        rintro e w3 ⟨rfl, S3⟩
        go_wp2
        go_ret
        exact ⟨rfl, S3⟩

theorem slotEnds_own : ownKnob Try.prog.godebug = none := by kernel_rfl
set_option maxRecDepth 100000 in
theorem slotEnds_lifted (os : Os) (started : os.Started) (H : Type) (enc : TypeId × Value → H) :
    ReturnsInHanded {} Try.checked os 8 .any (Rows.slotEndsSpec.pre6 enc Try.prog Try.f8 Rows.slotEndsRow.domain false) (Rows.slotEndsSpec.post enc Try.prog Try.f8 false true false false) := by
  refine returnsInHanded_of_change (C := Try.checked) slotEnds_own started (by kernel_rfl) Try.func8
    (ChangeSpec.witness6 (enc := enc) (C := Try.checked) false ⟨#[], #[.int .i64 0], []⟩ 8 (by kernel_rfl) (by kernel_rfl) (by kernel_rfl) (by kernel_rfl)) ?_
  intro W base args ds gs before hval0 hW hcnd _
  have hval : ∀ (j : Nat) t v, Try.f8.params[j]? = some t → args[j]? = some v → Value.okWide Try.prog W .any base t v := hval0
  have hW' := hW
  obtain ⟨p, q, hA0, hV, rfl, hfz, hnd⟩ := hW
  have hA : DataW.TrodAll enc Try.prog W 0 (fun _ => true) true Try.f8.params.toList args.toList ds p := hA0
  rw [Try.params8] at hA hval
  obtain ⟨v0, vs0, d0, ds0, p0, q0, hargs, rfl, rfl, h0, r0⟩ := trodAll_cons hA
  obtain ⟨rfl, rfl, rfl⟩ := trodAll_nil r0
  obtain rfl : args = #[v0] := by cases args; simp_all
  obtain ⟨rfl, rfl⟩ := trodVars_none hV
  obtain ⟨a0, rfl, rfl, rfl, w0⟩ := open_int Try.underlying3 (hval 0 3 v0 rfl rfl) h0
  clear hA0 hval0
  simp only [List.append_nil] at hW'
  refine (slotEnds_walk a0 w0 W).mono fun e W' ⟨he, hg⟩ => ?_
  subst he
  exact ⟨_, rfl, post_of_same (pa := []) (pv := []) hW' (fun _ _ _ => (trodAll_cons_mk (shut_bool Try.underlying4 _) trodAll_mk0)) (fun sp _ => (trodAll_cons_mk (shut_int Try.underlying3 w0) trodAll_mk0)) (fun _ _ => rfl) rfl
    (hg.frame _) hg.2.1 (ok_one (by kernel_rfl) rfl (okWide_bool_mk Try.underlying4 _))⟩

theorem slotEnds_holds : Rows.SlotEndsSaid :=
  OpenClaim.holds_of_wide 8 Try.f8 rfl rfl rfl rfl rfl rfl rfl ⟨rfl, rfl, rfl, rfl, rfl⟩ rfl rfl rfl rfl rfl (by kernel_rfl) Try.func8 (by kernel_rfl)
    (of_decide_eq_true (by kernel_rfl)) (by unfold Func.isWrapper; first | (rw [if_pos (by decide +kernel)]; kernel_rfl) | (rw [if_neg (by decide +kernel)]; exact ⟨rfl, rfl⟩))
    (fun os started H enc _ => slotEnds_lifted os started H enc)
#print axioms slotEnds_holds
end Go.Proofs.Ytpnacciechcnlaa
