/-
  The statement HistRanges: which Ranges may be is what the document says.
  Conditions: none.
-/
import Derived.Test.YtlmkcakmeldfeaaHAlive
import Derived.Test.YtlmkcakmeldfeaaHArgs
import Derived.Test.YtlmkcakmeldfeaaHRanges
import Derived.Test.YtlmkcakmeldfeaaHRRanges
import Derived.ProofKit
import Derived.SizedLaws
import Derived.Carry
namespace Go.Proofs.Ytlmkcakmeldfeaa
open Go.ChangeShapes Go.WideShapes Go.ChangeAt Go.RowKit
open Go.Deep

open Q
set_option maxRecDepth 100000 in
set_option maxHeartbeats 8000000 in
theorem histRanges_walk (w : World) (ao : Option Addr) (es : List Ev) (cap : Nat) (hs : Evs w ao es.length es) (hw : KWf es) (_hc : ao = none → cap = 0) :
    Calls Try.prog 6 #[.slice ao es.length cap] w fun o w' => o = .returned (.bool true) ∧ Kept [] w w' := by
  obtain ⟨n, hn⟩ : ∃ n, n = es.length := ⟨_, rfl⟩
  rw [← hn] at hs ⊢
  have HV : Hid (Evs w ao n es) := hs
  have HW : Hid (KWf es) := hw
  clear hs hn hw _hc
  cases hb : fwB es
  · have hf := few8_any ao es n cap w HV.out.len HV.out.row
    rw [hb] at hf
    go_enter Try.func6, Try.ntmps6
    go_wp2_with (first
      | (go_at_call 9; refine hf.mono ?_; rintro o w1 ⟨rfl, K1⟩)
      | (go_at_call 10; refine (alive_any _).mono ?_; rintro o wz ⟨rfl, KZ⟩))
    go_ret
    exact ⟨rfl, K1.trans KZ⟩
  · have hf := few8_any ao es n cap w HV.out.len HV.out.row
    rw [hb] at hf
    have hl : n ≤ 40 := by have := fw_len hb; have := HV.out.len; omega
    have HKS : Hid (Ksl es) := fun e he => by have := fw_keys hb e he; omega
    clear hb
    have ha := fun w2 (bo : Option Addr) c' v => ranges_any bo es n c' w2 v (by omega) HKS.out HW.out
    have hr := fun w3 v => rranges_any ao es n cap w3 v (by omega) HKS.out
    generalize rgB es = R at ha hr
    go_enter Try.func6, Try.ntmps6
    go_wp2_with (first
      | (go_at_call 9; refine hf.mono ?_; rintro o w1 ⟨rfl, K1⟩)
      | (go_at_call 10; refine (alive_any _).mono ?_; rintro o wz ⟨rfl, KZ⟩; have V0 := HV.out.new (K1.trans KZ))
      | (go_at_call 12; refine (news8_any ao es n cap wz V0 (by omega)).mono ?_; rintro o w2 ⟨bo, c', rfl, V2, K2⟩)
      | (go_at_call 21; refine (ha w2 bo c' V2).mono ?_; rintro o w3 ⟨rfl, K3⟩)
      | (go_at_call 22; refine (hr w3 ((V0.new K2).new K3)).mono ?_; rintro o w4 ⟨rfl, K4⟩))
    go_ret
    exact ⟨by simp, ((((K1.trans KZ).trans K2).trans K3).trans K4)⟩

theorem histRanges_own : ownKnob Try.prog.godebug = none := by kernel_rfl
theorem histRanges_laidOut : laidOutB Try.prog = true := by kernel_rfl
set_option maxRecDepth 100000 in
theorem histRanges_lifted (os : Os) (started : os.Started) (H : Type) (enc : TypeId × Value → H) :
    ReturnsInHanded {} Try.checked os 6 .any (Rows.histRangesSpec.pre6 enc Try.prog Try.f6 Rows.histRangesRow.domain false) (Rows.histRangesSpec.post enc Try.prog Try.f6 false true false false) := by
  refine returnsInHanded_of_change_sized (C := Try.checked) histRanges_own started (by kernel_rfl) Try.func6
    (ChangeSpec.witness6 (enc := enc) (C := Try.checked) false ⟨#[], #[.slice none 0 0], []⟩ 8 (by kernel_rfl) (by kernel_rfl) (by kernel_rfl) (by kernel_rfl)) ?_
  intro W base args ds gs before hval0 hW _ hsz0 _
  have hsz : (DataW.weightsEach Try.prog (Try.f6.params.toList ++ Rows.histRangesSpec.plain.varTypes Try.prog) (ds ++ gs)).all (· ≤ reachBytes) = true := hsz0
  clear hsz0
  have hval : ∀ (j : Nat) t v, Try.f6.params[j]? = some t → args[j]? = some v → Value.okWide Try.prog W .any base t v := hval0
  have hW' := hW
  obtain ⟨p, q, hA0, hV, rfl, _, _⟩ := hW
  have hA : DataW.TrodAll enc Try.prog W 0 (fun _ => true) true Try.f6.params.toList args.toList ds p := hA0
  rw [Try.params6] at hA hval hsz
  clear hA0 hval0
  obtain ⟨v0, vs0, d0, ds0, p0, q0, hargs, rfl, rfl, h0, r0⟩ := trodAll_cons hA
  obtain ⟨rfl, rfl, rfl⟩ := trodAll_nil r0
  obtain rfl : args = #[v0] := by cases args; simp_all
  obtain ⟨rfl, rfl⟩ := trodVars_none hV
  have k0 := h0
  simp only [List.append_nil] at hW'
  have hlt0 : ∀ x ∈ p0, x.block < W.heap.size := fun x hx => hW'.lt x (by simp [hx])
  obtain ⟨ao0, cap0, es0, rfl, s0, g0, c0⟩ := Q.open_evs (hval 0 22 v0 rfl rfl) h0
  refine (histRanges_walk W ao0 es0 cap0 s0 g0 c0).mono fun e W' ⟨he, hg⟩ => ?_
  subst he
  have hb := hg.below (by simp)
  exact ⟨_, rfl, _, _, _, [], _, [], hW', (trodAll_cons_mk (shut_bool Try.underlying4 _) trodAll_mk0), (trodAll_cons_mk (Below.trod histRanges_laidOut (by kernel_rfl) (of_decide_eq_true (by kernel_rfl)) k0 hb hlt0) trodAll_mk0), rfl, hb.frame _, fun h => by cases h⟩

theorem histRanges_holds : Rows.HistRangesSaid :=
  OpenClaim.holds_of_wide 6 Try.f6 rfl rfl rfl rfl rfl rfl rfl ⟨rfl, rfl, rfl, rfl, rfl⟩ rfl rfl rfl rfl rfl (by kernel_rfl) Try.func6 (by kernel_rfl)
    (of_decide_eq_true (by kernel_rfl)) (by unfold Func.isWrapper; first | (rw [if_pos (by decide +kernel)]; kernel_rfl) | (rw [if_neg (by decide +kernel)]; exact ⟨rfl, rfl⟩))
    (fun os started H enc _ => histRanges_lifted os started H enc)
#print axioms histRanges_holds
end Go.Proofs.Ytlmkcakmeldfeaa
