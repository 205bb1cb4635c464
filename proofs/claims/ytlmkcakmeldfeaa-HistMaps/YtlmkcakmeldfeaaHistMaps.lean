/-
  The statement HistMaps: the map at any time of any events is what the document says.
  Conditions: none.
-/
import Derived.Test.YtlmkcakmeldfeaaHAlive
import Derived.Test.YtlmkcakmeldfeaaHArgs
import Derived.Test.YtlmkcakmeldfeaaHRMap
import Derived.ProofKit
import Derived.SizedLaws
import Derived.Carry
namespace Go.Proofs.Ytlmkcakmeldfeaa
open Go.ChangeShapes Go.WideShapes Go.ChangeAt Go.RowKit
open Go.Deep

open Q
set_option maxRecDepth 100000 in
set_option maxHeartbeats 8000000 in
theorem histMaps_walk (w : World) (ao : Option Addr) (es : List Ev) (cap : Nat) (t : Int) (_ht : (Lit.int .i64 t).wf = true) (hs : Evs w ao es.length es) (hw : KWf es) (_hc : ao = none → cap = 0) :
    Calls Try.prog 4 #[.slice ao es.length cap, .int .i64 t] w fun o w' => o = .returned (.bool true) ∧ Kept [] w w' := by
  obtain ⟨n, hn⟩ : ∃ n, n = es.length := ⟨_, rfl⟩
  rw [← hn] at hs ⊢
  have HV : Hid (Evs w ao n es) := hs
  have HW : Hid (KWf es) := hw
  clear hs hn hw _hc
  cases hb : fwB es
  · have hf := few8_any ao es n cap w HV.out.len HV.out.row
    rw [hb] at hf
    go_enter Try.func4, Try.ntmps4
    go_wp2_with (first
      | (go_at_call 9; refine hf.mono ?_; rintro o w1 ⟨rfl, K1⟩)
      | (go_at_call 10; refine (alive_any _).mono ?_; rintro o wz ⟨rfl, KZ⟩))
    go_ret
    exact ⟨rfl, K1.trans KZ⟩
  · have hf := few8_any ao es n cap w HV.out.len HV.out.row
    rw [hb] at hf
    have hl : n ≤ 40 := by have := fw_len hb; have := HV.out.len; omega
    have HKS : Hid (Ksl es) := fun e he => by have := fw_keys hb e he; omega
    clear hb
    have LM : Hid ((mpA es t).length ≤ 1000) := by
      have h1 := mpF_len HV.out.wd (Q.filter_lt (es := es) (p := leB es t))
      have h2 := List.length_filter_le (leB es t) (ordOf es)
      have h3 := ord_len es
      have h4 := HV.out.len
      show _ ≤ _
      unfold mpA; omega
    go_enter Try.func4, Try.ntmps4
    go_wp2_with (first
      | (go_at_call 9; refine hf.mono ?_; rintro o w1 ⟨rfl, K1⟩)
      | (go_at_call 10; refine (alive_any _).mono ?_; rintro o wz ⟨rfl, KZ⟩; have V0 := HV.out.new (K1.trans KZ))
      | (go_at_call 12; refine (news8_any ao es n cap wz V0 (by omega)).mono ?_; rintro o w2 ⟨bo, c', rfl, V2, K2⟩)
      | (go_at_call 16; refine (hmap_any bo es n c' t w2 V2 (by omega)).mono ?_; rintro o w3 ⟨mo, mn, mc, rfl, M3, K3⟩; have hmn : mn ≤ 1000 := by rw [M3.1]; exact LM.out)
      | (go_at_call 17; refine (pairs_any mo _ mn mc w3 M3 hmn).mono ?_; rintro o w4 ⟨po, pc, rfl, M4, K4⟩)
      | (go_at_call 15; refine (olds_any po _ mn pc w4 M4.1 M4.2.1 hmn).mono ?_; rintro o w5 ⟨qo, qc, rfl, M5, K5⟩)
      | (go_at_call 18; refine (rmap_any ao es n cap t w5 ((((V0.new K2).new K3).new K4).new K5) (by omega)).mono ?_; rintro o w6 ⟨ro, rn, rc, rfl, M6, K6⟩; have ern : rn = mn := by rw [M6.1, M5.1]
         subst ern)
      | (go_at_call 14; refine (requal_any qo ro _ rn qc rc w6 M6.1 (M5.2.1.new K6) M6.2.1 hmn).mono ?_; rintro o w7 ⟨rfl, K7⟩))
    go_ret
    exact ⟨rfl, (((((((K1.trans KZ).trans K2).trans K3).trans K4).trans K5).trans K6).trans K7)⟩

theorem histMaps_own : ownKnob Try.prog.godebug = none := by kernel_rfl
theorem histMaps_laidOut : laidOutB Try.prog = true := by kernel_rfl
set_option maxRecDepth 100000 in
theorem histMaps_lifted (os : Os) (started : os.Started) (H : Type) (enc : TypeId × Value → H) :
    ReturnsInHanded {} Try.checked os 4 .any (Rows.histMapsSpec.pre6 enc Try.prog Try.f4 Rows.histMapsRow.domain false) (Rows.histMapsSpec.post enc Try.prog Try.f4 false true false false) := by
  refine returnsInHanded_of_change_sized (C := Try.checked) histMaps_own started (by kernel_rfl) Try.func4
    (ChangeSpec.witness6 (enc := enc) (C := Try.checked) false ⟨#[], #[.slice none 0 0, .int .i64 0], []⟩ 8 (by kernel_rfl) (by kernel_rfl) (by kernel_rfl) (by kernel_rfl)) ?_
  intro W base args ds gs before hval0 hW _ hsz0 _
  have hsz : (DataW.weightsEach Try.prog (Try.f4.params.toList ++ Rows.histMapsSpec.plain.varTypes Try.prog) (ds ++ gs)).all (· ≤ reachBytes) = true := hsz0
  clear hsz0
  have hval : ∀ (j : Nat) t v, Try.f4.params[j]? = some t → args[j]? = some v → Value.okWide Try.prog W .any base t v := hval0
  have hW' := hW
  obtain ⟨p, q, hA0, hV, rfl, _, _⟩ := hW
  have hA : DataW.TrodAll enc Try.prog W 0 (fun _ => true) true Try.f4.params.toList args.toList ds p := hA0
  rw [Try.params4] at hA hval hsz
  clear hA0 hval0
  obtain ⟨v0, vs0, d0, ds0, p0, q0, hargs, rfl, rfl, h0, r0⟩ := trodAll_cons hA
  obtain ⟨v1, vs1, d1, ds1, p1, q1, rfl, rfl, rfl, h1, r1⟩ := trodAll_cons r0
  obtain ⟨rfl, rfl, rfl⟩ := trodAll_nil r1
  obtain rfl : args = #[v0, v1] := by cases args; simp_all
  obtain ⟨rfl, rfl⟩ := trodVars_none hV
  have k0 := h0
  have k1 := h1
  simp only [List.append_nil] at hW'
  have hlt0 : ∀ x ∈ p0, x.block < W.heap.size := fun x hx => hW'.lt x (by simp [hx])
  have hlt1 : ∀ x ∈ p1, x.block < W.heap.size := fun x hx => hW'.lt x (by simp [hx])
  obtain ⟨ao0, cap0, es0, rfl, s0, g0, c0⟩ := Q.open_evs (hval 0 22 v0 rfl rfl) h0
  obtain ⟨a1, rfl, rfl, rfl, w1⟩ := open_int Try.underlying3 (hval 1 3 v1 rfl rfl) h1
  refine (histMaps_walk W ao0 es0 cap0 a1 w1 s0 g0 c0).mono fun e W' ⟨he, hg⟩ => ?_
  subst he
  have hb := hg.below (by simp)
  exact ⟨_, rfl, _, _, _, [], _, [], hW', (trodAll_cons_mk (shut_bool Try.underlying4 _) trodAll_mk0), (trodAll_cons_mk (Below.trod histMaps_laidOut (by kernel_rfl) (of_decide_eq_true (by kernel_rfl)) k0 hb hlt0) (trodAll_cons_mk (Below.trod histMaps_laidOut (by kernel_rfl) (of_decide_eq_true (by kernel_rfl)) k1 hb hlt1) trodAll_mk0)), rfl, hb.frame _, fun h => by cases h⟩

theorem histMaps_holds : Rows.HistMapsSaid :=
  OpenClaim.holds_of_wide 4 Try.f4 rfl rfl rfl rfl rfl rfl rfl ⟨rfl, rfl, rfl, rfl, rfl⟩ rfl rfl rfl rfl rfl (by kernel_rfl) Try.func4 (by kernel_rfl)
    (of_decide_eq_true (by kernel_rfl)) (by unfold Func.isWrapper; first | (rw [if_pos (by decide +kernel)]; kernel_rfl) | (rw [if_neg (by decide +kernel)]; exact ⟨rfl, rfl⟩))
    (fun os started H enc _ => histMaps_lifted os started H enc)
#print axioms histMaps_holds
end Go.Proofs.Ytlmkcakmeldfeaa
