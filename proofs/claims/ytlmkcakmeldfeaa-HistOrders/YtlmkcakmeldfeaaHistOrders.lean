/-
  The statement HistOrders: in which order any events happened is what the document says.
  Conditions: none.
-/
import Derived.Test.YtlmkcakmeldfeaaHAlive
import Derived.Test.YtlmkcakmeldfeaaHArgs
import Derived.Test.YtlmkcakmeldfeaaHROrder
import Derived.ProofKit
import Derived.SizedLaws
import Derived.Carry
namespace Go.Proofs.Ytlmkcakmeldfeaa
open Go.ChangeShapes Go.WideShapes Go.ChangeAt Go.RowKit
open Go.Deep

open Q
set_option maxRecDepth 100000 in
set_option maxHeartbeats 8000000 in
theorem histOrders_walk (w : World) (ao : Option Addr) (es : List Ev) (cap : Nat) (hs : Evs w ao es.length es) (hw : KWf es) (_hc : ao = none → cap = 0) :
    Calls Try.prog 3 #[.slice ao es.length cap] w fun o w' => o = .returned (.bool true) ∧ Kept [] w w' := by
  obtain ⟨n, hn⟩ : ∃ n, n = es.length := ⟨_, rfl⟩
  rw [← hn] at hs ⊢
  have HV : Hid (Evs w ao n es) := hs
  have HW : Hid (KWf es) := hw
  clear hs hn hw _hc
  cases hb : fwB es
  · have hf := few8_any ao es n cap w HV.out.len HV.out.row
    rw [hb] at hf
    go_enter Try.func3, Try.ntmps3
    go_wp2_with (first
      | (go_at_call 9; refine hf.mono ?_; rintro o w1 ⟨rfl, K1⟩)
      | (go_at_call 10; refine (alive_any _).mono ?_; rintro o wz ⟨rfl, KZ⟩))
    go_ret
    exact ⟨rfl, K1.trans KZ⟩
  · have hf := few8_any ao es n cap w HV.out.len HV.out.row
    rw [hb] at hf
    have hl : n ≤ 40 := by have := fw_len hb; have := HV.out.len; omega
    have HKS : Hid (Ksl es) := fun e he => by have := fw_keys hb e he; omega
    clear hb
    go_enter Try.func3, Try.ntmps3
    go_wp2_with (first
      | (go_at_call 9; refine hf.mono ?_; rintro o w1 ⟨rfl, K1⟩)
      | (go_at_call 12; refine (news8_any ao es n cap w1 (HV.out.new K1) (by omega)).mono ?_; rintro o w2 ⟨bo, c', rfl, V2, K2⟩)
      | (go_at_call 11; refine (order_any bo es n c' w2 V2.len V2.row (by omega)).mono ?_; rintro o w3 ⟨ord, b3, m3, c3, rfl, hm3, I3, S3, K3⟩; have IE := I3.eq; subst IE; have H3 : Hid (m3 = (ordOf es).length) := hm3; clear I3 hm3)
      | (go_at_call 13; refine (rorder_any ao es n cap w3 HV.out.len ((((HV.out.new K1).new K2).new K3)).row (by omega)).mono ?_; rintro o w4 ⟨ord, b4, m4, c4, rfl, hm4, I4, S4, K4⟩; have IE := I4.eq; subst IE; have e34 : m4 = m3 := hm4.trans H3.out.symm; subst e34; clear I4 hm4))
    have KT := ((K1.trans K2).trans K3).trans K4
    have SA : Hid (SlI w4 b3 (ordOf es)) := S3.new K4
    have SB : Hid (SlI w4 b4 (ordOf es)) := S4
    have hmb : m4 ≤ 40 := by have := H3.out; have := ord_len es; have := HV.out.len; omega
    clear S3 S4 V2 K1 K2 K3 K4 hf
    go_loopw [22] (fun i wr => ∃ k : Nat, k ≤ m4 ∧ i = .int .i64 k ∧ Kept [] w4 wr) (fun i _ => m4 - (intOf i).toNat)
    case atStart => exact ⟨0, Nat.zero_le _, rfl, Kept.refl _ _⟩
    case round =>
      obtain ⟨k, hk, rfl, K⟩ := hrel
      by_cases hlt : k < m4
      · obtain ⟨b1, o1, rfl, _, c1⟩ := SlI.cell (SA.out.new K) (k := k) (by have := H3.out; omega)
        obtain ⟨b2, o2, rfl, _, c2⟩ := SlI.cell (SB.out.new K) (k := k) (by have := H3.out; omega)
        generalize (ordOf es).getD k 0 = v at c1 c2
        have C1 : ∀ p : KW wr, p.val.cell? ⟨b1, o1 + k, none⟩ = some (.int .i64 (v : Int)) := KW.cell c1
        have C2 : ∀ p : KW wr, p.val.cell? ⟨b2, o2 + k, none⟩ = some (.int .i64 (v : Int)) := KW.cell c2
        have z1 : (k : Int) < (m4 : Int) := by omega
        go_wp2_with fail
        refine wp_region_kept (by kernel_rfl) (by kernel_rfl) ?_
        repeat (first | go_big_quiet_step (fail) | quiet_step (fail))
        refine wpQuiet_nil ?_
        intro _ hw'
        obtain ⟨pq, hw''⟩ := hw'
        subst hw''
        have KQ := pq.kept
        clear C1 C2 c1 c2
        go_wp2
        go_roundw
        case rel => exact ⟨k + 1, by omega, by go_num, K.trans KQ⟩
        case measure => simp [intOf]; omega
      · go_wp2_with (first | (go_at_call 10; refine (alive_any _).mono ?_; rintro o wz ⟨rfl, KZ⟩))
        go_ret
        exact ⟨rfl, (KT.trans K).trans KZ⟩

theorem histOrders_own : ownKnob Try.prog.godebug = none := by kernel_rfl
theorem histOrders_laidOut : laidOutB Try.prog = true := by kernel_rfl
set_option maxRecDepth 100000 in
theorem histOrders_lifted (os : Os) (started : os.Started) (H : Type) (enc : TypeId × Value → H) :
    ReturnsInHanded {} Try.checked os 3 .any (Rows.histOrdersSpec.pre6 enc Try.prog Try.f3 Rows.histOrdersRow.domain false) (Rows.histOrdersSpec.post enc Try.prog Try.f3 false true false false) := by
  refine returnsInHanded_of_change_sized (C := Try.checked) histOrders_own started (by kernel_rfl) Try.func3
    (ChangeSpec.witness6 (enc := enc) (C := Try.checked) false ⟨#[], #[.slice none 0 0], []⟩ 8 (by kernel_rfl) (by kernel_rfl) (by kernel_rfl) (by kernel_rfl)) ?_
  intro W base args ds gs before hval0 hW _ hsz0 _
  have hsz : (DataW.weightsEach Try.prog (Try.f3.params.toList ++ Rows.histOrdersSpec.plain.varTypes Try.prog) (ds ++ gs)).all (· ≤ reachBytes) = true := hsz0
  clear hsz0
  have hval : ∀ (j : Nat) t v, Try.f3.params[j]? = some t → args[j]? = some v → Value.okWide Try.prog W .any base t v := hval0
  have hW' := hW
  obtain ⟨p, q, hA0, hV, rfl, _, _⟩ := hW
  have hA : DataW.TrodAll enc Try.prog W 0 (fun _ => true) true Try.f3.params.toList args.toList ds p := hA0
  rw [Try.params3] at hA hval hsz
  clear hA0 hval0
  obtain ⟨v0, vs0, d0, ds0, p0, q0, hargs, rfl, rfl, h0, r0⟩ := trodAll_cons hA
  obtain ⟨rfl, rfl, rfl⟩ := trodAll_nil r0
  obtain rfl : args = #[v0] := by cases args; simp_all
  obtain ⟨rfl, rfl⟩ := trodVars_none hV
  have k0 := h0
  simp only [List.append_nil] at hW'
  have hlt0 : ∀ x ∈ p0, x.block < W.heap.size := fun x hx => hW'.lt x (by simp [hx])
  obtain ⟨ao0, cap0, es0, rfl, s0, g0, c0⟩ := Q.open_evs (hval 0 22 v0 rfl rfl) h0
  refine (histOrders_walk W ao0 es0 cap0 s0 g0 c0).mono fun e W' ⟨he, hg⟩ => ?_
  subst he
  have hb := hg.below (by simp)
  exact ⟨_, rfl, _, _, _, [], _, [], hW', (trodAll_cons_mk (shut_bool Try.underlying4 _) trodAll_mk0), (trodAll_cons_mk (Below.trod histOrders_laidOut (by kernel_rfl) (of_decide_eq_true (by kernel_rfl)) k0 hb hlt0) trodAll_mk0), rfl, hb.frame _, fun h => by cases h⟩

theorem histOrders_holds : Rows.HistOrdersSaid :=
  OpenClaim.holds_of_wide 3 Try.f3 rfl rfl rfl rfl rfl rfl rfl ⟨rfl, rfl, rfl, rfl, rfl⟩ rfl rfl rfl rfl rfl (by kernel_rfl) Try.func3 (by kernel_rfl)
    (of_decide_eq_true (by kernel_rfl)) (by unfold Func.isWrapper; first | (rw [if_pos (by decide +kernel)]; kernel_rfl) | (rw [if_neg (by decide +kernel)]; exact ⟨rfl, rfl⟩))
    (fun os started H enc _ => histOrders_lifted os started H enc)
#print axioms histOrders_holds
end Go.Proofs.Ytlmkcakmeldfeaa
