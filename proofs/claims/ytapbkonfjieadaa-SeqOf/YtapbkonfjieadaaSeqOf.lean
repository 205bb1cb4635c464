/-
  SeqOf: the map with any pairs is what the document says, for every input.
  Conditions: none.
-/
import Derived.Test.YtapbkonfjieadaaQLaw
import Derived.ProofKit
import Derived.SizedLaws
import Derived.Carry
namespace Go.Proofs.Ytapbkonfjieadaa
open Go.ChangeShapes Go.WideShapes Go.ChangeAt Go.RowKit
open Go.Deep

open Q
set_option maxRecDepth 100000 in
set_option maxHeartbeats 4000000 in
theorem seqOf_walk (w : World) (ao : Option Addr) (es : List Pr) (cap : Nat) (hs : SlP w ao es) (_hg : ∀ x ∈ es, x.k ≤ 18446744073709551615) (_hc : ao = none → cap = 0) :
    Calls Try.prog 3 #[.slice ao es.length cap] w fun o w' => o = .returned (.bool true) ∧ Kept [] w w' := by
  obtain ⟨n, hn⟩ : ∃ n, n = es.length := ⟨_, rfl⟩
  rw [← hn]
  have HN : Hid (n = es.length) := hn
  clear hn
  by_cases c : n ≤ 100
  · have c1 : ¬ (100 : Int) < (n : Int) := by omega
    have LM := mapOf_len es
    rw [← HN.out] at LM
    have MS := mapOf_self (mapOf_str es)
    obtain ⟨ms, hms⟩ : ∃ ms, ms = mapOf es := ⟨_, rfl⟩
    rw [← hms] at LM MS
    have EM : Hid (mapOf es = ms) := hms.symm
    have ES : Hid (mapOf ms = ms) := MS
    clear hms MS
    have HS : Hid (SlP w ao es) := hs
    clear hs
    go_enter Try.func3, Try.ntmps3
    go_wp2_with fail
    refine (news_any ao es n cap w HN.out HS.out (by omega)).mono ?_
    rintro o w1 ⟨nb, nc, rfl, M1, K1⟩
    have T1 := K1
    go_wp2_with fail
    refine (of_any nb es n nc w1 M1.1 M1.2.1 M1.2.2.2 (by omega)).mono ?_
    rintro o w2 ⟨mo, mm, mc, rfl, M2, K2⟩
    rw [EM.out] at M2
    have T2 := T1.trans K2
    clear K1 K2 M1 T1
    have hmm : mm ≤ 100 := by have := M2.1; omega
    have Z0 := blk_alloc_new w2 (.cells #[.slice mo mm mc] 26)
    have KA : Kept [] w2 (w2.alloc (.cells #[.slice mo mm mc] 26)) := (Kept.refl _ _).alloc _
    go_upto_region 4 with (fail)
    obtain ⟨B, hB⟩ : ∃ B, B = w2.heap.size := ⟨_, rfl⟩
    rw [← hB] at Z0 ⊢
    refine gen_world (fun W => W.heap[B]? = some (.cells #[.slice mo mm mc] 26 (0, 0)) ∧ Hid (MpV W mo mm mc ms) ∧ Kept [] w W) ⟨Z0, M2.new KA, T2.trans KA⟩ ?_
    clear Z0 KA T2 M2 hB
    rintro W ⟨Z, M, T⟩
    go_wp2_with fail
    refine (alive_any _).mono ?_
    rintro o w3 ⟨rfl, K3⟩
    have q3 := cell_of_blk (K3.blk Z (by simp)) (i := 0) rfl
    go_wp2_with fail
    refine (pairs_any mo ms mm mc w3 (MpV.new M.out K3) (by omega)).mono ?_
    rintro o w4 ⟨pb, pc, rfl, M4, K4⟩
    go_wp2_with fail
    refine (olds_any pb ms mm pc w4 M4.1 M4.2.1 (by omega)).mono ?_
    rintro o w5 ⟨ob, oc, rfl, M5, K5⟩
    have T5 := ((T.trans K3).trans K4).trans K5
    go_wp2_with fail
    refine (rof_any ao es n cap w5 HN.out (HS.out.new T5) (by omega)).mono ?_
    rintro o w6 ⟨rb, rm, rc, rfl, M6, K6⟩
    rw [EM.out] at M6
    have er : rm = mm := M6.1.trans M5.1.symm
    subst er
    go_wp2_with fail
    refine (requal_any ob rb ms rm oc rc w6 M6.1 (M5.2.1.new K6) M6.2.1 (by omega)).mono ?_
    rintro o w7 ⟨rfl, K7⟩
    have T7 := (T5.trans K6).trans K7
    have S7 : Kept [] W w7 := (((K3.trans K4).trans K5).trans K6).trans K7
    clear q3 K3 K4 K5 K6 K7 M4 M5 M6 T5
    have q7 := cell_of_blk (S7.blk Z (by simp)) (i := 0) rfl
    go_wp2_with fail
    refine (pairs_any mo ms rm mc w7 (MpV.new M.out S7) (by omega)).mono ?_
    rintro o w8 ⟨pb2, pc2, rfl, M8, K8⟩
    go_wp2_with fail
    refine (of_any pb2 ms rm pc2 w8 M8.1 M8.2.1 M8.2.2.2 (by omega)).mono ?_
    rintro o w9 ⟨mo2, mm2, mc2, rfl, M9, K9⟩
    rw [ES.out] at M9
    have er : mm2 = rm := M9.1.trans M8.1.symm
    subst er
    go_wp2_with fail
    refine (pairs_any mo2 ms mm2 mc2 w9 M9 (by omega)).mono ?_
    rintro o w10 ⟨pb3, pc3, rfl, M10, K10⟩
    go_wp2_with fail
    refine (olds_any pb3 ms mm2 pc3 w10 M10.1 M10.2.1 (by omega)).mono ?_
    rintro o w11 ⟨ob2, oc2, rfl, M11, K11⟩
    have T11 := (((T7.trans K8).trans K9).trans K10).trans K11
    go_wp2_with fail
    refine (rof_any ao es n cap w11 HN.out (HS.out.new T11) (by omega)).mono ?_
    rintro o w12 ⟨rb2, rm2, rc2, rfl, M12, K12⟩
    rw [EM.out] at M12
    have er : rm2 = mm2 := M12.1.trans M11.1.symm
    subst er
    go_wp2_with fail
    refine (requal_any ob2 rb2 ms rm2 oc2 rc2 w12 M12.1 (M11.2.1.new K12) M12.2.1 (by omega)).mono ?_
    rintro o w13 ⟨rfl, K13⟩
    go_wp2
    go_ret
    exact ⟨rfl, (T11.trans K12).trans K13⟩
  · have c1 : (100 : Int) < (n : Int) := by omega
    go_enter Try.func3, Try.ntmps3
    go_wp2_with fail
    refine (alive_any _).mono ?_
    rintro o w1 ⟨rfl, K1⟩
    go_wp2
    go_ret
    exact ⟨rfl, K1⟩

theorem seqOf_own : ownKnob Try.prog.godebug = none := by kernel_rfl
theorem seqOf_laidOut : laidOutB Try.prog = true := by kernel_rfl
set_option maxRecDepth 100000 in
theorem seqOf_lifted (os : Os) (started : os.Started) (H : Type) (enc : TypeId × Value → H) :
    ReturnsInHanded {} Try.checked os 3 .any (Rows.seqOfSpec.pre6 enc Try.prog Try.f3 Rows.seqOfRow.domain false) (Rows.seqOfSpec.post enc Try.prog Try.f3 false true false false) := by
  refine returnsInHanded_of_change_sized (C := Try.checked) seqOf_own started (by kernel_rfl) Try.func3
    (ChangeSpec.witness6 (enc := enc) (C := Try.checked) false ⟨#[], #[.slice none 0 0], []⟩ 8 (by kernel_rfl) (by kernel_rfl) (by kernel_rfl) (by kernel_rfl)) ?_
  intro W base args ds gs before hval0 hW _ hsz0 _
  have hsz : (DataW.weightsEach Try.prog (Try.f3.params.toList ++ Rows.seqOfSpec.plain.varTypes Try.prog) (ds ++ gs)).all (· ≤ reachBytes) = true := hsz0
  clear hsz0
  have hval : ∀ (j : Nat) t v, Try.f3.params[j]? = some t → args[j]? = some v → Value.okWide Try.prog W .any base t v := hval0
  have hW' := hW
  obtain ⟨p, q, hA0, hV, rfl, _, _⟩ := hW
  have hA : DataW.TrodAll enc Try.prog W 0 (fun _ => true) true Try.f3.params.toList args.toList ds p := hA0
  rw [Try.params3] at hA hval hsz
  clear hA0 hval0
  obtain ⟨v0, vs0, d0, ds0, p0, q0, hargs, rfl, rfl, h0, r0⟩ := trodAll_cons hA
  obtain ⟨rfl, rfl, rfl⟩ := trodAll_nil r0
  obtain rfl : args = #[v0] := by cases args; simp_all
  obtain ⟨rfl, rfl⟩ := trodVars_none hV
  have k0 := h0
  simp only [List.append_nil] at hW'
  have hlt0 : ∀ x ∈ p0, x.block < W.heap.size := fun x hx => hW'.lt x (by simp [hx])
  obtain ⟨ao0, cap0, es0, rfl, s0, g0, c0⟩ := Q.open_pairs (hval 0 22 v0 rfl rfl) h0
  refine (seqOf_walk W ao0 es0 cap0 s0 g0 c0).mono fun e W' ⟨he, hg⟩ => ?_
  subst he
  have hb := hg.below (by simp)
  exact ⟨_, rfl, _, _, _, [], _, [], hW', (trodAll_cons_mk (shut_bool Try.underlying4 _) trodAll_mk0), (trodAll_cons_mk (Below.trod seqOf_laidOut (by kernel_rfl) (of_decide_eq_true (by kernel_rfl)) k0 hb hlt0) trodAll_mk0), rfl, hb.frame _, fun h => by cases h⟩

theorem seqOf_holds : Rows.SeqOfSaid :=
  OpenClaim.holds_of_wide 3 Try.f3 rfl rfl rfl rfl rfl rfl rfl ⟨rfl, rfl, rfl, rfl, rfl⟩ rfl rfl rfl rfl rfl (by kernel_rfl) Try.func3 (by kernel_rfl)
    (of_decide_eq_true (by kernel_rfl)) (by unfold Func.isWrapper; first | (rw [if_pos (by decide +kernel)]; kernel_rfl) | (rw [if_neg (by decide +kernel)]; exact ⟨rfl, rfl⟩))
    (fun os started H enc _ => seqOf_lifted os started H enc)
#print axioms seqOf_holds
end Go.Proofs.Ytapbkonfjieadaa
