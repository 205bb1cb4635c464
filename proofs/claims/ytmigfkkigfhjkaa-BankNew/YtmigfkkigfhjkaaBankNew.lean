/-
  For every number n: New tells a bank that has as many cells as the document says, all 0, and no access; the law BankNew answers true, and the argument reads as it did.
  Conditions: none.
-/
import Derived.Test.YtmigfkkigfhjkaaRefBank
import Derived.ProofKit
import Derived.SizedLaws
import Derived.Carry
namespace Go.Proofs.Ytmigfkkigfhjkaa
open Go.ChangeShapes Go.WideShapes Go.ChangeAt Go.RowKit
open Go.Deep

set_option maxRecDepth 100000 in
set_option maxHeartbeats 1000000 in
theorem bankNew_walk (w : World) (n : Int) (_wn : (Lit.int .i64 n).wf = true) :
    Calls Try.prog 4 #[.int .i64 n] w fun e w' => e = .returned (.bool true) ∧ Kept [] w w' := by
  by_cases h0 : 2000 < n
  · go_enter Try.func4, Try.ntmps4
    go_wp2_with fail
    refine (alive_any _).mono ?_
    rintro e w1 ⟨rfl, K1⟩
    go_wp2
    go_ret
    exact ⟨rfl, K1⟩
  · have hb : newN n ≤ 100000 := by unfold newN; split; omega; split <;> omega
    have hfd := fldC
    go_enter Try.func4, Try.ntmps4
    go_wp2_with fail
    refine (new_any n w).mono ?_
    rintro e w1 ⟨p, rfl, hp, B1, T1⟩
    go_wp2_with fail
    refine (cells_any p _ _ _ _ _ B1).mono ?_
    rintro e w2 ⟨rfl, R2, K2⟩
    have B2 := B1.kept K2 (by simp) (by simp)
    have T2 := T1.trans K2
    rw [List.length_replicate]
    generalize w1.heap.size = q at R2 ⊢
    clear B1 K2 T1
    go_wp2_with fail
    refine (rnew_any n _).mono ?_
    rintro e w3 ⟨r', rfl, _, R3, K3⟩
    have B3 := B2.kept K3 (by simp) (by simp)
    have T3 := T2.trans K3
    have Q3 := R2.kept K3 (by simp)
    clear B2 K3 T2 R2
    go_wp2_with fail
    have s3 := same_eq (some ⟨q, 0, none⟩) (some ⟨r', 0, none⟩) (List.replicate (newN n) 0) (newN n) (newN n) w3 Q3.sl R3.sl (by rw [List.length_replicate]; omega)
    rw [List.length_replicate] at s3
    refine s3.mono ?_
    rintro e w4 ⟨rfl, K4⟩
    have B4 := B3.kept K4 (by simp) (by simp)
    have T4 := T3.trans K4
    clear B3 K4 T3 R3 Q3 s3
    go_wp2_with fail
    refine (count_any p _ _ _ _ _ B4).mono ?_
    rintro e w5 ⟨rfl, rfl⟩
    go_wp2_with fail
    refine (last_any p _ _ _ _ _ B4).mono ?_
    rintro e w6 ⟨rfl, K6⟩
    have T6 := T4.trans K6
    simp only [Acc.val, Acc.zero]
    go_wp2_with fail
    refine (alive_any _).mono ?_
    rintro e w7 ⟨rfl, K7⟩
    go_wp2
    go_ret
    exact ⟨rfl, T6.trans K7⟩

theorem bankNew_own : ownKnob Try.prog.godebug = none := by kernel_rfl
theorem bankNew_laidOut : laidOutB Try.prog = true := by kernel_rfl
set_option maxRecDepth 100000 in
theorem bankNew_lifted (os : Os) (started : os.Started) (H : Type) (enc : TypeId × Value → H) :
    ReturnsInHanded {} Try.checked os 4 .any (Rows.bankNewSpec.pre6 enc Try.prog Try.f4 Rows.bankNewRow.domain false) (Rows.bankNewSpec.post enc Try.prog Try.f4 false true false false) := by
  refine returnsInHanded_of_change_sized (C := Try.checked) bankNew_own started (by kernel_rfl) Try.func4
    (ChangeSpec.witness6 (enc := enc) (C := Try.checked) false ⟨#[], #[.int .i64 0], []⟩ 8 (by kernel_rfl) (by kernel_rfl) (by kernel_rfl) (by kernel_rfl)) ?_
  intro W base args ds gs before hval0 hW _ hsz0 _
  have hsz : (DataW.weightsEach Try.prog (Try.f4.params.toList ++ Rows.bankNewSpec.plain.varTypes Try.prog) (ds ++ gs)).all (· ≤ reachBytes) = true := hsz0
  clear hsz0
  have hval : ∀ (j : Nat) t v, Try.f4.params[j]? = some t → args[j]? = some v → Value.okWide Try.prog W .any base t v := hval0
  have hW' := hW
  obtain ⟨p, q, hA0, hV, rfl, _, _⟩ := hW
  have hA : DataW.TrodAll enc Try.prog W 0 (fun _ => true) true Try.f4.params.toList args.toList ds p := hA0
  rw [Try.params4] at hA hval hsz
  clear hA0 hval0
  obtain ⟨v0, vs0, d0, ds0, p0, q0, hargs, rfl, rfl, h0, r0⟩ := trodAll_cons hA
  obtain ⟨rfl, rfl, rfl⟩ := trodAll_nil r0
  obtain rfl : args = #[v0] := by cases args; simp_all
  obtain ⟨rfl, rfl⟩ := trodVars_none hV
  have k0 := h0
  simp only [List.append_nil] at hW'
  have hlt0 : ∀ x ∈ p0, x.block < W.heap.size := fun x hx => hW'.lt x (by simp [hx])
  obtain ⟨a0, rfl, rfl, rfl, w0⟩ := open_int Try.underlying3 (hval 0 3 v0 rfl rfl) h0
  refine (bankNew_walk W a0 w0).mono fun e W' ⟨he, hg⟩ => ?_
  subst he
  have hb := hg.below (by simp)
  exact ⟨_, rfl, _, _, _, [], _, [], hW', (trodAll_cons_mk (shut_bool Try.underlying4 _) trodAll_mk0), (trodAll_cons_mk (Below.trod bankNew_laidOut (by kernel_rfl) (of_decide_eq_true (by kernel_rfl)) k0 hb hlt0) trodAll_mk0), rfl, hb.frame _, fun h => by cases h⟩

theorem bankNew_holds : Rows.BankNewSaid :=
  OpenClaim.holds_of_wide 4 Try.f4 rfl rfl rfl rfl rfl rfl rfl ⟨rfl, rfl, rfl, rfl, rfl⟩ rfl rfl rfl rfl rfl (by kernel_rfl) Try.func4 (by kernel_rfl)
    (of_decide_eq_true (by kernel_rfl)) (by unfold Func.isWrapper; first | (rw [if_pos (by decide +kernel)]; kernel_rfl) | (rw [if_neg (by decide +kernel)]; exact ⟨rfl, rfl⟩))
    (fun os started H enc _ => bankNew_lifted os started H enc)
#print axioms bankNew_holds
end Go.Proofs.Ytmigfkkigfhjkaa
