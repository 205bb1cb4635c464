/-
  For every index, generation and mark: Pack tells what the document's own answer tells, and where there is a word its parts are those that it was packed of; the law HandlePacks answers true, and the arguments read as they did.
  Conditions: the package variable of handle that the code reads starts as the program's text lays it (the card ties it to that text).
-/
import Derived.Test.YtlkmgocaiebahaaDoorLaid
namespace Go.Proofs.YtlkmgocaiebahaaDoor
open Go.ChangeShapes Go.WideShapes Go.ChangeAt Go.RowKit

theorem pack_parts (i g : Int) (m : Bool) (h : fitB i g = true) : (0 ≤ packV i g m ∧ packV i g m < 18446744073709551616) ∧ vlB (packV i g m) = true ∧ ixV (packV i g m) = i ∧ gnV (packV i g m) = g ∧ mkB (packV i g m) = m := by
  obtain ⟨i0, i1, g0, g1⟩ := fitB_true h
  unfold vlB ixV gnV mkB packV
  cases m
  · simp only [beq_iff_eq, beq_eq_false_iff_ne, Bool.false_eq_true, if_false]; omega
  · simp only [beq_iff_eq, if_true]; omega
set_option maxRecDepth 100000 in
set_option maxHeartbeats 1000000 in
theorem handlePacks_walk (a0 : Int) (w0 : (Lit.int .i64 a0).wf = true) (a1 : Int) (w1 : (Lit.int .i64 a1).wf = true) (a2 : Bool) (w : World) (hT : Tab w) :
    Calls Tryd.prog 3 #[.int .i64 a0, .int .i64 a1, .bool a2] w fun e w' => e = .returned (.bool true) ∧ Grown w w' := by
  have HI : Hid (-9223372036854775808 ≤ a0 ∧ a0 ≤ 9223372036854775807) := bounds_i64 w0
  have HG : Hid (-9223372036854775808 ≤ a1 ∧ a1 ≤ 9223372036854775807) := bounds_i64 w1
  have S0 : St w w := ⟨hT, Grown.refl w⟩
  clear w0 w1
  cases hf : fitB a0 a1
  · have HF : Hid _ := hf
    clear hf
    go_enter Tryd.func3, Tryd.ntmps3
    go_wp2_with fail
    refine (pack_no a0 a1 a2 w _ S0 HF.out HI.out HG.out).mono ?_
    rintro e w1 ⟨rfl, S1⟩
    go_wp2_with fail
    refine (rpack_no a0 a1 a2 w _ S1 HF.out).mono ?_
    rintro e w2 ⟨rfl, S2⟩
    go_wp2_with fail
    refine (alive_any w _ S2).mono ?_
    rintro e w3 ⟨rfl, S3⟩
    go_wp2
    go_ret
    exact ⟨rfl, S3.2⟩
  · obtain ⟨⟨b0, b1⟩, e1, e2, e3, e4⟩ := pack_parts a0 a1 a2 hf
    have HF : Hid _ := hf
    clear hf
    go_enter Tryd.func3, Tryd.ntmps3
    go_wp2_with fail
    refine (pack_yes a0 a1 a2 w _ S0 HF.out).mono ?_
    rintro e w1 ⟨rfl, S1⟩
    go_wp2_with fail
    refine (rpack_yes a0 a1 a2 w _ S1 HF.out).mono ?_
    rintro e w2 ⟨rfl, S2⟩
    generalize packV a0 a1 a2 = X at b0 b1 e1 e2 e3 e4 ⊢
    go_wp2_with fail
    refine (alive_any w _ S2).mono ?_
    rintro e w3 ⟨rfl, S3⟩
    go_wp2_with fail
    refine (valid_any X w _ S3 b0 b1).mono ?_
    rintro e w4 ⟨rfl, S4⟩
    go_wp2_with fail
    refine (index_any X w _ S4 b0 b1).mono ?_
    rintro e w5 ⟨rfl, S5⟩
    go_wp2_with fail
    refine (gen_any X w _ S5 b0 b1).mono ?_
    rintro e w6 ⟨rfl, S6⟩
    go_wp2_with fail
    refine (marked_any X w _ S6 b0 b1).mono ?_
    rintro e w7 ⟨rfl, S7⟩
    go_wp2
    go_ret
    exact ⟨rfl, S7.2⟩

set_option maxRecDepth 100000 in
theorem handlePacks_lifted (os : Os) (started : os.Started) (H : Type) (enc : TypeId × Value → H) :
    ReturnsInHanded {} Tryd.checked os 3 .any (fun w args => (Rows.handlePacksSpec.pre enc Tryd.prog Tryd.f3 [] false w args ∧ laidMetH Tryd.prog laid1 w) ∧ sizedMet enc Tryd.prog Tryd.f3 (OpenSpec.ofChange Rows.handlePacksSpec) false w args)
      (Rows.handlePacksSpec.post enc Tryd.prog Tryd.f3 false true false false) := by
  refine returnsInHanded_of_change_and (C := Tryd.checked) (X := fun w _ => laidMetH Tryd.prog laid1 w) (fun _ _ _ hh h => h.of_heap hh) own started (by kernel_rfl) Tryd.func3
    (ChangeSpec.witness_shaped (enc := enc) (C := Tryd.checked) (os := os) (X := fun w _ => laidMetH Tryd.prog laid1 w) false (World.doorLaid Tryd.prog 400 os) #[.int .i64 0, .int .i64 0, .bool false] 8 rfl (World.shaped_of_RefB (by kernel_rfl) (by kernel_rfl)) (by kernel_rfl) (by kernel_rfl) (by kernel_rfl) (door_met os _)) ?_
  intro W base args ds gs before hval0 hW _ _ hL _
  have hval : ∀ (j : Nat) t v, Tryd.f3.params[j]? = some t → args[j]? = some v → Value.okWide Tryd.prog W .any base t v := hval0
  have hW' := hW
  obtain ⟨p, q, hA0, hV, rfl, hfz, hnd⟩ := hW
  have hA : DataW.TrodAll enc Tryd.prog W 0 (fun _ => true) true Tryd.f3.params.toList args.toList ds p := hA0
  rw [Tryd.params3] at hA hval
  obtain ⟨v0, vs0, d0, ds0, p0, q0, hargs, rfl, rfl, h0, r0⟩ := trodAll_cons hA
  obtain ⟨v1, vs1, d1, ds1, p1, q1, rfl, rfl, rfl, h1, r1⟩ := trodAll_cons r0
  obtain ⟨v2, vs2, d2, ds2, p2, q2, rfl, rfl, rfl, h2, r2⟩ := trodAll_cons r1
  obtain ⟨rfl, rfl, rfl⟩ := trodAll_nil r2
  obtain rfl : args = #[v0, v1, v2] := by cases args; simp_all
  obtain ⟨rfl, rfl⟩ := trodVars_none hV
  obtain ⟨a0, rfl, rfl, rfl, w0⟩ := open_int Tryd.underlying3 (hval 0 3 v0 rfl rfl) h0
  obtain ⟨a1, rfl, rfl, rfl, w1⟩ := open_int Tryd.underlying3 (hval 1 3 v1 rfl rfl) h1
  obtain ⟨a2, rfl, rfl, rfl⟩ := open_bool Tryd.underlying4 (hval 2 4 v2 rfl rfl) h2
  clear hA0 hval0
  simp only [List.append_nil] at hW'
  refine (handlePacks_walk a0 w0 a1 w1 a2 W (tab_of_laid hL)).mono fun e W' ⟨he, hg⟩ => ?_
  subst he
  exact ⟨_, rfl, post_of_same (pa := []) (pv := []) hW' (fun _ _ _ => (trodAll_cons_mk (shut_bool Tryd.underlying4 _) trodAll_mk0)) (fun sp _ => (trodAll_cons_mk (shut_int Tryd.underlying3 w0) (trodAll_cons_mk (shut_int Tryd.underlying3 w1) (trodAll_cons_mk (shut_bool Tryd.underlying4 a2) trodAll_mk0)))) (fun _ _ => rfl) rfl
    (hg.frame _) hg.2.1 (ok_one (by kernel_rfl) rfl (okWide_bool_mk Tryd.underlying4 _))⟩

theorem handlePacks_over : Rows.HandlePacksSaid :=
  OpenClaim.holds_of_wide 3 Tryd.f3 rfl rfl rfl rfl rfl rfl rfl ⟨rfl, rfl, rfl, rfl, rfl⟩ rfl rfl rfl rfl rfl (by kernel_rfl) Tryd.func3 (by kernel_rfl)
    (of_decide_eq_true (by kernel_rfl)) (by unfold Func.isWrapper; first | (rw [if_pos (by decide +kernel)]; kernel_rfl) | (rw [if_neg (by decide +kernel)]; exact ⟨rfl, rfl⟩))
    (fun os started H enc _ => handlePacks_lifted os started H enc)

theorem handlePacks_holds : Rows.HandlePacksCardSaid :=
  Claim7.holds_tied_plain_at .later [] [.data] true (true, "b36f92fb2381185dfda4eae340e506bb6ca2c37e8e84eb18718242d8dcd49757") false
    handlePacks_over (fun _ h => by cases h) (by kernel_rfl) (fun _ h => by cases h) handlePacks_row_tie rfl ⟨rfl, rfl⟩ (by kernel_rfl) rfl
    (fun f fn hf hfn => by
      obtain rfl : f = 3 := Option.some.inj ((show Tryd.prog.funcNamed "stepstone/stepstonelaw01.HandlePacks" = some 3 by kernel_rfl).symm.trans hf) |>.symm
      obtain rfl : fn = Tryd.f3 := (Option.some.inj (Tryd.func3.symm.trans hfn)).symm
      exact ⟨by kernel_rfl, fun j t ht => by
          rw [Tryd.params3] at ht
          rcases j with _ | j
          · have : t = 3 := by simpa using ht.symm
            subst this; exact (show Tryd.prog.wantsStandIn 3 = false by kernel_rfl)
          rcases j with _ | j
          · have : t = 3 := by simpa using ht.symm
            subst this; exact (show Tryd.prog.wantsStandIn 3 = false by kernel_rfl)
          rcases j with _ | j
          · have : t = 4 := by simpa using ht.symm
            subst this; exact (show Tryd.prog.wantsStandIn 4 = false by kernel_rfl)
          simp at ht⟩)
    (by kernel_rfl)
#print axioms handlePacks_holds
end Go.Proofs.YtlkmgocaiebahaaDoor
