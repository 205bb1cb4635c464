/-
  For every word w: a mark changes no other part, and marked, or not, once more is the same; the law HandleMarks answers true, and the word reads as it did.
  Conditions: the package variable of handle that the code reads starts as the program's text lays it (the card ties it to that text).
-/
import Derived.Test.YtlkmgocaiebahaaDoorLaid
namespace Go.Proofs.YtlkmgocaiebahaaDoor
open Go.ChangeShapes Go.WideShapes Go.ChangeAt Go.RowKit

theorem mark_parts (x : Int) (h0 : 0 ≤ x) (h1 : x < 18446744073709551616) : (0 ≤ markV x ∧ markV x < 18446744073709551616) ∧ (0 ≤ plainV x ∧ plainV x < 18446744073709551616) ∧ mkB (markV x) = true ∧ mkB (plainV x) = false ∧ markV (markV x) = markV x ∧ plainV (plainV x) = plainV x ∧ plainV (markV x) = plainV x ∧ markV (plainV x) = markV x ∧ ixV (markV x) = ixV (plainV x) ∧ gnV (markV x) = gnV (plainV x) ∧ vlB (markV x) = vlB (plainV x) := by
  unfold markV plainV mkB ixV gnV vlB
  refine ⟨by omega, by omega, ?_, ?_, by omega, by omega, by omega, by omega, by omega, by omega, ?_⟩
  · rw [beq_iff_eq]; omega
  · rw [beq_eq_false_iff_ne]; omega
  · rw [Bool.eq_iff_iff]; simp only [beq_iff_eq]; omega
theorem mark_or (x : Int) : ((x == markV x) = true) ∨ (x == markV x) = false ∧ (x == plainV x) = true := by
  unfold markV plainV
  simp only [beq_iff_eq, beq_eq_false_iff_ne]; omega
set_option maxRecDepth 100000 in
set_option maxHeartbeats 1000000 in
theorem handleMarks_walk (a0 : Int) (w0 : (Lit.int .u64 a0).wf = true) (w : World) (hT : Tab w) :
    Calls Tryd.prog 6 #[.int .u64 a0] w fun e w' => e = .returned (.bool true) ∧ Grown w w' := by
  obtain ⟨h0, h1'⟩ := bounds_u64 w0
  have h1 : a0 < 18446744073709551616 := by omega
  clear h1' w0
  have S0 : St w w := ⟨hT, Grown.refl w⟩
  obtain ⟨⟨m0, m1⟩, ⟨p0, p1⟩, e1, e2, e3, e4, e5, e6, e7, e8, e9⟩ := mark_parts a0 h0 h1
  have HO : Hid _ := mark_or a0
  go_enter Tryd.func6, Tryd.ntmps6
  go_wp2_with fail
  refine (mark_any a0 w _ S0 h0 h1).mono ?_
  rintro e w1 ⟨rfl, S1⟩
  go_wp2_with fail
  refine (plain_any a0 w _ S1 h0 h1).mono ?_
  rintro e w2 ⟨rfl, S2⟩
  generalize markV a0 = M at m0 m1 e1 e2 e3 e4 e5 e6 e7 e8 e9 HO ⊢
  generalize plainV a0 = P at p0 p1 e1 e2 e3 e4 e5 e6 e7 e8 e9 HO ⊢
  go_wp2_with fail
  refine (alive_any w _ S2).mono ?_
  rintro e w3 ⟨rfl, S3⟩
  go_wp2_with fail
  refine (marked_any M w _ S3 m0 m1).mono ?_
  rintro e w4 ⟨rfl, S4⟩
  go_wp2_with fail
  refine (marked_any P w _ S4 p0 p1).mono ?_
  rintro e w5 ⟨rfl, S5⟩
  go_wp2_with fail
  refine (mark_any M w _ S5 m0 m1).mono ?_
  rintro e w6 ⟨rfl, S6⟩
  go_wp2_with fail
  refine (plain_any P w _ S6 p0 p1).mono ?_
  rintro e w7 ⟨rfl, S7⟩
  go_wp2_with fail
  refine (plain_any M w _ S7 m0 m1).mono ?_
  rintro e w8 ⟨rfl, S8⟩
  go_wp2_with fail
  refine (mark_any P w _ S8 p0 p1).mono ?_
  rintro e w9 ⟨rfl, S9⟩
  go_wp2_with fail
  refine (index_any M w _ S9 m0 m1).mono ?_
  rintro e w10 ⟨rfl, S10⟩
  go_wp2_with fail
  refine (index_any P w _ S10 p0 p1).mono ?_
  rintro e w11 ⟨rfl, S11⟩
  go_wp2_with fail
  refine (gen_any M w _ S11 m0 m1).mono ?_
  rintro e w12 ⟨rfl, S12⟩
  go_wp2_with fail
  refine (gen_any P w _ S12 p0 p1).mono ?_
  rintro e w13 ⟨rfl, S13⟩
  go_wp2_with fail
  refine (valid_any M w _ S13 m0 m1).mono ?_
  rintro e w14 ⟨rfl, S14⟩
  go_wp2_with fail
  refine (valid_any P w _ S14 p0 p1).mono ?_
  rintro e w15 ⟨rfl, S15⟩
  rcases HO.out with o | ⟨o1, o2⟩
  · go_wp2
    go_ret
    exact ⟨rfl, S15.2⟩
  · go_wp2
    go_ret
    exact ⟨rfl, S15.2⟩

set_option maxRecDepth 100000 in
theorem handleMarks_lifted (os : Os) (started : os.Started) (H : Type) (enc : TypeId × Value → H) :
    ReturnsInHanded {} Tryd.checked os 6 .any (fun w args => (Rows.handleMarksSpec.pre enc Tryd.prog Tryd.f6 [] false w args ∧ laidMetH Tryd.prog laid1 w) ∧ sizedMet enc Tryd.prog Tryd.f6 (OpenSpec.ofChange Rows.handleMarksSpec) false w args)
      (Rows.handleMarksSpec.post enc Tryd.prog Tryd.f6 false true false false) := by
  refine returnsInHanded_of_change_and (C := Tryd.checked) (X := fun w _ => laidMetH Tryd.prog laid1 w) (fun _ _ _ hh h => h.of_heap hh) own started (by kernel_rfl) Tryd.func6
    (ChangeSpec.witness_shaped (enc := enc) (C := Tryd.checked) (os := os) (X := fun w _ => laidMetH Tryd.prog laid1 w) false (World.doorLaid Tryd.prog 400 os) #[.int .u64 0] 8 rfl (World.shaped_of_RefB (by kernel_rfl) (by kernel_rfl)) (by kernel_rfl) (by kernel_rfl) (by kernel_rfl) (door_met os _)) ?_
  intro W base args ds gs before hval0 hW _ _ hL _
  have hval : ∀ (j : Nat) t v, Tryd.f6.params[j]? = some t → args[j]? = some v → Value.okWide Tryd.prog W .any base t v := hval0
  have hW' := hW
  obtain ⟨p, q, hA0, hV, rfl, hfz, hnd⟩ := hW
  have hA : DataW.TrodAll enc Tryd.prog W 0 (fun _ => true) true Tryd.f6.params.toList args.toList ds p := hA0
  rw [Tryd.params6] at hA hval
  obtain ⟨v0, vs0, d0, ds0, p0, q0, hargs, rfl, rfl, h0, r0⟩ := trodAll_cons hA
  obtain ⟨rfl, rfl, rfl⟩ := trodAll_nil r0
  obtain rfl : args = #[v0] := by cases args; simp_all
  obtain ⟨rfl, rfl⟩ := trodVars_none hV
  obtain ⟨a0, rfl, rfl, rfl, w0⟩ := open_int Tryd.underlying22 (hval 0 22 v0 rfl rfl) h0
  clear hA0 hval0
  simp only [List.append_nil] at hW'
  refine (handleMarks_walk a0 w0 W (tab_of_laid hL)).mono fun e W' ⟨he, hg⟩ => ?_
  subst he
  exact ⟨_, rfl, post_of_same (pa := []) (pv := []) hW' (fun _ _ _ => (trodAll_cons_mk (shut_bool Tryd.underlying4 _) trodAll_mk0)) (fun sp _ => (trodAll_cons_mk (shut_int Tryd.underlying22 w0) trodAll_mk0)) (fun _ _ => rfl) rfl
    (hg.frame _) hg.2.1 (ok_one (by kernel_rfl) rfl (okWide_bool_mk Tryd.underlying4 _))⟩

theorem handleMarks_over : Rows.HandleMarksSaid :=
  OpenClaim.holds_of_wide 6 Tryd.f6 rfl rfl rfl rfl rfl rfl rfl ⟨rfl, rfl, rfl, rfl, rfl⟩ rfl rfl rfl rfl rfl (by kernel_rfl) Tryd.func6 (by kernel_rfl)
    (of_decide_eq_true (by kernel_rfl)) (by unfold Func.isWrapper; first | (rw [if_pos (by decide +kernel)]; kernel_rfl) | (rw [if_neg (by decide +kernel)]; exact ⟨rfl, rfl⟩))
    (fun os started H enc _ => handleMarks_lifted os started H enc)

theorem handleMarks_holds : Rows.HandleMarksCardSaid :=
  Claim7.holds_tied_plain_at .later [] [.data] true (true, "b36f92fb2381185dfda4eae340e506bb6ca2c37e8e84eb18718242d8dcd49757") false
    handleMarks_over (fun _ h => by cases h) (by kernel_rfl) (fun _ h => by cases h) handleMarks_row_tie rfl ⟨rfl, rfl⟩ (by kernel_rfl) rfl
    (fun f fn hf hfn => by
      obtain rfl : f = 6 := Option.some.inj ((show Tryd.prog.funcNamed "stepstone/stepstonelaw01.HandleMarks" = some 6 by kernel_rfl).symm.trans hf) |>.symm
      obtain rfl : fn = Tryd.f6 := (Option.some.inj (Tryd.func6.symm.trans hfn)).symm
      exact ⟨by kernel_rfl, fun j t ht => by
          rw [Tryd.params6] at ht
          rcases j with _ | j
          · have : t = 22 := by simpa using ht.symm
            subst this; exact (show Tryd.prog.wantsStandIn 22 = false by kernel_rfl)
          simp at ht⟩)
    (by kernel_rfl)
#print axioms handleMarks_holds
end Go.Proofs.YtlkmgocaiebahaaDoor
