/-
  For every two words: they are the same just if all their parts are; the law HandleWhole answers true, and the words read as they did.
  Conditions: the package variable of handle that the code reads starts as the program's text lays it (the card ties it to that text).
-/
import Derived.Test.YtlkmgocaiebahaaDoorLaid
namespace Go.Proofs.YtlkmgocaiebahaaDoor
open Go.ChangeShapes Go.WideShapes Go.ChangeAt Go.RowKit

theorem whole_eq (x y : Int) (h0 : 0 ≤ x) (h1 : x < 18446744073709551616) (k0 : 0 ≤ y) (k1 : y < 18446744073709551616) :
    (ixV x == ixV y && gnV x == gnV y && mkB x == mkB y && vlB x == vlB y) = (x == y) := by
  unfold ixV gnV mkB vlB
  rw [Bool.eq_iff_iff]
  simp only [Bool.and_eq_true, beq_iff_eq]
  constructor
  · rintro ⟨⟨⟨a, b⟩, c⟩, d⟩
    rw [Bool.eq_iff_iff] at c d
    simp only [beq_iff_eq] at c d
    omega
  · rintro rfl; simp
set_option maxRecDepth 100000 in
set_option maxHeartbeats 1000000 in
theorem handleWhole_walk (a0 : Int) (w0 : (Lit.int .u64 a0).wf = true) (a1 : Int) (w1 : (Lit.int .u64 a1).wf = true) (w : World) (hT : Tab w) :
    Calls Tryd.prog 8 #[.int .u64 a0, .int .u64 a1] w fun e w' => e = .returned (.bool true) ∧ Grown w w' := by
  obtain ⟨h0, h1'⟩ := bounds_u64 w0
  have h1 : a0 < 18446744073709551616 := by omega
  clear h1' w0
  have S0 : St w w := ⟨hT, Grown.refl w⟩
  obtain ⟨k0, k1'⟩ := bounds_u64 w1
  have k1 : a1 < 18446744073709551616 := by omega
  clear k1' w1
  have HW := whole_eq a0 a1 h0 h1 k0 k1
  cases q1 : (ixV a0 == ixV a1)
  · have e : (a0 == a1) = false := by rw [← HW, q1]; simp
    clear HW
    go_enter Tryd.func8, Tryd.ntmps8
    go_wp2_with fail
    refine (index_any a0 w _ S0 h0 h1).mono ?_
    rintro e w1 ⟨rfl, S1⟩
    go_wp2_with fail
    refine (index_any a1 w _ S1 k0 k1).mono ?_
    rintro e w2 ⟨rfl, S2⟩
    go_wp2_with fail
    refine (alive_any w _ S2).mono ?_
    rintro e w3 ⟨rfl, S3⟩
    go_wp2
    go_ret
    exact ⟨rfl, S3.2⟩
  cases q2 : (gnV a0 == gnV a1)
  · have e : (a0 == a1) = false := by rw [← HW, q2]; simp
    clear HW
    go_enter Tryd.func8, Tryd.ntmps8
    go_wp2_with fail
    refine (index_any a0 w _ S0 h0 h1).mono ?_
    rintro e w1 ⟨rfl, S1⟩
    go_wp2_with fail
    refine (index_any a1 w _ S1 k0 k1).mono ?_
    rintro e w2 ⟨rfl, S2⟩
    go_wp2_with fail
    refine (gen_any a0 w _ S2 h0 h1).mono ?_
    rintro e w3 ⟨rfl, S3⟩
    go_wp2_with fail
    refine (gen_any a1 w _ S3 k0 k1).mono ?_
    rintro e w4 ⟨rfl, S4⟩
    go_wp2_with fail
    refine (alive_any w _ S4).mono ?_
    rintro e w5 ⟨rfl, S5⟩
    go_wp2
    go_ret
    exact ⟨rfl, S5.2⟩
  cases q3 : (mkB a0 == mkB a1)
  · have e : (a0 == a1) = false := by rw [← HW, q3]; simp
    clear HW
    go_enter Tryd.func8, Tryd.ntmps8
    go_wp2_with fail
    refine (index_any a0 w _ S0 h0 h1).mono ?_
    rintro e w1 ⟨rfl, S1⟩
    go_wp2_with fail
    refine (index_any a1 w _ S1 k0 k1).mono ?_
    rintro e w2 ⟨rfl, S2⟩
    go_wp2_with fail
    refine (gen_any a0 w _ S2 h0 h1).mono ?_
    rintro e w3 ⟨rfl, S3⟩
    go_wp2_with fail
    refine (gen_any a1 w _ S3 k0 k1).mono ?_
    rintro e w4 ⟨rfl, S4⟩
    go_wp2_with fail
    refine (marked_any a0 w _ S4 h0 h1).mono ?_
    rintro e w5 ⟨rfl, S5⟩
    go_wp2_with fail
    refine (marked_any a1 w _ S5 k0 k1).mono ?_
    rintro e w6 ⟨rfl, S6⟩
    go_wp2_with fail
    refine (alive_any w _ S6).mono ?_
    rintro e w7 ⟨rfl, S7⟩
    go_wp2
    go_ret
    exact ⟨rfl, S7.2⟩
  cases q4 : (vlB a0 == vlB a1)
  · have e : (a0 == a1) = false := by rw [← HW, q4]; simp
    clear HW
    go_enter Tryd.func8, Tryd.ntmps8
    go_wp2_with fail
    refine (index_any a0 w _ S0 h0 h1).mono ?_
    rintro e w1 ⟨rfl, S1⟩
    go_wp2_with fail
    refine (index_any a1 w _ S1 k0 k1).mono ?_
    rintro e w2 ⟨rfl, S2⟩
    go_wp2_with fail
    refine (gen_any a0 w _ S2 h0 h1).mono ?_
    rintro e w3 ⟨rfl, S3⟩
    go_wp2_with fail
    refine (gen_any a1 w _ S3 k0 k1).mono ?_
    rintro e w4 ⟨rfl, S4⟩
    go_wp2_with fail
    refine (marked_any a0 w _ S4 h0 h1).mono ?_
    rintro e w5 ⟨rfl, S5⟩
    go_wp2_with fail
    refine (marked_any a1 w _ S5 k0 k1).mono ?_
    rintro e w6 ⟨rfl, S6⟩
    go_wp2_with fail
    refine (valid_any a0 w _ S6 h0 h1).mono ?_
    rintro e w7 ⟨rfl, S7⟩
    go_wp2_with fail
    refine (valid_any a1 w _ S7 k0 k1).mono ?_
    rintro e w8 ⟨rfl, S8⟩
    go_wp2_with fail
    refine (alive_any w _ S8).mono ?_
    rintro e w9 ⟨rfl, S9⟩
    go_wp2
    go_ret
    exact ⟨rfl, S9.2⟩
  · have e : (a0 == a1) = true := by rw [← HW, q1, q2, q3, q4]; rfl
    clear HW
    go_enter Tryd.func8, Tryd.ntmps8
    go_wp2_with fail
    refine (index_any a0 w _ S0 h0 h1).mono ?_
    rintro e w1 ⟨rfl, S1⟩
    go_wp2_with fail
    refine (index_any a1 w _ S1 k0 k1).mono ?_
    rintro e w2 ⟨rfl, S2⟩
    go_wp2_with fail
    refine (gen_any a0 w _ S2 h0 h1).mono ?_
    rintro e w3 ⟨rfl, S3⟩
    go_wp2_with fail
    refine (gen_any a1 w _ S3 k0 k1).mono ?_
    rintro e w4 ⟨rfl, S4⟩
    go_wp2_with fail
    refine (marked_any a0 w _ S4 h0 h1).mono ?_
    rintro e w5 ⟨rfl, S5⟩
    go_wp2_with fail
    refine (marked_any a1 w _ S5 k0 k1).mono ?_
    rintro e w6 ⟨rfl, S6⟩
    go_wp2_with fail
    refine (valid_any a0 w _ S6 h0 h1).mono ?_
    rintro e w7 ⟨rfl, S7⟩
    go_wp2_with fail
    refine (valid_any a1 w _ S7 k0 k1).mono ?_
    rintro e w8 ⟨rfl, S8⟩
    go_wp2_with fail
    refine (alive_any w _ S8).mono ?_
    rintro e w9 ⟨rfl, S9⟩
    go_wp2
    go_ret
    exact ⟨rfl, S9.2⟩

set_option maxRecDepth 100000 in
theorem handleWhole_lifted (os : Os) (started : os.Started) (H : Type) (enc : TypeId × Value → H) :
    ReturnsInHanded {} Tryd.checked os 8 .any (fun w args => (Rows.handleWholeSpec.pre enc Tryd.prog Tryd.f8 [] false w args ∧ laidMetH Tryd.prog laid1 w) ∧ sizedMet enc Tryd.prog Tryd.f8 (OpenSpec.ofChange Rows.handleWholeSpec) false w args)
      (Rows.handleWholeSpec.post enc Tryd.prog Tryd.f8 false true false false) := by
  refine returnsInHanded_of_change_and (C := Tryd.checked) (X := fun w _ => laidMetH Tryd.prog laid1 w) (fun _ _ _ hh h => h.of_heap hh) own started (by kernel_rfl) Tryd.func8
    (ChangeSpec.witness_shaped (enc := enc) (C := Tryd.checked) (os := os) (X := fun w _ => laidMetH Tryd.prog laid1 w) false (World.doorLaid Tryd.prog 400 os) #[.int .u64 0, .int .u64 0] 8 rfl (World.shaped_of_RefB (by kernel_rfl) (by kernel_rfl)) (by kernel_rfl) (by kernel_rfl) (by kernel_rfl) (door_met os _)) ?_
  intro W base args ds gs before hval0 hW _ _ hL _
  have hval : ∀ (j : Nat) t v, Tryd.f8.params[j]? = some t → args[j]? = some v → Value.okWide Tryd.prog W .any base t v := hval0
  have hW' := hW
  obtain ⟨p, q, hA0, hV, rfl, hfz, hnd⟩ := hW
  have hA : DataW.TrodAll enc Tryd.prog W 0 (fun _ => true) true Tryd.f8.params.toList args.toList ds p := hA0
  rw [Tryd.params8] at hA hval
  obtain ⟨v0, vs0, d0, ds0, p0, q0, hargs, rfl, rfl, h0, r0⟩ := trodAll_cons hA
  obtain ⟨v1, vs1, d1, ds1, p1, q1, rfl, rfl, rfl, h1, r1⟩ := trodAll_cons r0
  obtain ⟨rfl, rfl, rfl⟩ := trodAll_nil r1
  obtain rfl : args = #[v0, v1] := by cases args; simp_all
  obtain ⟨rfl, rfl⟩ := trodVars_none hV
  obtain ⟨a0, rfl, rfl, rfl, w0⟩ := open_int Tryd.underlying22 (hval 0 22 v0 rfl rfl) h0
  obtain ⟨a1, rfl, rfl, rfl, w1⟩ := open_int Tryd.underlying22 (hval 1 22 v1 rfl rfl) h1
  clear hA0 hval0
  simp only [List.append_nil] at hW'
  refine (handleWhole_walk a0 w0 a1 w1 W (tab_of_laid hL)).mono fun e W' ⟨he, hg⟩ => ?_
  subst he
  exact ⟨_, rfl, post_of_same (pa := []) (pv := []) hW' (fun _ _ _ => (trodAll_cons_mk (shut_bool Tryd.underlying4 _) trodAll_mk0)) (fun sp _ => (trodAll_cons_mk (shut_int Tryd.underlying22 w0) (trodAll_cons_mk (shut_int Tryd.underlying22 w1) trodAll_mk0))) (fun _ _ => rfl) rfl
    (hg.frame _) hg.2.1 (ok_one (by kernel_rfl) rfl (okWide_bool_mk Tryd.underlying4 _))⟩

theorem handleWhole_over : Rows.HandleWholeSaid :=
  OpenClaim.holds_of_wide 8 Tryd.f8 rfl rfl rfl rfl rfl rfl rfl ⟨rfl, rfl, rfl, rfl, rfl⟩ rfl rfl rfl rfl rfl (by kernel_rfl) Tryd.func8 (by kernel_rfl)
    (of_decide_eq_true (by kernel_rfl)) (by unfold Func.isWrapper; first | (rw [if_pos (by decide +kernel)]; kernel_rfl) | (rw [if_neg (by decide +kernel)]; exact ⟨rfl, rfl⟩))
    (fun os started H enc _ => handleWhole_lifted os started H enc)

theorem handleWhole_holds : Rows.HandleWholeCardSaid :=
  Claim7.holds_tied_plain_at .later [] [.data] true (true, "b36f92fb2381185dfda4eae340e506bb6ca2c37e8e84eb18718242d8dcd49757") false
    handleWhole_over (fun _ h => by cases h) (by kernel_rfl) (fun _ h => by cases h) handleWhole_row_tie rfl ⟨rfl, rfl⟩ (by kernel_rfl) rfl
    (fun f fn hf hfn => by
      obtain rfl : f = 8 := Option.some.inj ((show Tryd.prog.funcNamed "stepstone/stepstonelaw01.HandleWhole" = some 8 by kernel_rfl).symm.trans hf) |>.symm
      obtain rfl : fn = Tryd.f8 := (Option.some.inj (Tryd.func8.symm.trans hfn)).symm
      exact ⟨by kernel_rfl, fun j t ht => by
          rw [Tryd.params8] at ht
          rcases j with _ | j
          · have : t = 22 := by simpa using ht.symm
            subst this; exact (show Tryd.prog.wantsStandIn 22 = false by kernel_rfl)
          rcases j with _ | j
          · have : t = 22 := by simpa using ht.symm
            subst this; exact (show Tryd.prog.wantsStandIn 22 = false by kernel_rfl)
          simp at ht⟩)
    (by kernel_rfl)
#print axioms handleWhole_holds
end Go.Proofs.YtlkmgocaiebahaaDoor
