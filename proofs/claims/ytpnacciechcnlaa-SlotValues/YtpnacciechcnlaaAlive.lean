/-
  The contract of the document's own After, and that the statements' own test of the examples answers true, in any world.
-/
import Derived.Test.YtpnacciechcnlaaWords
namespace Go.Proofs.Ytpnacciechcnlaa
open Go.RowKit (Grown Hid)
set_option maxRecDepth 100000 in
set_option maxHeartbeats 400000 in
theorem rafter_any (g l : Int) (w0 w : World) (hS : Grown w0 w) :
    Calls Try.prog 23 #[.int .i64 g, .int .i64 l] w fun e w' => e = .returned (.int .u64 (afV g l)) ∧ Grown w0 w' := by
  go_enter Try.func23, Try.ntmps23
  go_wp2
  all_goals go_ret
  all_goals (refine ⟨ret_u64 ?_, hS⟩; clear hS; unfold afV; (repeat' split) <;> omega)
set_option maxRecDepth 100000 in
set_option maxHeartbeats 1000000 in
theorem alive_any (w0 w : World) (hS : Grown w0 w) :
    Calls Try.prog 11 #[] w fun e w' => e = .returned (.bool true) ∧ Grown w0 w' := by
  have e1 : meV 1 3 = 13 := rfl
  have e2 : stV 13 = 1 := rfl
  have e3 : gnV 13 = 3 := rfl
  have e4 : afV 3 9 = 16 := rfl
  have e5 : afV 9 9 = 38 := rfl
  have e6 : klV 14 = 15 := rfl
  have e7 : ddB 15 = true := rfl
  have e8 : ddB 14 = false := rfl
  have e9 : ofV 15 = 7 := rfl
  go_enter Try.func11, Try.ntmps11
  go_wp2_with fail
  refine (meta_yes 1 3 w0 _ hS (by decide)).mono ?_
  rintro e w1 ⟨rfl, S1⟩
  go_wp2_with fail
  refine (meta_no 3 3 w0 _ S1 (by decide)).mono ?_
  rintro e w2 ⟨rfl, S2⟩
  go_wp2_with fail
  refine (value_yes 7 w0 _ S2 (by decide) (by decide)).mono ?_
  rintro e w3 ⟨rfl, S3⟩
  go_wp2_with fail
  refine (value_no 9223372036854775808 w0 _ S3 (by decide) (by decide)).mono ?_
  rintro e w4 ⟨rfl, S4⟩
  go_wp2_with fail
  refine (state_any 13 w0 _ S4 (by decide) (by decide)).mono ?_
  rintro e w5 ⟨rfl, S5⟩
  go_wp2_with fail
  refine (gen_any 13 w0 _ S5 (by decide) (by decide)).mono ?_
  rintro e w6 ⟨rfl, S6⟩
  go_wp2_with fail
  refine (after_any 3 9 w0 _ S6).mono ?_
  rintro e w7 ⟨rfl, S7⟩
  go_wp2_with fail
  refine (after_any 9 9 w0 _ S7).mono ?_
  rintro e w8 ⟨rfl, S8⟩
  go_wp2_with fail
  refine (kill_any 14 w0 _ S8 (by decide) (by decide)).mono ?_
  rintro e w9 ⟨rfl, S9⟩
  go_wp2_with fail
  refine (dead_any 15 w0 _ S9 (by decide) (by decide)).mono ?_
  rintro e w10 ⟨rfl, S10⟩
  go_wp2_with fail
  refine (dead_any 14 w0 _ S10 (by decide) (by decide)).mono ?_
  rintro e w11 ⟨rfl, S11⟩
  go_wp2_with fail
  refine (of_any 15 w0 _ S11 (by decide) (by decide)).mono ?_
  rintro e w12 ⟨rfl, S12⟩
  go_wp2
  go_ret
  exact ⟨rfl, S12⟩
end Go.Proofs.Ytpnacciechcnlaa
