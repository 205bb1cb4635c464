/-
  For all words v, x and y: adding x and then y to a cell that has v tells v, and then v + x; adding what is missing to 2^64 tells v + x + y and brings back v; the law BankAdds answers true, and the arguments read as they did.
  Conditions: none.
-/
import Derived.Test.YtmigfkkigfhjkaaSame
import Derived.ProofKit
import Derived.SizedLaws
import Derived.Carry
namespace Go.Proofs.Ytmigfkkigfhjkaa
open Go.ChangeShapes Go.WideShapes Go.ChangeAt Go.RowKit
open Go.Deep

theorem wrap_u64 (x : Int) : IntKind.u64.wrap x = x % 18446744073709551616 := by simp [IntKind.wrap, IntKind.signed, IntKind.bits]
theorem adds_back (v x y : Int) (h : isWord v) : add64 (add64 (add64 v x) y) (IntKind.u64.wrap (-(add64 x y))) = v := by
  have := bounds_u64 h
  simp only [add64, wrap_u64]; omega
theorem adds_sum (v x y : Int) : add64 (add64 v x) y = IntKind.u64.wrap (IntKind.u64.wrap (v + x) + y) := rfl
set_option maxRecDepth 100000 in
set_option maxHeartbeats 1000000 in
theorem bankAdds_walk (w : World) (v : Int) (wv : (Lit.int .u64 v).wf = true) (x : Int) (_wx : (Lit.int .u64 x).wf = true) (y : Int) (_wy : (Lit.int .u64 y).wf = true) :
    Calls Try.prog 8 #[.int .u64 v, .int .u64 x, .int .u64 y] w fun e w' => e = .returned (.bool true) ∧ Kept [] w w' := by
  have hz : Hid _ := adds_back v x y wv
  clear wv
  have r1 : Row (w.alloc (.cells #[.int .u64 v] 27)) w.heap.size [v] := blk_alloc_new _ _
  go_enter Try.func8, Try.ntmps8
  go_wp2_with fail
  refine (of_any _ [v] 1 _ r1.sl (by simp)).mono ?_
  rintro e w1 ⟨p, rfl, hp, B1, K1⟩
  have T1 := ((Kept.refl [] w).alloc _).trans K1
  rw [nblk_alloc] at hp B1
  obtain ⟨r, hr⟩ : ∃ r, r = w.heap.size + 1 := ⟨_, rfl⟩
  rw [← hr] at B1
  have hr' : w.heap.size ≤ r := by omega
  have hp' : w.heap.size ≤ p := by omega
  clear hr hp K1 r1
  go_wp2_with fail
  refine (add_at p r [v] 0 _ 0 0 x ⟨4, 0, 0, v, add64 v x, true⟩ [add64 v x] _ B1 rfl rfl (by decide) (by decide)).mono ?_
  rintro e w2 ⟨rfl, B2, K2⟩
  have T2 := T1.own K2 hp' hr'
  clear B1 K2 T1
  go_wp2_with fail
  refine (add_at p r [add64 v x] _ _ 0 0 y ⟨4, 0, 0, add64 v x, add64 (add64 v x) y, true⟩ [add64 (add64 v x) y] _ B2 rfl rfl (by decide) (by decide)).mono ?_
  rintro e w3 ⟨rfl, B3, K3⟩
  have T3 := T2.own K3 hp' hr'
  clear B2 K3 T2
  go_wp2_with fail
  refine (add_at p r [add64 (add64 v x) y] _ _ 0 0 _ ⟨4, 0, 0, add64 (add64 v x) y, add64 (add64 (add64 v x) y) (IntKind.u64.wrap (-(add64 x y))), true⟩ [add64 (add64 (add64 v x) y) (IntKind.u64.wrap (-(add64 x y)))] _ B3 rfl rfl (by decide) (by decide)).mono ?_
  rintro e w4 ⟨rfl, B4, K4⟩
  have T4 := T3.own K4 hp' hr'
  clear B3 K4 T3
  rw [hz.out] at B4
  go_wp2_with fail
  refine (alive_any _).mono ?_
  rintro e w5 ⟨rfl, K5⟩
  have B5 := B4.kept K5 (by simp) (by simp)
  have T5 := T4.trans K5
  clear B4 K5 T4
  have e1 : (add64 v x == IntKind.u64.wrap (v + x)) = true := by simp [add64]
  have e2 : (add64 (add64 v x) y == IntKind.u64.wrap (IntKind.u64.wrap (v + x) + y)) = true := by simp [add64]
  go_wp2_with fail
  refine (load_at p r [v] _ _ 0 0 ⟨1, 0, 0, v, v, true⟩ [v] _ B5 rfl rfl (by decide) (by decide)).mono ?_
  rintro e w6 ⟨rfl, B6, K6⟩
  have T6 := T5.own K6 hp' hr'
  go_wp2
  go_ret
  exact ⟨rfl, T6⟩

theorem bankAdds_own : ownKnob Try.prog.godebug = none := by kernel_rfl
theorem bankAdds_laidOut : laidOutB Try.prog = true := by kernel_rfl
set_option maxRecDepth 100000 in
theorem bankAdds_lifted (os : Os) (started : os.Started) (H : Type) (enc : TypeId × Value → H) :
    ReturnsInHanded {} Try.checked os 8 .any (Rows.bankAddsSpec.pre6 enc Try.prog Try.f8 Rows.bankAddsRow.domain false) (Rows.bankAddsSpec.post enc Try.prog Try.f8 false true false false) := by
  refine returnsInHanded_of_change_sized (C := Try.checked) bankAdds_own started (by kernel_rfl) Try.func8
    (ChangeSpec.witness6 (enc := enc) (C := Try.checked) false ⟨#[], #[.int .u64 0, .int .u64 0, .int .u64 0], []⟩ 8 (by kernel_rfl) (by kernel_rfl) (by kernel_rfl) (by kernel_rfl)) ?_
  intro W base args ds gs before hval0 hW _ hsz0 _
  have hsz : (DataW.weightsEach Try.prog (Try.f8.params.toList ++ Rows.bankAddsSpec.plain.varTypes Try.prog) (ds ++ gs)).all (· ≤ reachBytes) = true := hsz0
  clear hsz0
  have hval : ∀ (j : Nat) t v, Try.f8.params[j]? = some t → args[j]? = some v → Value.okWide Try.prog W .any base t v := hval0
  have hW' := hW
  obtain ⟨p, q, hA0, hV, rfl, _, _⟩ := hW
  have hA : DataW.TrodAll enc Try.prog W 0 (fun _ => true) true Try.f8.params.toList args.toList ds p := hA0
  rw [Try.params8] at hA hval hsz
  clear hA0 hval0
  obtain ⟨v0, vs0, d0, ds0, p0, q0, hargs, rfl, rfl, h0, r0⟩ := trodAll_cons hA
  obtain ⟨v1, vs1, d1, ds1, p1, q1, rfl, rfl, rfl, h1, r1⟩ := trodAll_cons r0
  obtain ⟨v2, vs2, d2, ds2, p2, q2, rfl, rfl, rfl, h2, r2⟩ := trodAll_cons r1
  obtain ⟨rfl, rfl, rfl⟩ := trodAll_nil r2
  obtain rfl : args = #[v0, v1, v2] := by cases args; simp_all
  obtain ⟨rfl, rfl⟩ := trodVars_none hV
  have k0 := h0
  have k1 := h1
  have k2 := h2
  simp only [List.append_nil] at hW'
  have hlt0 : ∀ x ∈ p0, x.block < W.heap.size := fun x hx => hW'.lt x (by simp [hx])
  have hlt1 : ∀ x ∈ p1, x.block < W.heap.size := fun x hx => hW'.lt x (by simp [hx])
  have hlt2 : ∀ x ∈ p2, x.block < W.heap.size := fun x hx => hW'.lt x (by simp [hx])
  obtain ⟨a0, rfl, rfl, rfl, w0⟩ := open_int Try.underlying27 (hval 0 27 v0 rfl rfl) h0
  obtain ⟨a1, rfl, rfl, rfl, w1⟩ := open_int Try.underlying27 (hval 1 27 v1 rfl rfl) h1
  obtain ⟨a2, rfl, rfl, rfl, w2⟩ := open_int Try.underlying27 (hval 2 27 v2 rfl rfl) h2
  refine (bankAdds_walk W a0 w0 a1 w1 a2 w2).mono fun e W' ⟨he, hg⟩ => ?_
  subst he
  have hb := hg.below (by simp)
  exact ⟨_, rfl, _, _, _, [], _, [], hW', (trodAll_cons_mk (shut_bool Try.underlying4 _) trodAll_mk0), (trodAll_cons_mk (Below.trod bankAdds_laidOut (by kernel_rfl) (of_decide_eq_true (by kernel_rfl)) k0 hb hlt0) (trodAll_cons_mk (Below.trod bankAdds_laidOut (by kernel_rfl) (of_decide_eq_true (by kernel_rfl)) k1 hb hlt1) (trodAll_cons_mk (Below.trod bankAdds_laidOut (by kernel_rfl) (of_decide_eq_true (by kernel_rfl)) k2 hb hlt2) trodAll_mk0))), rfl, hb.frame _, fun h => by cases h⟩

theorem bankAdds_holds : Rows.BankAddsSaid :=
  OpenClaim.holds_of_wide 8 Try.f8 rfl rfl rfl rfl rfl rfl rfl ⟨rfl, rfl, rfl, rfl, rfl⟩ rfl rfl rfl rfl rfl (by kernel_rfl) Try.func8 (by kernel_rfl)
    (of_decide_eq_true (by kernel_rfl)) (by unfold Func.isWrapper; first | (rw [if_pos (by decide +kernel)]; kernel_rfl) | (rw [if_neg (by decide +kernel)]; exact ⟨rfl, rfl⟩))
    (fun os started H enc _ => bankAdds_lifted os started H enc)
#print axioms bankAdds_holds
end Go.Proofs.Ytmigfkkigfhjkaa
