/-
  For every bank of any cells, every cell and every three words: of two swaps of a cell that there is, that ask for the same, the first tells true just if the cell has it, and the second just if the first did and stored what it asked for; the law BankSwaps answers true, and the arguments read as they did.
  Conditions: none.
-/
import Derived.Test.YtmigfkkigfhjkaaSame
import Derived.ProofKit
import Derived.SizedLaws
import Derived.Carry
namespace Go.Proofs.Ytmigfkkigfhjkaa
open Go.ChangeShapes Go.WideShapes Go.ChangeAt Go.RowKit
open Go.Deep

theorem flat_arr3 : flat Try.prog 3 49 = some [.int .u64, .int .u64, .int .u64] := by kernel_rfl
theorem open_arr3 {H : Type} {enc : TypeId × Value → H} {w : World} {r : Reach} {b0 : Nat} {v : Value} {d : DataW H} {p : List MemPlace} (hv : Value.okWide Try.prog w r b0 49 v) (h : DataW.Trod enc Try.prog w 0 (fun _ => true) true 49 v d p) :
    ∃ x y z, v = .agg #[.int .u64 x, .int .u64 y, .int .u64 z] := by
  obtain ⟨cs, rfl, hF⟩ := flat_agg (Or.inr ⟨_, _, Try.underlying49⟩) flat_arr3 hv h
  match cs, hF with
  | ⟨[_, _, _]⟩, ⟨⟨x, rfl, _⟩, ⟨y, rfl, _⟩, ⟨z, rfl, _⟩, _⟩ => exact ⟨x, y, z, rfl⟩
/-- What two swaps that ask for the same tell. -/
theorem swaps_two (xs : List Int) (c x y z : Int) (h : hasC xs c) :
    (acV xs 3 c 0 x y).d = (xs.getD c.toNat 0 == x) ∧ (acV (clV xs 3 c x y) 3 c 0 x z).d = ((xs.getD c.toNat 0 == x) && (y == x)) := by
  have hc : hasC (clV xs 3 c x y) c := by unfold clV; rw [if_pos h]; unfold hasC; rw [List.length_set]; exact h
  have hl : c.toNat < xs.length := by unfold hasC at h; omega
  refine ⟨by unfold acV; rw [if_pos h]; simp [bhB], ?_⟩
  unfold acV; rw [if_pos hc]
  have e : (clV xs 3 c x y).getD c.toNat 0 = bhV 3 (xs.getD c.toNat 0) x y := by unfold clV; rw [if_pos h]; simp [hl]
  simp only [e, bhB, bhV]
  by_cases q : xs.getD c.toNat 0 = x
  · rw [if_pos q]; simp [-List.getD_eq_getElem?_getD, q]
  · rw [if_neg q]; simp [-List.getD_eq_getElem?_getD, q]
set_option maxRecDepth 100000 in
set_option maxHeartbeats 1000000 in
theorem bankSwaps_walk (w : World) (ao : Option Addr) (xs : List Int) (cap : Nat) (c : Int) (_wc : (Lit.int .i64 c).wf = true) (x y z : Int) (hs : Sl w ao xs) (_hg : ∀ x ∈ xs, isWord x) (hb : xs.length ≤ 17592186044415) :
    Calls Try.prog 6 #[.slice ao xs.length cap, .int .i64 c, .agg #[.int .u64 x, .int .u64 y, .int .u64 z]] w fun e w' => e = .returned (.bool true) ∧ Kept [] w w' := by
  by_cases h1 : xs.length ≤ 500 ∧ hasC xs c
  · obtain ⟨hl, hc⟩ := h1
    obtain ⟨E1, E2⟩ := swaps_two xs c x y z hc
    have hc' := hc
    obtain ⟨hc0, hc1⟩ := hc
    obtain ⟨i, rfl⟩ : ∃ i : Nat, c = i := ⟨c.toNat, by omega⟩
    have hi : i < xs.length := by omega
    obtain ⟨b, off, rfl, hbw, hcell⟩ := hs.cell hi
    have e1 : Hid _ := E1
    have e2 : Hid _ := E2
    have HC : Hid _ := hc'
    clear E1 E2 hc'
    have t1 : decide ((500 : Int) < (xs.length : Int)) = false := by rw [decide_eq_false_iff_not]; omega
    have t2 : decide ((i : Int) < 0) = false := by rw [decide_eq_false_iff_not]; omega
    have t3 : decide (xs.length ≤ i) = false := by rw [decide_eq_false_iff_not]; omega
    go_enter Try.func6, Try.ntmps6
    go_wp2_with fail
    refine (of_any _ xs cap _ (hs.new ((Kept.refl [] _).alloc _)) hb).mono ?_
    rintro e w1 ⟨p, rfl, hp, B1, K1⟩
    have T1 := ((Kept.refl [] w).alloc _).trans K1
    have Z1 := K1.blk (blk_alloc_new w _) (by simp)
    rw [nblk_alloc] at hp B1
    obtain ⟨r, hr⟩ : ∃ r, r = w.heap.size + 1 := ⟨_, rfl⟩
    rw [← hr] at B1
    have hr' : w.heap.size < r := by omega
    have hn : w.heap.size ∉ [p, r] := by simp; omega
    clear hr
    have q0 := cell_of_blk Z1 (i := 0) rfl
    have q1 := cell_of_blk Z1 (i := 1) rfl
    have q2 := cell_of_blk Z1 (i := 2) rfl
    go_wp2_with fail
    refine (swap_any p r xs 0 _ i 0 x y _ B1 (by omega) (by omega)).mono ?_
    rintro e w2 ⟨rfl, B2, K2⟩
    have T2 := T1.own K2 (by omega) (by omega)
    have Z2 := K2.blk Z1 hn
    clear q0 q1 q2 B1 K1 Z1
    have q0 := cell_of_blk Z2 (i := 0) rfl
    have q1 := cell_of_blk Z2 (i := 1) rfl
    have q2 := cell_of_blk Z2 (i := 2) rfl
    go_wp2_with fail
    refine (swap_any p r (clV xs 3 i x y) _ _ i 0 x z _ B2 (by omega) (by omega)).mono ?_
    rintro e w3 ⟨rfl, B3, K3⟩
    have T3 := T2.own K3 (by omega) (by omega)
    have Z3 := K3.blk Z2 hn
    clear q0 q1 q2 B2 K2 Z2
    rw [e1.out, e2.out]
    rw [show ((i : Int)).toNat = i from rfl]
    generalize xs.getD i 0 = had at hcell ⊢
    have q0 : ∀ p : KW w3, p.val.cell? ⟨w.heap.size, 0, none⟩ = some (.int .u64 x) := KW.cell (cell_of_blk Z3 (i := 0) rfl)
    have q1 : ∀ p : KW w3, p.val.cell? ⟨w.heap.size, 1, none⟩ = some (.int .u64 y) := KW.cell (cell_of_blk Z3 (i := 1) rfl)
    have q3 : ∀ p : KW w3, p.val.cell? ⟨b, off + i, none⟩ = some (.int .u64 had) := KW.cell ((World.cell?_of_block (a := ⟨b, off + i, none⟩) (T3.block b hbw (by simp))).trans hcell)
    clear Z3 B3 hcell
    by_cases hx : had = x
    · subst hx
      rw [show (had == had) = true from by simp]
      go_wp2_with fail
      refine wp_region_kept (by kernel_rfl) (by kernel_rfl) ?_
      repeat (first | go_big_quiet_step ((go_at_call 9; exact Calls.kw_of (alive_any _))) | quiet_step ((go_at_call 9; exact Calls.kw_of (alive_any _))))
      refine wpQuiet_nil ?_
      intro _ hw'
      obtain ⟨pq, hw''⟩ := hw'
      subst hw''
      go_wp2
      go_ret
      exact ⟨rfl, T3.trans pq.kept⟩
    · have hxx : (had == x) = false := by simpa using hx
      rw [hxx]
      go_wp2_with fail
      refine wp_region_kept (by kernel_rfl) (by kernel_rfl) ?_
      repeat (first | go_big_quiet_step ((go_at_call 9; exact Calls.kw_of (alive_any _))) | quiet_step ((go_at_call 9; exact Calls.kw_of (alive_any _))))
      refine wpQuiet_nil ?_
      intro _ hw'
      obtain ⟨pq, hw''⟩ := hw'
      subst hw''
      go_wp2
      go_ret
      exact ⟨rfl, T3.trans pq.kept⟩
  · have HC : Hid _ := h1
    clear h1
    by_cases h1 : xs.length ≤ 500
    · have t1 : decide ((500 : Int) < (xs.length : Int)) = false := by rw [decide_eq_false_iff_not]; omega
      by_cases h2 : c < 0
      · have t2 : decide (c < 0) = true := by rw [decide_eq_true_iff]; exact h2
        go_enter Try.func6, Try.ntmps6
        go_wp2_with fail
        refine (of_any _ xs cap _ (hs.new ((Kept.refl [] _).alloc _)) hb).mono ?_
        rintro e w1 ⟨p, rfl, hp, B1, K1⟩
        have T1 := ((Kept.refl [] w).alloc _).trans K1
        clear B1 K1
        go_wp2_with fail
        refine (alive_any _).mono ?_
        rintro e w2 ⟨rfl, K2⟩
        go_wp2
        go_ret
        exact ⟨rfl, T1.trans K2⟩
      · have t2 : decide (c < 0) = false := by rw [decide_eq_false_iff_not]; exact h2
        have h3 : (xs.length : Int) ≤ c := by
          by_cases q : (xs.length : Int) ≤ c
          · exact q
          · exact absurd ⟨h1, by unfold hasC; omega⟩ HC.out
        have t3 : decide ((xs.length : Int) ≤ c) = true := by rw [decide_eq_true_iff]; exact h3
        go_enter Try.func6, Try.ntmps6
        go_wp2_with fail
        refine (of_any _ xs cap _ (hs.new ((Kept.refl [] _).alloc _)) hb).mono ?_
        rintro e w1 ⟨p, rfl, hp, B1, K1⟩
        have T1 := ((Kept.refl [] w).alloc _).trans K1
        clear B1 K1
        go_wp2_with fail
        refine (alive_any _).mono ?_
        rintro e w2 ⟨rfl, K2⟩
        go_wp2
        go_ret
        exact ⟨rfl, T1.trans K2⟩
    · have t1 : decide ((500 : Int) < (xs.length : Int)) = true := by rw [decide_eq_true_iff]; omega
      · go_enter Try.func6, Try.ntmps6
        go_wp2_with fail
        refine (of_any _ xs cap _ (hs.new ((Kept.refl [] _).alloc _)) hb).mono ?_
        rintro e w1 ⟨p, rfl, hp, B1, K1⟩
        have T1 := ((Kept.refl [] w).alloc _).trans K1
        clear B1 K1
        go_wp2_with fail
        refine (alive_any _).mono ?_
        rintro e w2 ⟨rfl, K2⟩
        go_wp2
        go_ret
        exact ⟨rfl, T1.trans K2⟩

theorem bankSwaps_own : ownKnob Try.prog.godebug = none := by kernel_rfl
theorem bankSwaps_laidOut : laidOutB Try.prog = true := by kernel_rfl
set_option maxRecDepth 100000 in
theorem bankSwaps_lifted (os : Os) (started : os.Started) (H : Type) (enc : TypeId × Value → H) :
    ReturnsInHanded {} Try.checked os 6 .any (Rows.bankSwapsSpec.pre6 enc Try.prog Try.f6 Rows.bankSwapsRow.domain false) (Rows.bankSwapsSpec.post enc Try.prog Try.f6 false true false false) := by
  refine returnsInHanded_of_change_sized (C := Try.checked) bankSwaps_own started (by kernel_rfl) Try.func6
    (ChangeSpec.witness6 (enc := enc) (C := Try.checked) false ⟨#[], #[.slice none 0 0, .int .i64 0, .agg #[.int .u64 0, .int .u64 0, .int .u64 0]], []⟩ 8 (by kernel_rfl) (by kernel_rfl) (by kernel_rfl) (by kernel_rfl)) ?_
  intro W base args ds gs before hval0 hW _ hsz0 _
  have hsz : (DataW.weightsEach Try.prog (Try.f6.params.toList ++ Rows.bankSwapsSpec.plain.varTypes Try.prog) (ds ++ gs)).all (· ≤ reachBytes) = true := hsz0
  clear hsz0
  have hval : ∀ (j : Nat) t v, Try.f6.params[j]? = some t → args[j]? = some v → Value.okWide Try.prog W .any base t v := hval0
  have hW' := hW
  obtain ⟨p, q, hA0, hV, rfl, _, _⟩ := hW
  have hA : DataW.TrodAll enc Try.prog W 0 (fun _ => true) true Try.f6.params.toList args.toList ds p := hA0
  rw [Try.params6] at hA hval hsz
  clear hA0 hval0
  obtain ⟨v0, vs0, d0, ds0, p0, q0, hargs, rfl, rfl, h0, r0⟩ := trodAll_cons hA
  obtain ⟨v1, vs1, d1, ds1, p1, q1, rfl, rfl, rfl, h1, r1⟩ := trodAll_cons r0
  obtain ⟨v2, vs2, d2, ds2, p2, q2, rfl, rfl, rfl, h2, r2⟩ := trodAll_cons r1
  obtain ⟨rfl, rfl, rfl⟩ := trodAll_nil r2
  obtain rfl : args = #[v0, v1, v2] := by cases args; simp_all
  obtain ⟨rfl, rfl⟩ := trodVars_none hV
  have k0 := h0
  have k1 := h1
  have k2 := h2
  simp only [List.append_nil] at hW'
  have hlt0 : ∀ x ∈ p0, x.block < W.heap.size := fun x hx => hW'.lt x (by simp [hx])
  have hlt1 : ∀ x ∈ p1, x.block < W.heap.size := fun x hx => hW'.lt x (by simp [hx])
  have hlt2 : ∀ x ∈ p2, x.block < W.heap.size := fun x hx => hW'.lt x (by simp [hx])
  obtain ⟨ao0, cap0, xs0, rfl, s0, g0, z0, _⟩ := open_words (hval 0 22 v0 rfl rfl) h0
  obtain ⟨a1, rfl, rfl, rfl, w1⟩ := open_int Try.underlying3 (hval 1 3 v1 rfl rfl) h1
  obtain ⟨x2, y2, z2, rfl⟩ := open_arr3 (hval 2 49 v2 rfl rfl) h2
  have b0 := len_words hsz (j := 0) rfl (fun el sp e => by subst e; rfl) z0
  refine (bankSwaps_walk W ao0 xs0 cap0 a1 w1 x2 y2 z2 s0 g0 b0).mono fun e W' ⟨he, hg⟩ => ?_
  subst he
  have hb := hg.below (by simp)
  exact ⟨_, rfl, _, _, _, [], _, [], hW', (trodAll_cons_mk (shut_bool Try.underlying4 _) trodAll_mk0), (trodAll_cons_mk (Below.trod bankSwaps_laidOut (by kernel_rfl) (of_decide_eq_true (by kernel_rfl)) k0 hb hlt0) (trodAll_cons_mk (Below.trod bankSwaps_laidOut (by kernel_rfl) (of_decide_eq_true (by kernel_rfl)) k1 hb hlt1) (trodAll_cons_mk (Below.trod bankSwaps_laidOut (by kernel_rfl) (of_decide_eq_true (by kernel_rfl)) k2 hb hlt2) trodAll_mk0))), rfl, hb.frame _, fun h => by cases h⟩

theorem bankSwaps_holds : Rows.BankSwapsSaid :=
  OpenClaim.holds_of_wide 6 Try.f6 rfl rfl rfl rfl rfl rfl rfl ⟨rfl, rfl, rfl, rfl, rfl⟩ rfl rfl rfl rfl rfl (by kernel_rfl) Try.func6 (by kernel_rfl)
    (of_decide_eq_true (by kernel_rfl)) (by unfold Func.isWrapper; first | (rw [if_pos (by decide +kernel)]; kernel_rfl) | (rw [if_neg (by decide +kernel)]; exact ⟨rfl, rfl⟩))
    (fun os started H enc _ => bankSwaps_lifted os started H enc)
#print axioms bankSwaps_holds
end Go.Proofs.Ytmigfkkigfhjkaa
