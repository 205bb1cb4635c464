/-
  Whether any entry is covered by any eras is what the document says.
  Conditions: none.
-/
import Derived.Test.YtheheepblkhfaaaCArgs
import Derived.Test.YtheheepblkhfaaaCRef
import Derived.Test.YtheheepblkhfaaaCAlive
import Derived.Test.YtheheepblkhfaaaOpen
import Derived.ProofKit
import Derived.SizedLaws
import Derived.Carry
namespace Go.Proofs.Ytheheepblkhfaaa
open Go.ChangeShapes Go.WideShapes Go.ChangeAt Go.RowKit
open Go.Deep

set_option maxRecDepth 100000 in
set_option maxHeartbeats 2000000 in
theorem coverAll_walk (w : World) (e : Ent) (ao : Option Addr) (xs : List Int) (cap : Nat) (hs : Sl w ao xs) (_hg : ∀ x ∈ xs, isWord x) (hb : xs.length ≤ 17592186044415) :
    Calls Try.prog 3 #[.agg #[.int .u64 e.n, .int .u64 e.b, .int .u64 e.r], .slice ao xs.length cap] w fun o w' => o = .returned (.bool true) ∧ Kept [] w w' := by
  obtain ⟨n, hn⟩ : ∃ n, n = xs.length := ⟨_, rfl⟩
  rw [← hn] at hb ⊢
  have K0 : Kept [] w (w.alloc (.cells #[.int .u64 e.n, .int .u64 e.b, .int .u64 e.r] 24)) := (Kept.refl _ _).alloc _
  have Z0 := blk_alloc_new w (.cells #[.int .u64 e.n, .int .u64 e.b, .int .u64 e.r] 24)
  obtain ⟨W, hW⟩ : ∃ W, W = w.alloc (.cells #[.int .u64 e.n, .int .u64 e.b, .int .u64 e.r] 24) := ⟨_, rfl⟩
  obtain ⟨B, hB⟩ : ∃ B, B = w.heap.size := ⟨_, rfl⟩
  rw [← hW] at K0 Z0
  rw [← hB] at Z0
  have H1 : Hid (∀ p : KW W, Calls Try.prog 10 #[.agg #[.int .u64 e.n, .int .u64 e.b, .int .u64 e.r], .slice ao n cap] p.val fun o w'' => o = .returned (.bool (cvB e xs)) ∧ ∃ q : KW W, w'' = q.val) := fun p => Calls.kw_of (covered_any e ao xs n cap p.val hn (hs.new (K0.trans p.kept)) hb)
  have H2 : Hid (∀ p : KW W, Calls Try.prog 11 #[.agg #[.int .u64 e.n, .int .u64 e.b, .int .u64 e.r], .slice ao n cap] p.val fun o w'' => o = .returned (.bool (cvB e xs)) ∧ ∃ q : KW W, w'' = q.val) := fun p => Calls.kw_of (rcovered_any e ao xs n cap p.val hn (hs.new (K0.trans p.kept)) hb)
  have q0 : ∀ p : KW W, p.val.cell? ⟨B, 0, none⟩ = some (.int .u64 e.n) := KW.cell (cell_of_blk Z0 (i := 0) rfl)
  have q1 : ∀ p : KW W, p.val.cell? ⟨B, 1, none⟩ = some (.int .u64 e.b) := KW.cell (cell_of_blk Z0 (i := 1) rfl)
  have q2 : ∀ p : KW W, p.val.cell? ⟨B, 2, none⟩ = some (.int .u64 e.r) := KW.cell (cell_of_blk Z0 (i := 2) rfl)
  clear hn hs Z0
  by_cases h1 : n ≤ 1000
  · go_enter Try.func3, Try.ntmps3
    go_upto_region 1 with (fail)
    rw [← hB, ← hW]
    clear hB hW
    generalize cvB e xs = d at H1 H2
    cases d
    all_goals
      go_wp2_with fail
      refine wp_region_kept (by kernel_rfl) (by kernel_rfl) ?_
      repeat (first
        | go_big_quiet_step ((first | (go_at_call 9; exact Calls.kw_of (alive_any _)) | (go_at_call 10; exact H1.out _) | (go_at_call 11; exact H2.out _)))
        | quiet_step ((first | (go_at_call 9; exact Calls.kw_of (alive_any _)) | (go_at_call 10; exact H1.out _) | (go_at_call 11; exact H2.out _))))
      refine wpQuiet_nil ?_
      intro _ hw'
      obtain ⟨pq, hw''⟩ := hw'
      subst hw''
      go_wp2
      go_ret
      exact ⟨rfl, K0.trans pq.kept⟩
  · clear q0 q1 q2 H1 H2
    subst hW
    go_enter Try.func3, Try.ntmps3
    go_wp2_with fail
    refine (alive_any _).mono ?_
    rintro o w1 ⟨rfl, K1⟩
    go_wp2
    go_ret
    exact ⟨rfl, K0.trans K1⟩

theorem coverAll_own : ownKnob Try.prog.godebug = none := by kernel_rfl
theorem coverAll_laidOut : laidOutB Try.prog = true := by kernel_rfl
set_option maxRecDepth 100000 in
theorem coverAll_lifted (os : Os) (started : os.Started) (H : Type) (enc : TypeId × Value → H) :
    ReturnsInHanded {} Try.checked os 3 .any (Rows.coverAllSpec.pre6 enc Try.prog Try.f3 Rows.coverAllRow.domain false) (Rows.coverAllSpec.post enc Try.prog Try.f3 false true false false) := by
  refine returnsInHanded_of_change_sized (C := Try.checked) coverAll_own started (by kernel_rfl) Try.func3
    (ChangeSpec.witness6 (enc := enc) (C := Try.checked) false ⟨#[], #[.agg #[.int .u64 0, .int .u64 0, .int .u64 0], .slice none 0 0], []⟩ 8 (by kernel_rfl) (by kernel_rfl) (by kernel_rfl) (by kernel_rfl)) ?_
  intro W base args ds gs before hval0 hW _ hsz0 _
  have hsz : (DataW.weightsEach Try.prog (Try.f3.params.toList ++ Rows.coverAllSpec.plain.varTypes Try.prog) (ds ++ gs)).all (· ≤ reachBytes) = true := hsz0
  clear hsz0
  have hval : ∀ (j : Nat) t v, Try.f3.params[j]? = some t → args[j]? = some v → Value.okWide Try.prog W .any base t v := hval0
  have hW' := hW
  obtain ⟨p, q, hA0, hV, rfl, _, _⟩ := hW
  have hA : DataW.TrodAll enc Try.prog W 0 (fun _ => true) true Try.f3.params.toList args.toList ds p := hA0
  rw [Try.params3] at hA hval hsz
  clear hA0 hval0
  obtain ⟨v0, vs0, d0, ds0, p0, q0, hargs, rfl, rfl, h0, r0⟩ := trodAll_cons hA
  obtain ⟨v1, vs1, d1, ds1, p1, q1, rfl, rfl, rfl, h1, r1⟩ := trodAll_cons r0
  obtain ⟨rfl, rfl, rfl⟩ := trodAll_nil r1
  obtain rfl : args = #[v0, v1] := by cases args; simp_all
  obtain ⟨rfl, rfl⟩ := trodVars_none hV
  have k0 := h0
  have k1 := h1
  simp only [List.append_nil] at hW'
  have hlt0 : ∀ x ∈ p0, x.block < W.heap.size := fun x hx => hW'.lt x (by simp [hx])
  have hlt1 : ∀ x ∈ p1, x.block < W.heap.size := fun x hx => hW'.lt x (by simp [hx])
  obtain ⟨e0, rfl⟩ := open_ent (hval 0 24 v0 rfl rfl) h0
  obtain ⟨ao1, cap1, xs1, rfl, s1, g1, z1, _⟩ := open_words (hval 1 25 v1 rfl rfl) h1
  have b1 := len_words hsz (j := 1) rfl (fun el sp e => by subst e; rfl) z1
  refine (coverAll_walk W e0 ao1 xs1 cap1 s1 g1 b1).mono fun e W' ⟨he, hg⟩ => ?_
  subst he
  have hb := hg.below (by simp)
  exact ⟨_, rfl, _, _, _, [], _, [], hW', (trodAll_cons_mk (shut_bool Try.underlying4 _) trodAll_mk0), (trodAll_cons_mk (Below.trod coverAll_laidOut (by kernel_rfl) (of_decide_eq_true (by kernel_rfl)) k0 hb hlt0) (trodAll_cons_mk (Below.trod coverAll_laidOut (by kernel_rfl) (of_decide_eq_true (by kernel_rfl)) k1 hb hlt1) trodAll_mk0)), rfl, hb.frame _, fun h => by cases h⟩

theorem coverAll_holds : Rows.CoverAllSaid :=
  OpenClaim.holds_of_wide 3 Try.f3 rfl rfl rfl rfl rfl rfl rfl ⟨rfl, rfl, rfl, rfl, rfl⟩ rfl rfl rfl rfl rfl (by kernel_rfl) Try.func3 (by kernel_rfl)
    (of_decide_eq_true (by kernel_rfl)) (by unfold Func.isWrapper; first | (rw [if_pos (by decide +kernel)]; kernel_rfl) | (rw [if_neg (by decide +kernel)]; exact ⟨rfl, rfl⟩))
    (fun os started H enc _ => coverAll_lifted os started H enc)
#print axioms coverAll_holds
end Go.Proofs.Ytheheepblkhfaaa
