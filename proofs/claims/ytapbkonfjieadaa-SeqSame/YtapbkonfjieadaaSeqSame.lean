/-
  SeqSame: which answers are the same is what the document says; each is the same as itself, for every input.
  Conditions: none.
-/
import Derived.Test.YtapbkonfjieadaaQLaw
import Derived.ProofKit
import Derived.SizedLaws
import Derived.Carry
namespace Go.Proofs.Ytapbkonfjieadaa
open Go.ChangeShapes Go.WideShapes Go.ChangeAt Go.RowKit
open Go.Deep

open Q
set_option maxRecDepth 100000 in
set_option maxHeartbeats 4000000 in
theorem seqSame_walk (w : World) (f1 h1 : Bool) (g1 : Int) (ao : Option Addr) (ca : Nat) (us : List Int) (f2 h2 : Bool) (g2 : Int) (bo : Option Addr) (cb : Nat) (vs : List Int) (hs : Sl w ao us) (ht : Sl w bo vs) :
    Calls Try.prog 5 #[.agg #[.bool f1, .bool h1, .int .u64 g1, .slice ao us.length ca], .agg #[.bool f2, .bool h2, .int .u64 g2, .slice bo vs.length cb]] w fun o w' => o = .returned (.bool true) ∧ Kept [] w w' := by
  obtain ⟨n, hn⟩ : ∃ n, n = us.length := ⟨_, rfl⟩
  obtain ⟨m, hm⟩ : ∃ m, m = vs.length := ⟨_, rfl⟩
  rw [← hn, ← hm]
  have HN : Hid (n = us.length) := hn
  have HM : Hid (m = vs.length) := hm
  clear hn hm
  have K0 : Kept [] w ((w.alloc (.cells #[.bool f1, .bool h1, .int .u64 g1, .slice ao n ca] 41)).alloc (.cells #[.bool f2, .bool h2, .int .u64 g2, .slice bo m cb] 41)) := ((Kept.refl _ _).alloc _).alloc _
  have Z2 := blk_alloc_new (w.alloc (.cells #[.bool f1, .bool h1, .int .u64 g1, .slice ao n ca] 41)) (.cells #[.bool f2, .bool h2, .int .u64 g2, .slice bo m cb] 41)
  have Z1 := box_alloc (blk_alloc_new w (.cells #[.bool f1, .bool h1, .int .u64 g1, .slice ao n ca] 41)) (.cells #[.bool f2, .bool h2, .int .u64 g2, .slice bo m cb] 41)
  rw [nblk_alloc] at Z2
  by_cases c : n ≤ 500 ∧ m ≤ 500
  · have ca1 : ¬ (500 : Int) < (n : Int) := by omega
    have ca2 : ¬ (500 : Int) < (m : Int) := by omega
    have d1 : decide ((500 : Int) < (n : Int)) = false := decide_eq_false ca1
    have d2 : decide ((500 : Int) < (m : Int)) = false := decide_eq_false ca2
    go_enter Try.func5, Try.ntmps5
    go_upto_region 3 with (fail)
    obtain ⟨H, hH⟩ : ∃ H, H = w.heap.size := ⟨_, rfl⟩
    rw [← hH] at Z1 Z2 ⊢
    refine gen_world (fun W => W.heap[H]? = some (.cells #[.bool f1, .bool h1, .int .u64 g1, .slice ao n ca] 41 (0, 0)) ∧ W.heap[H + 1]? = some (.cells #[.bool f2, .bool h2, .int .u64 g2, .slice bo m cb] 41 (0, 0)) ∧ Kept [] w W) ⟨Z1, Z2, K0⟩ ?_
    clear Z1 Z2 K0 hH
    rintro W ⟨Z1, Z2, K0⟩
    obtain ⟨r, hr⟩ : ∃ r, smB f1 h1 g1 us f2 h2 g2 vs = r := ⟨_, rfl⟩
    have R1 : Hid (smB f1 h1 g1 us f2 h2 g2 vs = r) := hr
    have R2 : Hid (smB f2 h2 g2 vs f1 h1 g1 us = r) := by show _ = _; rw [smB_comm]; exact hr
    have R3 : Hid (smB f1 h1 g1 us f1 h1 g1 us = true) := smB_self _ _ _ _
    have P1 : Hid (AnsP W ao n us) := ⟨HN.out, hs.new K0, by omega⟩
    have P2 : Hid (AnsP W bo m vs) := ⟨HM.out, ht.new K0, by omega⟩
    clear hr hs ht
    have a0 : ∀ p : KW W, p.val.cell? ⟨H, 0, none⟩ = some (.bool f1) := KW.cell (cell_of_blk Z1 (i := 0) rfl)
    have a1 : ∀ p : KW W, p.val.cell? ⟨H, 1, none⟩ = some (.bool h1) := KW.cell (cell_of_blk Z1 (i := 1) rfl)
    have a2 : ∀ p : KW W, p.val.cell? ⟨H, 2, none⟩ = some (.int .u64 g1) := KW.cell (cell_of_blk Z1 (i := 2) rfl)
    have a3 : ∀ p : KW W, p.val.cell? ⟨H, 3, none⟩ = some (.slice ao n ca) := KW.cell (cell_of_blk Z1 (i := 3) rfl)
    have b0 : ∀ p : KW W, p.val.cell? ⟨H + 1, 0, none⟩ = some (.bool f2) := KW.cell (cell_of_blk Z2 (i := 0) rfl)
    have b1 : ∀ p : KW W, p.val.cell? ⟨H + 1, 1, none⟩ = some (.bool h2) := KW.cell (cell_of_blk Z2 (i := 1) rfl)
    have b2 : ∀ p : KW W, p.val.cell? ⟨H + 1, 2, none⟩ = some (.int .u64 g2) := KW.cell (cell_of_blk Z2 (i := 2) rfl)
    have b3 : ∀ p : KW W, p.val.cell? ⟨H + 1, 3, none⟩ = some (.slice bo m cb) := KW.cell (cell_of_blk Z2 (i := 3) rfl)
    clear Z1 Z2
    refine wp_region_kept (by kernel_rfl) (by kernel_rfl) ?_
    repeat (first
      | go_big_quiet_step ((first
        | (go_at_call 9; exact Calls.kw_of (alive_any _))
        | (go_at_call 20; exact ssame_kw (by assumption) (by assumption) (by assumption) _)
        | (go_at_call 19; exact rsame_kw (by assumption) (by assumption) (by assumption) _)))
      | quiet_step ((first
        | (go_at_call 9; exact Calls.kw_of (alive_any _))
        | (go_at_call 20; exact ssame_kw (by assumption) (by assumption) (by assumption) _)
        | (go_at_call 19; exact rsame_kw (by assumption) (by assumption) (by assumption) _))))
    refine wpQuiet_nil ?_
    intro _ hw'
    obtain ⟨pq, hw''⟩ := hw'
    subst hw''
    go_wp2
    go_ret
    exact ⟨rfl, K0.trans pq.kept⟩
  · by_cases c1 : n ≤ 500
    · have ca1 : ¬ (500 : Int) < (n : Int) := by omega
      have ca2 : (500 : Int) < (m : Int) := by omega
      have d1 : decide ((500 : Int) < (n : Int)) = false := decide_eq_false ca1
      have d2 : decide ((500 : Int) < (m : Int)) = true := decide_eq_true ca2
      go_enter Try.func5, Try.ntmps5
      go_wp2_with fail
      refine (alive_any _).mono ?_
      rintro o w1 ⟨rfl, K1⟩
      go_wp2
      go_ret
      exact ⟨rfl, K0.trans K1⟩
    · have ca1 : (500 : Int) < (n : Int) := by omega
      have d1 : decide ((500 : Int) < (n : Int)) = true := decide_eq_true ca1
      go_enter Try.func5, Try.ntmps5
      go_wp2_with fail
      refine (alive_any _).mono ?_
      rintro o w1 ⟨rfl, K1⟩
      go_wp2
      go_ret
      exact ⟨rfl, K0.trans K1⟩

theorem seqSame_own : ownKnob Try.prog.godebug = none := by kernel_rfl
theorem seqSame_laidOut : laidOutB Try.prog = true := by kernel_rfl
set_option maxRecDepth 100000 in
theorem seqSame_lifted (os : Os) (started : os.Started) (H : Type) (enc : TypeId × Value → H) :
    ReturnsInHanded {} Try.checked os 5 .any (Rows.seqSameSpec.pre6 enc Try.prog Try.f5 Rows.seqSameRow.domain false) (Rows.seqSameSpec.post enc Try.prog Try.f5 false true false false) := by
  refine returnsInHanded_of_change_sized (C := Try.checked) seqSame_own started (by kernel_rfl) Try.func5
    (ChangeSpec.witness6 (enc := enc) (C := Try.checked) false ⟨#[], #[.agg #[.bool false, .bool false, .int .u64 0, .slice none 0 0], .agg #[.bool false, .bool false, .int .u64 0, .slice none 0 0]], []⟩ 8 (by kernel_rfl) (by kernel_rfl) (by kernel_rfl) (by kernel_rfl)) ?_
  intro W base args ds gs before hval0 hW _ hsz0 _
  have hsz : (DataW.weightsEach Try.prog (Try.f5.params.toList ++ Rows.seqSameSpec.plain.varTypes Try.prog) (ds ++ gs)).all (· ≤ reachBytes) = true := hsz0
  clear hsz0
  have hval : ∀ (j : Nat) t v, Try.f5.params[j]? = some t → args[j]? = some v → Value.okWide Try.prog W .any base t v := hval0
  have hW' := hW
  obtain ⟨p, q, hA0, hV, rfl, _, _⟩ := hW
  have hA : DataW.TrodAll enc Try.prog W 0 (fun _ => true) true Try.f5.params.toList args.toList ds p := hA0
  rw [Try.params5] at hA hval hsz
  clear hA0 hval0
  obtain ⟨v0, vs0, d0, ds0, p0, q0, hargs, rfl, rfl, h0, r0⟩ := trodAll_cons hA
  obtain ⟨v1, vs1, d1, ds1, p1, q1, rfl, rfl, rfl, h1, r1⟩ := trodAll_cons r0
  obtain ⟨rfl, rfl, rfl⟩ := trodAll_nil r1
  obtain rfl : args = #[v0, v1] := by cases args; simp_all
  obtain ⟨rfl, rfl⟩ := trodVars_none hV
  have k0 := h0
  have k1 := h1
  simp only [List.append_nil] at hW'
  have hlt0 : ∀ x ∈ p0, x.block < W.heap.size := fun x hx => hW'.lt x (by simp [hx])
  have hlt1 : ∀ x ∈ p1, x.block < W.heap.size := fun x hx => hW'.lt x (by simp [hx])
  obtain ⟨f0, e0, u0, ao0, cap0, ks0, rfl, s0⟩ := Q.open_answer (hval 0 41 v0 rfl rfl) h0
  obtain ⟨f1, e1, u1, ao1, cap1, ks1, rfl, s1⟩ := Q.open_answer (hval 1 41 v1 rfl rfl) h1
  refine (seqSame_walk W f0 e0 u0 ao0 cap0 ks0 f1 e1 u1 ao1 cap1 ks1 s0 s1).mono fun e W' ⟨he, hg⟩ => ?_
  subst he
  have hb := hg.below (by simp)
  exact ⟨_, rfl, _, _, _, [], _, [], hW', (trodAll_cons_mk (shut_bool Try.underlying4 _) trodAll_mk0), (trodAll_cons_mk (Below.trod seqSame_laidOut (by kernel_rfl) (of_decide_eq_true (by kernel_rfl)) k0 hb hlt0) (trodAll_cons_mk (Below.trod seqSame_laidOut (by kernel_rfl) (of_decide_eq_true (by kernel_rfl)) k1 hb hlt1) trodAll_mk0)), rfl, hb.frame _, fun h => by cases h⟩

theorem seqSame_holds : Rows.SeqSameSaid :=
  OpenClaim.holds_of_wide 5 Try.f5 rfl rfl rfl rfl rfl rfl rfl ⟨rfl, rfl, rfl, rfl, rfl⟩ rfl rfl rfl rfl rfl (by kernel_rfl) Try.func5 (by kernel_rfl)
    (of_decide_eq_true (by kernel_rfl)) (by unfold Func.isWrapper; first | (rw [if_pos (by decide +kernel)]; kernel_rfl) | (rw [if_neg (by decide +kernel)]; exact ⟨rfl, rfl⟩))
    (fun os started H enc _ => seqSame_lifted os started H enc)
#print axioms seqSame_holds
end Go.Proofs.Ytapbkonfjieadaa
