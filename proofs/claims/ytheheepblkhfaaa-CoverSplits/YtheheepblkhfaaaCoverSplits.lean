/-
  Which of any entries are covered, and which are not, is what the document says; what was given stays as it was.
  Conditions: none.
-/
import Derived.Test.YtheheepblkhfaaaCLaw
import Derived.Test.YtheheepblkhfaaaOpen
import Derived.ProofKit
import Derived.SizedLaws
import Derived.Carry
namespace Go.Proofs.Ytheheepblkhfaaa
open Go.ChangeShapes Go.WideShapes Go.ChangeAt Go.RowKit
open Go.Deep

set_option maxRecDepth 100000 in
set_option maxHeartbeats 2000000 in
theorem coverSplits_walk (w : World) (bo : Option Addr) (es : List Ent) (cb : Nat) (ao : Option Addr) (xs : List Int) (cap : Nat) (he : SlE w bo es) (hs : Sl w ao xs) (_hg : ∀ x ∈ xs, isWord x) (hb : xs.length ≤ 17592186044415) :
    Calls Try.prog 4 #[.slice bo es.length cb, .slice ao xs.length cap] w fun o w' => o = .returned (.bool true) ∧ Kept [] w w' := by
  obtain ⟨n, hn⟩ : ∃ n, n = xs.length := ⟨_, rfl⟩
  obtain ⟨m, hm⟩ : ∃ m, m = es.length := ⟨_, rfl⟩
  rw [← hn] at hb ⊢
  rw [← hm]
  by_cases h2 : m ≤ 100
  · by_cases h1 : n ≤ 100
    · obtain ⟨A, hA⟩ : ∃ A, es.filter (fun e => cvB e xs) = A := ⟨_, rfl⟩
      obtain ⟨B, hB⟩ : ∃ B, es.filter (fun e => !cvB e xs) = B := ⟨_, rfl⟩
      obtain ⟨p, hp⟩ : ∃ p, A.length = p := ⟨_, rfl⟩
      obtain ⟨q, hq⟩ : ∃ q, B.length = q := ⟨_, rfl⟩
      have hp1 : p ≤ 100 := by have := List.length_filter_le (fun e => cvB e xs) es; rw [hA] at this; omega
      have hq1 : q ≤ 100 := by have := List.length_filter_le (fun e => !cvB e xs) es; rw [hB] at this; omega
      have HC : Hid (∀ W cb' bo', SlE W bo' es → Kept [] w W → Calls Try.prog 13 #[.slice bo' m cb', .slice ao n cap] W fun o w' => ∃ a1 c1 a2 c2, o = .returned (.tuple #[.slice a1 p c1, .slice a2 q c2]) ∧ SlE w' a1 A ∧ SlE w' a2 B ∧ Kept [] W w') := fun W cb' bo' h k => split_is hn hb hm (by omega) hA hB hp hq W (hs.new k) h
      have HR1 : Hid (∀ W, Kept [] w W → Calls Try.prog 16 #[.slice bo m cb, .slice ao n cap, .bool true] W fun o w' => ∃ a1 c1, o = .returned (.slice a1 p c1) ∧ SlE w' a1 A ∧ Kept [] W w') := fun W k => rsplit_is hn hb hm (by omega) ((filter_true es xs).trans hA) hp W (hs.new k) (he.new k)
      have HR2 : Hid (∀ W, Kept [] w W → Calls Try.prog 16 #[.slice bo m cb, .slice ao n cap, .bool false] W fun o w' => ∃ a1 c1, o = .returned (.slice a1 q c1) ∧ SlE w' a1 B ∧ Kept [] W w') := fun W k => rsplit_is hn hb hm (by omega) ((filter_false es xs).trans hB) hq W (hs.new k) (he.new k)
      have HM : Hid _ := hm
      have HP : Hid _ := hp
      have HQ : Hid _ := hq
      clear hn hm hs hA hB hp hq
      go_enter Try.func4, Try.ntmps4
      go_wp2_with fail
      refine (news_any bo es m cb _ HM.out he (by omega)).mono ?_
      rintro o w1 ⟨xo, cx, rfl, SX, _, _, K1⟩
      go_wp2_with fail
      refine (HC.out w1 cx xo SX K1).mono ?_
      rintro o w2 ⟨a1, c1, a2, c2, rfl, SA, SB, K2⟩
      replace SX := SX.new K2
      replace K1 := K1.trans K2
      clear K2
      go_wp2_with fail
      refine (alive_any w2).mono ?_
      rintro o w3 ⟨rfl, K2⟩
      replace SX := SX.new K2
      replace SA := SA.new K2
      replace SB := SB.new K2
      replace K1 := K1.trans K2
      clear K2
      go_wp2_with fail
      refine (olds_any a1 A p c1 w3 HP.out.symm SA (by omega)).mono ?_
      rintro o w4 ⟨o1, d1, rfl, SO, _, _, K2⟩
      replace SX := SX.new K2
      replace SB := SB.new K2
      replace K1 := K1.trans K2
      clear K2 SA
      go_wp2_with fail
      refine (HR1.out w4 K1).mono ?_
      rintro o w5 ⟨o2, d2, rfl, SR, K2⟩
      replace SX := SX.new K2
      replace SB := SB.new K2
      replace SO := SO.new K2
      replace K1 := K1.trans K2
      clear K2
      go_wp2_with fail
      refine (same_is HP.out.symm (by omega) w5 SO SR).mono ?_
      rintro o w6 ⟨rfl, K2⟩
      replace SX := SX.new K2
      replace SB := SB.new K2
      replace K1 := K1.trans K2
      clear K2 SO SR
      go_wp2_with fail
      refine (olds_any a2 B q c2 w6 HQ.out.symm SB (by omega)).mono ?_
      rintro o w7 ⟨o3, d3, rfl, SO, _, _, K2⟩
      replace SX := SX.new K2
      replace K1 := K1.trans K2
      clear K2 SB
      go_wp2_with fail
      refine (HR2.out w7 K1).mono ?_
      rintro o w8 ⟨o4, d4, rfl, SR, K2⟩
      replace SX := SX.new K2
      replace SO := SO.new K2
      replace K1 := K1.trans K2
      clear K2
      go_wp2_with fail
      refine (same_is HQ.out.symm (by omega) w8 SO SR).mono ?_
      rintro o w9 ⟨rfl, K2⟩
      replace SX := SX.new K2
      replace K1 := K1.trans K2
      clear K2 SO SR
      go_wp2_with fail
      refine (olds_any xo es m cx w9 HM.out SX (by omega)).mono ?_
      rintro o w10 ⟨o5, d5, rfl, SO, _, _, K2⟩
      replace K1 := K1.trans K2
      clear K2 SX
      go_wp2_with fail
      refine (same_is HM.out (by omega) w10 SO (he.new K1)).mono ?_
      rintro o w11 ⟨rfl, K2⟩
      go_wp2
      go_ret
      exact ⟨rfl, K1.trans K2⟩
    · clear hs he hn hm
      go_enter Try.func4, Try.ntmps4
      go_wp2_with fail
      refine (alive_any _).mono ?_
      rintro o w1 ⟨rfl, K1⟩
      go_wp2
      go_ret
      exact ⟨rfl, K1⟩
  · clear hs he hn hm
    go_enter Try.func4, Try.ntmps4
    go_wp2_with fail
    refine (alive_any _).mono ?_
    rintro o w1 ⟨rfl, K1⟩
    go_wp2
    go_ret
    exact ⟨rfl, K1⟩

theorem coverSplits_own : ownKnob Try.prog.godebug = none := by kernel_rfl
theorem coverSplits_laidOut : laidOutB Try.prog = true := by kernel_rfl
set_option maxRecDepth 100000 in
theorem coverSplits_lifted (os : Os) (started : os.Started) (H : Type) (enc : TypeId × Value → H) :
    ReturnsInHanded {} Try.checked os 4 .any (Rows.coverSplitsSpec.pre6 enc Try.prog Try.f4 Rows.coverSplitsRow.domain false) (Rows.coverSplitsSpec.post enc Try.prog Try.f4 false true false false) := by
  refine returnsInHanded_of_change_sized (C := Try.checked) coverSplits_own started (by kernel_rfl) Try.func4
    (ChangeSpec.witness6 (enc := enc) (C := Try.checked) false ⟨#[], #[.slice none 0 0, .slice none 0 0], []⟩ 8 (by kernel_rfl) (by kernel_rfl) (by kernel_rfl) (by kernel_rfl)) ?_
  intro W base args ds gs before hval0 hW _ hsz0 _
  have hsz : (DataW.weightsEach Try.prog (Try.f4.params.toList ++ Rows.coverSplitsSpec.plain.varTypes Try.prog) (ds ++ gs)).all (· ≤ reachBytes) = true := hsz0
  clear hsz0
  have hval : ∀ (j : Nat) t v, Try.f4.params[j]? = some t → args[j]? = some v → Value.okWide Try.prog W .any base t v := hval0
  have hW' := hW
  obtain ⟨p, q, hA0, hV, rfl, _, _⟩ := hW
  have hA : DataW.TrodAll enc Try.prog W 0 (fun _ => true) true Try.f4.params.toList args.toList ds p := hA0
  rw [Try.params4] at hA hval hsz
  clear hA0 hval0
  obtain ⟨v0, vs0, d0, ds0, p0, q0, hargs, rfl, rfl, h0, r0⟩ := trodAll_cons hA
  obtain ⟨v1, vs1, d1, ds1, p1, q1, rfl, rfl, rfl, h1, r1⟩ := trodAll_cons r0
  obtain ⟨rfl, rfl, rfl⟩ := trodAll_nil r1
  obtain rfl : args = #[v0, v1] := by cases args; simp_all
  obtain ⟨rfl, rfl⟩ := trodVars_none hV
  have k0 := h0
  have k1 := h1
  simp only [List.append_nil] at hW'
  have hlt0 : ∀ x ∈ p0, x.block < W.heap.size := fun x hx => hW'.lt x (by simp [hx])
  have hlt1 : ∀ x ∈ p1, x.block < W.heap.size := fun x hx => hW'.lt x (by simp [hx])
  obtain ⟨ao0, cap0, es0, rfl, s0⟩ := open_ents (hval 0 30 v0 rfl rfl) h0
  obtain ⟨ao1, cap1, xs1, rfl, s1, g1, z1, _⟩ := open_words (hval 1 25 v1 rfl rfl) h1
  have b1 := len_words hsz (j := 1) rfl (fun el sp e => by subst e; rfl) z1
  refine (coverSplits_walk W ao0 es0 cap0 ao1 xs1 cap1 s0 s1 g1 b1).mono fun e W' ⟨he, hg⟩ => ?_
  subst he
  have hb := hg.below (by simp)
  exact ⟨_, rfl, _, _, _, [], _, [], hW', (trodAll_cons_mk (shut_bool Try.underlying4 _) trodAll_mk0), (trodAll_cons_mk (Below.trod coverSplits_laidOut (by kernel_rfl) (of_decide_eq_true (by kernel_rfl)) k0 hb hlt0) (trodAll_cons_mk (Below.trod coverSplits_laidOut (by kernel_rfl) (of_decide_eq_true (by kernel_rfl)) k1 hb hlt1) trodAll_mk0)), rfl, hb.frame _, fun h => by cases h⟩

theorem coverSplits_holds : Rows.CoverSplitsSaid :=
  OpenClaim.holds_of_wide 4 Try.f4 rfl rfl rfl rfl rfl rfl rfl ⟨rfl, rfl, rfl, rfl, rfl⟩ rfl rfl rfl rfl rfl (by kernel_rfl) Try.func4 (by kernel_rfl)
    (of_decide_eq_true (by kernel_rfl)) (by unfold Func.isWrapper; first | (rw [if_pos (by decide +kernel)]; kernel_rfl) | (rw [if_neg (by decide +kernel)]; exact ⟨rfl, rfl⟩))
    (fun os started H enc _ => coverSplits_lifted os started H enc)
#print axioms coverSplits_holds
end Go.Proofs.Ytheheepblkhfaaa
