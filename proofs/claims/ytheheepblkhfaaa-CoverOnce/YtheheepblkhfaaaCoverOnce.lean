/-
  Each entry is in one of both, as often as it was.
  Conditions: none.
-/
import Derived.Test.YtheheepblkhfaaaCLaw
import Derived.Test.YtheheepblkhfaaaOpen
import Derived.ProofKit
import Derived.SizedLaws
import Derived.Carry
namespace Go.Proofs.Ytheheepblkhfaaa
open Go.ChangeShapes Go.WideShapes Go.ChangeAt Go.RowKit
open Go.Deep

theorem two_parts (es : List Ent) (f : Ent → Bool) : (es.filter f).length + (es.filter (fun e => !f e)).length = es.length := by
  induction es with
  | nil => rfl
  | cons x l ih => cases h : f x <;> simp [h] <;> omega
theorem cn_parts (e : Ent) (es : List Ent) (f : Ent → Bool) : cnV e (es.filter f) + cnV e (es.filter (fun e => !f e)) = cnV e es := by
  unfold cnV
  induction es with
  | nil => rfl
  | cons x l ih => cases h : f x <;> simp [h, List.countP_cons] <;> omega
theorem cn_zero (e : Ent) (es : List Ent) (f : Ent → Bool) (h : f e = false) : cnV e (es.filter f) = 0 := by
  unfold cnV
  rw [List.countP_eq_zero]
  intro x hx
  have := (List.mem_filter.1 hx).2
  simp only [decide_eq_true_eq]
  rintro rfl
  rw [h] at this; cases this
theorem cn_one (e : Ent) (es : List Ent) (f : Ent → Bool) : cnV e (es.filter f) = 0 ∨ cnV e (es.filter (fun e => !f e)) = 0 := by
  cases h : f e with
  | false => exact Or.inl (cn_zero e es f h)
  | true => exact Or.inr (cn_zero e es (fun e => !f e) (by simp [h]))
set_option maxRecDepth 100000 in
set_option maxHeartbeats 2000000 in
theorem coverOnce_walk (w : World) (bo : Option Addr) (es : List Ent) (cb : Nat) (ao : Option Addr) (xs : List Int) (cap : Nat) (e : Ent) (he : SlE w bo es) (hs : Sl w ao xs) (_hg : ∀ x ∈ xs, isWord x) (hb : xs.length ≤ 17592186044415) :
    Calls Try.prog 5 #[.slice bo es.length cb, .slice ao xs.length cap, .agg #[.int .u64 e.n, .int .u64 e.b, .int .u64 e.r]] w fun o w' => o = .returned (.bool true) ∧ Kept [] w w' := by
  obtain ⟨n, hn⟩ : ∃ n, n = xs.length := ⟨_, rfl⟩
  obtain ⟨m, hm⟩ : ∃ m, m = es.length := ⟨_, rfl⟩
  rw [← hn] at hb ⊢
  rw [← hm]
  have K0 : Kept [] w (w.alloc (.cells #[.int .u64 e.n, .int .u64 e.b, .int .u64 e.r] 24)) := (Kept.refl _ _).alloc _
  by_cases h2 : m ≤ 100
  · by_cases h1 : n ≤ 100
    · obtain ⟨A, hA⟩ : ∃ A, es.filter (fun e => cvB e xs) = A := ⟨_, rfl⟩
      obtain ⟨B, hB⟩ : ∃ B, es.filter (fun e => !cvB e xs) = B := ⟨_, rfl⟩
      obtain ⟨p, hp⟩ : ∃ p, A.length = p := ⟨_, rfl⟩
      obtain ⟨q, hq⟩ : ∃ q, B.length = q := ⟨_, rfl⟩
      have hpq : p + q = m := by have := two_parts es (fun e => cvB e xs); rw [hA, hB] at this; omega
      obtain ⟨x, hx⟩ : ∃ x, cnV e A = x := ⟨_, rfl⟩
      obtain ⟨y, hy⟩ : ∃ y, cnV e B = y := ⟨_, rfl⟩
      have hxy : cnV e es = x + y := by have := cn_parts e es (fun e => cvB e xs); rw [hA, hB] at this; omega
      have hx1 : x ≤ p := by rw [← hx, ← hp]; exact cn_le _ _
      have hy1 : y ≤ q := by rw [← hy, ← hq]; exact cn_le _ _
      have hz : x = 0 ∨ y = 0 := by have := cn_one e es (fun e => cvB e xs); rw [hA, hB, hx, hy] at this; exact this
      have HC : Hid (∀ W cb' bo', SlE W bo' es → Kept [] w W → Calls Try.prog 13 #[.slice bo' m cb', .slice ao n cap] W fun o w' => ∃ a1 c1 a2 c2, o = .returned (.tuple #[.slice a1 p c1, .slice a2 q c2]) ∧ SlE w' a1 A ∧ SlE w' a2 B ∧ Kept [] W w') := fun W cb' bo' h k => split_is hn hb hm (by omega) hA hB hp hq W (hs.new k) h
      have HN : Hid (∀ W, Kept [] w W → Calls Try.prog 12 #[.slice bo m cb] W fun o w' => ∃ bo' c', o = .returned (.slice bo' m c') ∧ SlE w' bo' es ∧ m ≤ c' ∧ (bo' = none → c' = 0) ∧ Kept [] W w') := fun W k => news_any bo es m cb W hm (he.new k) (by omega)
      obtain ⟨E, hE⟩ : ∃ E, E = w.heap.size := ⟨_, rfl⟩
      obtain ⟨W0, hW0⟩ : ∃ W0, W0 = w.alloc (.cells #[.int .u64 e.n, .int .u64 e.b, .int .u64 e.r] 24) := ⟨_, rfl⟩
      have Z0 := blk_alloc_new w (.cells #[.int .u64 e.n, .int .u64 e.b, .int .u64 e.r] 24)
      rw [← hE, ← hW0] at Z0
      rw [← hW0] at K0
      have HKA : Hid (∀ W, Kept [] W0 W → ∀ bo' cb', SlE W bo' A → Calls Try.prog 17 #[.slice bo' p cb', .pointer (some ⟨E, 0, none⟩)] W fun o w' => o = .returned (.int .i64 (x : Nat)) ∧ Kept [] W w') := fun W k bo' cb' h => by
        have r := count_of e E bo' A p cb' W (k.blk Z0 (by simp)) hp.symm h (by omega)
        rw [hx] at r; exact r
      have HKB : Hid (∀ W, Kept [] W0 W → ∀ bo' cb', SlE W bo' B → Calls Try.prog 17 #[.slice bo' q cb', .pointer (some ⟨E, 0, none⟩)] W fun o w' => o = .returned (.int .i64 (y : Nat)) ∧ Kept [] W w') := fun W k bo' cb' h => by
        have r := count_of e E bo' B q cb' W (k.blk Z0 (by simp)) hq.symm h (by omega)
        rw [hy] at r; exact r
      have HKS : Hid (∀ W, Kept [] W0 W → ∀ bo' cb', SlE W bo' es → Calls Try.prog 17 #[.slice bo' m cb', .pointer (some ⟨E, 0, none⟩)] W fun o w' => o = .returned (.int .i64 ((x + y : Nat) : Int)) ∧ Kept [] W w') := fun W k bo' cb' h => by
        have r := count_of e E bo' es m cb' W (k.blk Z0 (by simp)) hm h (by omega)
        rw [hxy] at r; exact r
      clear hn hm hs hA hB hp hq hx hy hxy Z0 he
      subst hpq
      go_enter Try.func5, Try.ntmps5
      go_upto_region 1 with (fail)
      rw [← hE, ← hW0]
      clear hE hW0
      go_wp2_with fail
      refine (HN.out W0 K0).mono ?_
      rintro o w1 ⟨xo, cx, rfl, SX, _, _, K1⟩
      go_wp2_with fail
      refine (HC.out w1 cx xo SX (K0.trans K1)).mono ?_
      rintro o w2 ⟨a1, c1, a2, c2, rfl, SA, SB, K2⟩
      replace K1 := K1.trans K2
      clear K2 SX
      go_wp2_with fail
      refine (alive_any w2).mono ?_
      rintro o w3 ⟨rfl, K2⟩
      replace SA := SA.new K2
      replace SB := SB.new K2
      replace K1 := K1.trans K2
      clear K2
      go_wp2_with fail
      refine (HKA.out w3 K1 _ _ SA).mono ?_
      rintro o w4 ⟨rfl, K2⟩
      replace SA := SA.new K2
      replace SB := SB.new K2
      replace K1 := K1.trans K2
      clear K2
      go_wp2_with fail
      refine (HKB.out w4 K1 _ _ SB).mono ?_
      rintro o w5 ⟨rfl, K2⟩
      replace SA := SA.new K2
      replace SB := SB.new K2
      replace K1 := K1.trans K2
      clear K2
      go_wp2_with fail
      refine (HN.out w5 (K0.trans K1)).mono ?_
      rintro o w6 ⟨yo, cy, rfl, SY, _, _, K2⟩
      replace SA := SA.new K2
      replace SB := SB.new K2
      replace K1 := K1.trans K2
      clear K2
      go_wp2_with fail
      refine (HKS.out w6 K1 _ _ SY).mono ?_
      rintro o w7 ⟨rfl, K2⟩
      replace SA := SA.new K2
      replace SB := SB.new K2
      replace K1 := K1.trans K2
      clear K2 SY
      go_wp2_with fail
      refine (HKA.out w7 K1 _ _ SA).mono ?_
      rintro o w8 ⟨rfl, K2⟩
      replace SB := SB.new K2
      replace K1 := K1.trans K2
      clear K2 SA
      by_cases h0 : x = 0
      · subst h0
        go_wp2
        go_ret
        exact ⟨rfl, K0.trans K1⟩
      · have hy0 : y = 0 := by omega
        subst hy0
        go_wp2_with fail
        refine (HKB.out w8 K1 _ _ SB).mono ?_
        rintro o w9 ⟨rfl, K2⟩
        go_wp2
        go_ret
        exact ⟨rfl, K0.trans (K1.trans K2)⟩
    · clear hs he hn hm
      go_enter Try.func5, Try.ntmps5
      go_wp2_with fail
      refine (alive_any _).mono ?_
      rintro o w1 ⟨rfl, K1⟩
      go_wp2
      go_ret
      exact ⟨rfl, K0.trans K1⟩
  · clear hs he hn hm
    go_enter Try.func5, Try.ntmps5
    go_wp2_with fail
    refine (alive_any _).mono ?_
    rintro o w1 ⟨rfl, K1⟩
    go_wp2
    go_ret
    exact ⟨rfl, K0.trans K1⟩

theorem coverOnce_own : ownKnob Try.prog.godebug = none := by kernel_rfl
theorem coverOnce_laidOut : laidOutB Try.prog = true := by kernel_rfl
set_option maxRecDepth 100000 in
theorem coverOnce_lifted (os : Os) (started : os.Started) (H : Type) (enc : TypeId × Value → H) :
    ReturnsInHanded {} Try.checked os 5 .any (Rows.coverOnceSpec.pre6 enc Try.prog Try.f5 Rows.coverOnceRow.domain false) (Rows.coverOnceSpec.post enc Try.prog Try.f5 false true false false) := by
  refine returnsInHanded_of_change_sized (C := Try.checked) coverOnce_own started (by kernel_rfl) Try.func5
    (ChangeSpec.witness6 (enc := enc) (C := Try.checked) false ⟨#[], #[.slice none 0 0, .slice none 0 0, .agg #[.int .u64 0, .int .u64 0, .int .u64 0]], []⟩ 8 (by kernel_rfl) (by kernel_rfl) (by kernel_rfl) (by kernel_rfl)) ?_
  intro W base args ds gs before hval0 hW _ hsz0 _
  have hsz : (DataW.weightsEach Try.prog (Try.f5.params.toList ++ Rows.coverOnceSpec.plain.varTypes Try.prog) (ds ++ gs)).all (· ≤ reachBytes) = true := hsz0
  clear hsz0
  have hval : ∀ (j : Nat) t v, Try.f5.params[j]? = some t → args[j]? = some v → Value.okWide Try.prog W .any base t v := hval0
  have hW' := hW
  obtain ⟨p, q, hA0, hV, rfl, _, _⟩ := hW
  have hA : DataW.TrodAll enc Try.prog W 0 (fun _ => true) true Try.f5.params.toList args.toList ds p := hA0
  rw [Try.params5] at hA hval hsz
  clear hA0 hval0
  obtain ⟨v0, vs0, d0, ds0, p0, q0, hargs, rfl, rfl, h0, r0⟩ := trodAll_cons hA
  obtain ⟨v1, vs1, d1, ds1, p1, q1, rfl, rfl, rfl, h1, r1⟩ := trodAll_cons r0
  obtain ⟨v2, vs2, d2, ds2, p2, q2, rfl, rfl, rfl, h2, r2⟩ := trodAll_cons r1
  obtain ⟨rfl, rfl, rfl⟩ := trodAll_nil r2
  obtain rfl : args = #[v0, v1, v2] := by cases args; simp_all
  obtain ⟨rfl, rfl⟩ := trodVars_none hV
  have k0 := h0
  have k1 := h1
  have k2 := h2
  simp only [List.append_nil] at hW'
  have hlt0 : ∀ x ∈ p0, x.block < W.heap.size := fun x hx => hW'.lt x (by simp [hx])
  have hlt1 : ∀ x ∈ p1, x.block < W.heap.size := fun x hx => hW'.lt x (by simp [hx])
  have hlt2 : ∀ x ∈ p2, x.block < W.heap.size := fun x hx => hW'.lt x (by simp [hx])
  obtain ⟨ao0, cap0, es0, rfl, s0⟩ := open_ents (hval 0 30 v0 rfl rfl) h0
  obtain ⟨ao1, cap1, xs1, rfl, s1, g1, z1, _⟩ := open_words (hval 1 25 v1 rfl rfl) h1
  obtain ⟨e2, rfl⟩ := open_ent (hval 2 24 v2 rfl rfl) h2
  have b1 := len_words hsz (j := 1) rfl (fun el sp e => by subst e; rfl) z1
  refine (coverOnce_walk W ao0 es0 cap0 ao1 xs1 cap1 e2 s0 s1 g1 b1).mono fun e W' ⟨he, hg⟩ => ?_
  subst he
  have hb := hg.below (by simp)
  exact ⟨_, rfl, _, _, _, [], _, [], hW', (trodAll_cons_mk (shut_bool Try.underlying4 _) trodAll_mk0), (trodAll_cons_mk (Below.trod coverOnce_laidOut (by kernel_rfl) (of_decide_eq_true (by kernel_rfl)) k0 hb hlt0) (trodAll_cons_mk (Below.trod coverOnce_laidOut (by kernel_rfl) (of_decide_eq_true (by kernel_rfl)) k1 hb hlt1) (trodAll_cons_mk (Below.trod coverOnce_laidOut (by kernel_rfl) (of_decide_eq_true (by kernel_rfl)) k2 hb hlt2) trodAll_mk0))), rfl, hb.frame _, fun h => by cases h⟩

theorem coverOnce_holds : Rows.CoverOnceSaid :=
  OpenClaim.holds_of_wide 5 Try.f5 rfl rfl rfl rfl rfl rfl rfl ⟨rfl, rfl, rfl, rfl, rfl⟩ rfl rfl rfl rfl rfl (by kernel_rfl) Try.func5 (by kernel_rfl)
    (of_decide_eq_true (by kernel_rfl)) (by unfold Func.isWrapper; first | (rw [if_pos (by decide +kernel)]; kernel_rfl) | (rw [if_neg (by decide +kernel)]; exact ⟨rfl, rfl⟩))
    (fun os started H enc _ => coverOnce_lifted os started H enc)
#print axioms coverOnce_holds
end Go.Proofs.Ytheheepblkhfaaa
