/-
  The least birth of any entries, or that there is none, is what the document says; eras below it cover none of them.
  Conditions: none.
-/
import Derived.Test.YtheheepblkhfaaaCLaw
import Derived.Test.YtheheepblkhfaaaOpen
import Derived.ProofKit
import Derived.SizedLaws
import Derived.Carry
namespace Go.Proofs.Ytheheepblkhfaaa
open Go.ChangeShapes Go.WideShapes Go.ChangeAt Go.RowKit
open Go.Deep

theorem mn_le (a : Int) (l : List Ent) : mnV a l ≤ a ∧ ∀ e ∈ l, mnV a l ≤ e.b := by
  induction l generalizing a with
  | nil => exact ⟨Int.le_refl _, by simp⟩
  | cons x l ih =>
    obtain ⟨h1, h2⟩ := ih (if x.b < a then x.b else a)
    have h3 : (if x.b < a then x.b else a) ≤ a ∧ (if x.b < a then x.b else a) ≤ x.b := by split <;> omega
    refine ⟨Int.le_trans h1 h3.1, fun e he => ?_⟩
    rcases List.mem_cons.1 he with rfl | he
    · exact Int.le_trans h1 h3.2
    · exact h2 e he
theorem ol_le (es : List Ent) : ∀ e ∈ es, olV es ≤ e.b := by
  cases es with
  | nil => simp
  | cons x l =>
    intro e he
    rcases List.mem_cons.1 he with rfl | he
    · exact (mn_le _ l).1
    · exact (mn_le _ l).2 e he
theorem none_below (es : List Ent) (x : Int) (h : x < olV es) : es.filter (fun e => cvB e [x]) = [] ∧ es.filter (fun e => !cvB e [x]) = es := by
  have key : ∀ e ∈ es, cvB e [x] = false := by
    intro e he
    have := ol_le es e he
    have h9 : decide (e.b ≤ x) = false := by rw [decide_eq_false_iff_not]; omega
    simp [cvB, lvB, h9]
  constructor
  · rw [List.filter_eq_nil_iff]; intro e he; rw [key e he]; simp
  · rw [List.filter_eq_self]; intro e he; rw [key e he]; rfl
set_option maxRecDepth 100000 in
set_option maxHeartbeats 2000000 in
theorem coverOldest_walk (w : World) (bo : Option Addr) (es : List Ent) (cb : Nat) (x : Int) (_wx : (Lit.int .u64 x).wf = true) (he : SlE w bo es) :
    Calls Try.prog 8 #[.slice bo es.length cb, .int .u64 x] w fun o w' => o = .returned (.bool true) ∧ Kept [] w w' := by
  obtain ⟨m, hm⟩ : ∃ m, m = es.length := ⟨_, rfl⟩
  rw [← hm]
  by_cases h2 : m ≤ 100
  · obtain ⟨A, hA⟩ : ∃ A, es.filter (fun e => cvB e [x]) = A := ⟨_, rfl⟩
    obtain ⟨B, hB⟩ : ∃ B, es.filter (fun e => !cvB e [x]) = B := ⟨_, rfl⟩
    obtain ⟨p, hp⟩ : ∃ p, A.length = p := ⟨_, rfl⟩
    obtain ⟨q, hq⟩ : ∃ q, B.length = q := ⟨_, rfl⟩
    obtain ⟨v, hv⟩ : ∃ v, olV es = v := ⟨_, rfl⟩
    obtain ⟨d, hd⟩ : ∃ d, olB es = d := ⟨_, rfl⟩
    have hcase : (d = true ∧ v ≤ x) ∨ ((d = false ∨ x < v) ∧ p = 0 ∧ q = m) := by
      by_cases hx : x < v
      · right
        obtain ⟨z1, z2⟩ := none_below es x (by rw [hv]; exact hx)
        rw [hA] at z1; rw [hB] at z2
        exact ⟨Or.inr hx, by rw [← hp, z1]; rfl, by rw [← hq, z2, hm]⟩
      · cases d with
        | true => exact Or.inl ⟨rfl, by omega⟩
        | false =>
          right
          have : es = [] := by cases es; rfl; simp [olB] at hd
          subst this
          exact ⟨Or.inl rfl, by rw [← hp, ← hA]; rfl, by rw [← hq, ← hB, hm]; rfl⟩
    have hcase' : (d = true ∧ v ≤ x) ∨ (d = false ∧ p = 0 ∧ q = m) ∨ (d = true ∧ x < v ∧ p = 0 ∧ q = m) := by
      rcases hcase with h | ⟨h | h, h3, h4⟩
      · exact Or.inl h
      · exact Or.inr (Or.inl ⟨h, h3, h4⟩)
      · cases d
        · exact Or.inr (Or.inl ⟨rfl, h3, h4⟩)
        · exact Or.inr (Or.inr ⟨rfl, h, h3, h4⟩)
    have HO : Hid (∀ W c' bo', SlE W bo' es → m ≤ c' → Calls Try.prog 18 #[.slice bo' m c'] W fun o w' => o = .returned (.tuple #[.int .u64 v, .bool d]) ∧ Kept [] W w') := fun W c' bo' h hc => by
      have q := oldest_any bo' es m c' W hm h (by omega) hc
      rw [hv, hd] at q; exact q
    have HQ : Hid (∀ W, SlE W bo es → Calls Try.prog 19 #[.slice bo m cb] W fun o w' => o = .returned (.tuple #[.int .u64 v, .bool d]) ∧ Kept [] W w') := fun W h => by
      have q := roldest_any bo es m cb W hm h (by omega)
      rw [hv, hd] at q; exact q
    have HC : Hid (∀ W cb' bo' b, SlE W bo' es → Row W b [x] → Calls Try.prog 13 #[.slice bo' m cb', .slice (some ⟨b, 0, none⟩) 1 1] W fun o w' => ∃ a1 c1 a2 c2, o = .returned (.tuple #[.slice a1 p c1, .slice a2 q c2]) ∧ SlE w' a1 A ∧ SlE w' a2 B ∧ Kept [] W w') := fun W cb' bo' b h r => split_is (xs := [x]) rfl (by simp) hm (by omega) hA hB hp hq W r.sl h
    have HM : Hid _ := hm
    clear hm hA hB hp hq hv hd hcase
    have HN : Hid (∀ W, Kept [] w W → Calls Try.prog 12 #[.slice bo m cb] W fun o w' => ∃ bo' c', o = .returned (.slice bo' m c') ∧ SlE w' bo' es ∧ m ≤ c' ∧ (bo' = none → c' = 0) ∧ Kept [] W w') := fun W k => news_any bo es m cb W HM.out (he.new k) (by omega)
    go_enter Try.func8, Try.ntmps8
    go_wp2_with fail
    refine (HN.out w (Kept.refl _ _)).mono ?_
    rintro o w1 ⟨xo, cx, rfl, SX, hle, _, K1⟩
    go_wp2_with fail
    refine (HO.out w1 cx xo SX hle).mono ?_
    rintro o w2 ⟨rfl, K2⟩
    replace K1 := K1.trans K2
    clear K2 SX hle
    go_wp2_with fail
    refine (HQ.out w2 (he.new K1)).mono ?_
    rintro o w3 ⟨rfl, K2⟩
    replace K1 := K1.trans K2
    clear K2
    cases d
    all_goals
      go_wp2_with fail
      refine (HN.out w3 K1).mono ?_
      rintro o w4 ⟨yo, cy, rfl, SY, _, _, K2⟩
      replace K1 := K1.trans K2
      clear K2
      have KA : Kept [] w4 (w4.alloc (.cells #[.int .u64 x] 22)) := (Kept.refl _ _).alloc _
      go_wp2_with fail
      refine (HC.out _ cy yo w4.heap.size (SY.new KA) (blk_alloc_new w4 _)).mono ?_
      rintro o w5 ⟨a1, c1, a2, c2, rfl, _, _, K2⟩
      replace K1 := K1.trans (KA.trans K2)
      clear K2 KA SY
      go_wp2_with fail
      refine (alive_any w5).mono ?_
      rintro o w6 ⟨rfl, K2⟩
      replace K1 := K1.trans K2
      clear K2
      rcases hcase' with ⟨h5, h6⟩ | ⟨h5, rfl, h6⟩ | ⟨h5, h7, rfl, h6⟩
      all_goals first
        | (cases h5; done)
        | (try subst h6
           go_wp2
           go_ret
           exact ⟨rfl, K1⟩)
  · clear he hm
    go_enter Try.func8, Try.ntmps8
    go_wp2_with fail
    refine (alive_any _).mono ?_
    rintro o w1 ⟨rfl, K1⟩
    go_wp2
    go_ret
    exact ⟨rfl, K1⟩

theorem coverOldest_own : ownKnob Try.prog.godebug = none := by kernel_rfl
theorem coverOldest_laidOut : laidOutB Try.prog = true := by kernel_rfl
set_option maxRecDepth 100000 in
theorem coverOldest_lifted (os : Os) (started : os.Started) (H : Type) (enc : TypeId × Value → H) :
    ReturnsInHanded {} Try.checked os 8 .any (Rows.coverOldestSpec.pre6 enc Try.prog Try.f8 Rows.coverOldestRow.domain false) (Rows.coverOldestSpec.post enc Try.prog Try.f8 false true false false) := by
  refine returnsInHanded_of_change_sized (C := Try.checked) coverOldest_own started (by kernel_rfl) Try.func8
    (ChangeSpec.witness6 (enc := enc) (C := Try.checked) false ⟨#[], #[.slice none 0 0, .int .u64 0], []⟩ 8 (by kernel_rfl) (by kernel_rfl) (by kernel_rfl) (by kernel_rfl)) ?_
  intro W base args ds gs before hval0 hW _ hsz0 _
  have hsz : (DataW.weightsEach Try.prog (Try.f8.params.toList ++ Rows.coverOldestSpec.plain.varTypes Try.prog) (ds ++ gs)).all (· ≤ reachBytes) = true := hsz0
  clear hsz0
  have hval : ∀ (j : Nat) t v, Try.f8.params[j]? = some t → args[j]? = some v → Value.okWide Try.prog W .any base t v := hval0
  have hW' := hW
  obtain ⟨p, q, hA0, hV, rfl, _, _⟩ := hW
  have hA : DataW.TrodAll enc Try.prog W 0 (fun _ => true) true Try.f8.params.toList args.toList ds p := hA0
  rw [Try.params8] at hA hval hsz
  clear hA0 hval0
  obtain ⟨v0, vs0, d0, ds0, p0, q0, hargs, rfl, rfl, h0, r0⟩ := trodAll_cons hA
  obtain ⟨v1, vs1, d1, ds1, p1, q1, rfl, rfl, rfl, h1, r1⟩ := trodAll_cons r0
  obtain ⟨rfl, rfl, rfl⟩ := trodAll_nil r1
  obtain rfl : args = #[v0, v1] := by cases args; simp_all
  obtain ⟨rfl, rfl⟩ := trodVars_none hV
  have k0 := h0
  have k1 := h1
  simp only [List.append_nil] at hW'
  have hlt0 : ∀ x ∈ p0, x.block < W.heap.size := fun x hx => hW'.lt x (by simp [hx])
  have hlt1 : ∀ x ∈ p1, x.block < W.heap.size := fun x hx => hW'.lt x (by simp [hx])
  obtain ⟨ao0, cap0, es0, rfl, s0⟩ := open_ents (hval 0 30 v0 rfl rfl) h0
  obtain ⟨a1, rfl, rfl, rfl, w1⟩ := open_int Try.underlying22 (hval 1 22 v1 rfl rfl) h1
  refine (coverOldest_walk W ao0 es0 cap0 a1 w1 s0).mono fun e W' ⟨he, hg⟩ => ?_
  subst he
  have hb := hg.below (by simp)
  exact ⟨_, rfl, _, _, _, [], _, [], hW', (trodAll_cons_mk (shut_bool Try.underlying4 _) trodAll_mk0), (trodAll_cons_mk (Below.trod coverOldest_laidOut (by kernel_rfl) (of_decide_eq_true (by kernel_rfl)) k0 hb hlt0) (trodAll_cons_mk (Below.trod coverOldest_laidOut (by kernel_rfl) (of_decide_eq_true (by kernel_rfl)) k1 hb hlt1) trodAll_mk0)), rfl, hb.frame _, fun h => by cases h⟩

theorem coverOldest_holds : Rows.CoverOldestSaid :=
  OpenClaim.holds_of_wide 8 Try.f8 rfl rfl rfl rfl rfl rfl rfl ⟨rfl, rfl, rfl, rfl, rfl⟩ rfl rfl rfl rfl rfl (by kernel_rfl) Try.func8 (by kernel_rfl)
    (of_decide_eq_true (by kernel_rfl)) (by unfold Func.isWrapper; first | (rw [if_pos (by decide +kernel)]; kernel_rfl) | (rw [if_neg (by decide +kernel)]; exact ⟨rfl, rfl⟩))
    (fun os started H enc _ => coverOldest_lifted os started H enc)
#print axioms coverOldest_holds
end Go.Proofs.Ytheheepblkhfaaa
