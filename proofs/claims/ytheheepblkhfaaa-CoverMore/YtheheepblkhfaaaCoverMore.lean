/-
  More eras cover more, and in whatever order; no eras, and 0, cover nothing.
  Conditions: none.
-/
import Derived.Test.YtheheepblkhfaaaCMore
import Derived.Test.YtheheepblkhfaaaOpen
import Derived.ProofKit
import Derived.SizedLaws
import Derived.Carry
namespace Go.Proofs.Ytheheepblkhfaaa
open Go.ChangeShapes Go.WideShapes Go.ChangeAt Go.RowKit
open Go.Deep

theorem cv_app (e : Ent) (xs ys : List Int) : cvB e (xs ++ ys) = (cvB e xs || cvB e ys) := by unfold cvB; rw [List.any_append]
theorem cv_zero (e : Ent) : cvB e [0, 0] = false := rfl
set_option maxRecDepth 100000 in
set_option maxHeartbeats 2000000 in
theorem coverMore_walk (w : World) (e : Ent) (ao : Option Addr) (xs : List Int) (ca : Nat) (bo : Option Addr) (ys : List Int) (cb : Nat) (hs : Sl w ao xs) (_hg : ∀ x ∈ xs, isWord x) (hb : xs.length ≤ 17592186044415) (ha0 : xs.length ≤ ca ∧ (ao = none → ca = 0)) (ht : Sl w bo ys) (_hh : ∀ x ∈ ys, isWord x) (hb2 : ys.length ≤ 17592186044415) (hb0 : ys.length ≤ cb ∧ (bo = none → cb = 0)) :
    Calls Try.prog 6 #[.agg #[.int .u64 e.n, .int .u64 e.b, .int .u64 e.r], .slice ao xs.length ca, .slice bo ys.length cb] w fun o w' => o = .returned (.bool true) ∧ Kept [] w w' := by
  obtain ⟨n, hn⟩ : ∃ n, n = xs.length := ⟨_, rfl⟩
  obtain ⟨m, hm⟩ : ∃ m, m = ys.length := ⟨_, rfl⟩
  rw [← hn] at hb ha0 ⊢
  rw [← hm] at hb2 hb0 ⊢
  have K0 : Kept [] w (w.alloc (.cells #[.int .u64 e.n, .int .u64 e.b, .int .u64 e.r] 24)) := (Kept.refl _ _).alloc _
  by_cases h2 : n ≤ 100
  · by_cases h1 : m ≤ 100
    · have HC : Hid (∀ W ao' (zs : List Int) k' c', k' = zs.length → k' ≤ 1000 → Sl W ao' zs → Calls Try.prog 10 #[.agg #[.int .u64 e.n, .int .u64 e.b, .int .u64 e.r], .slice ao' k' c'] W fun o w' => o = .returned (.bool (cvB e zs)) ∧ Kept [] W w') := fun W ao' zs k' c' hk hl h => covered_any e ao' zs k' c' W hk h (by omega)
      have KB : Kept [] w ((w.alloc (.cells #[.int .u64 e.n, .int .u64 e.b, .int .u64 e.r] 24)).alloc (.cells #[.int .u64 e.n, .int .u64 e.b, .int .u64 e.r] 28)) := K0.alloc _
      have Z0 := blk_alloc_new (w.alloc (.cells #[.int .u64 e.n, .int .u64 e.b, .int .u64 e.r] 24)) (.cells #[.int .u64 e.n, .int .u64 e.b, .int .u64 e.r] 28)
      rw [nblk_alloc] at Z0
      obtain ⟨B, hB⟩ : ∃ B, B = w.heap.size + 1 := ⟨_, rfl⟩
      rw [← hB] at Z0
      have HNM : Hid _ := And.intro hn hm
      clear hn hm
      go_enter Try.func6, Try.ntmps6
      go_upto_region 4 with (fail)
      refine gen_world (fun W => W.heap[B]? = some (.cells #[.int .u64 e.n, .int .u64 e.b, .int .u64 e.r] 28 (0, 0)) ∧ Kept [] w W) ⟨Z0, KB⟩ ?_
      rw [← hB]
      clear Z0 KB K0 hB
      rintro W ⟨Z, T⟩
      obtain ⟨hn, hm⟩ := HNM.out
      have H1 : Hid (∀ p : KW W, Calls Try.prog 10 #[.agg #[.int .u64 e.n, .int .u64 e.b, .int .u64 e.r], .slice ao n ca] p.val fun o w'' => o = .returned (.bool (cvB e xs)) ∧ ∃ q : KW W, w'' = q.val) := fun p => Calls.kw_of (HC.out p.val ao xs n ca hn (by omega) (hs.new (T.trans p.kept)))
      have H2 : Hid (∀ p : KW W, Calls Try.prog 10 #[.agg #[.int .u64 e.n, .int .u64 e.b, .int .u64 e.r], .slice bo m cb] p.val fun o w'' => o = .returned (.bool (cvB e ys)) ∧ ∃ q : KW W, w'' = q.val) := fun p => Calls.kw_of (HC.out p.val bo ys m cb hm (by omega) (ht.new (T.trans p.kept)))
      have q0 : ∀ p : KW W, p.val.cell? ⟨B, 0, none⟩ = some (.int .u64 e.n) := KW.cell (cell_of_blk Z (i := 0) rfl)
      have q1 : ∀ p : KW W, p.val.cell? ⟨B, 1, none⟩ = some (.int .u64 e.b) := KW.cell (cell_of_blk Z (i := 1) rfl)
      have q2 : ∀ p : KW W, p.val.cell? ⟨B, 2, none⟩ = some (.int .u64 e.r) := KW.cell (cell_of_blk Z (i := 2) rfl)
      have HX : Hid _ := And.intro hn (And.intro hm (And.intro hs (And.intro ht (And.intro Z T))))
      have EP : Hid _ := cv_app e xs ys
      have EQ : Hid _ := cv_app e ys xs
      clear hn hm hs ht Z T
      generalize cvB e xs = p at H1 EP EQ
      generalize cvB e ys = q at H2 EP EQ
      refine wp_region_kept (by kernel_rfl) (by kernel_rfl) ?_
      repeat (first | go_big_quiet_step ((first | (go_at_call 10; exact H1.out _) | (go_at_call 10; exact H2.out _))) | quiet_step ((first | (go_at_call 10; exact H1.out _) | (go_at_call 10; exact H2.out _))))
      refine wpQuiet_nil ?_
      intro _ hw'
      obtain ⟨pq, hw''⟩ := hw'
      subst hw''
      obtain ⟨hn, hm, hs, ht, Z, T⟩ := HX.out
      replace T := T.trans pq.kept
      replace Z := pq.kept.blk Z (by simp)
      generalize pq.val = W1 at T Z ⊢
      clear q0 q1 q2 H1 H2 HX pq
      obtain ⟨co, cc, W2, hap, S1, K1⟩ := append_words 25 W1 ao bo xs ys n m cb hn hm (hs.new T) (ht.new T) (by omega) (by omega)
      obtain ⟨do_, cd, W3, hap2, S2, K2⟩ := append_words 25 W2 bo ao ys xs m n ca hm hn (ht.new (T.trans K1)) (hs.new (T.trans K1)) (by omega) (by omega)
      have HN : Hid _ := hn
      have HM : Hid _ := hm
      clear hn hm
      go_wp2_with (first | (at_builtin; refine wpList_append_run rfl (.tmp 33) (.tmp 34) 25 rfl rfl rfl hap ?_) | (at_builtin; refine wpList_append_run rfl (.tmp 41) (.tmp 42) 25 rfl rfl rfl hap2 ?_))
      clear hap hap2
      replace S1 := S1.new K2
      replace Z := (K1.trans K2).blk Z (by simp)
      replace T := T.trans (K1.trans K2)
      clear K1 K2
      refine (alive_any W3).mono ?_
      rintro o W4 ⟨rfl, K1⟩
      replace S1 := S1.new K1
      replace S2 := S2.new K1
      replace Z := K1.blk Z (by simp)
      replace T := T.trans K1
      clear K1
      have c0 := cell_of_blk Z (i := 0) rfl
      have c1 := cell_of_blk Z (i := 1) rfl
      have c2 := cell_of_blk Z (i := 2) rfl
      have hc1 := HC.out W4 co (xs ++ ys) (n + m) cc (by rw [List.length_append, ← HN.out, ← HM.out]) (by omega) S1
      rw [EP.out] at hc1
      have hc2 := fun W5 (k : Kept [] W4 W5) => HC.out W5 do_ (ys ++ xs) (m + n) cd (by rw [List.length_append, ← HN.out, ← HM.out]) (by omega) (S2.new k)
      rw [EQ.out] at hc2
      have HD : Hid _ := hc2
      clear hc2 EP EQ S1 S2
      cases p <;> cases q
      all_goals
        go_wp2_with fail
        refine hc1.mono ?_
        rintro o W5 ⟨rfl, K1⟩
        clear hc1 c0 c1 c2
        replace Z := K1.blk Z (by simp)
        replace T := T.trans K1
        have hc2 := HD.out W5 K1
        clear K1
        have c0 := cell_of_blk Z (i := 0) rfl
        have c1 := cell_of_blk Z (i := 1) rfl
        have c2 := cell_of_blk Z (i := 2) rfl
        go_wp2_with fail
        refine hc2.mono ?_
        rintro o W6 ⟨rfl, K1⟩
        clear hc2 c0 c1 c2 HD
        replace Z := K1.blk Z (by simp)
        replace T := T.trans K1
        clear K1
        have c0 := cell_of_blk Z (i := 0) rfl
        have c1 := cell_of_blk Z (i := 1) rfl
        have c2 := cell_of_blk Z (i := 2) rfl
        go_wp2_with fail
        refine (HC.out W6 none [] 0 0 rfl (by omega) (fun h => absurd h (by simp))).mono ?_
        rintro o W7 ⟨rfl, K1⟩
        rw [show cvB e [] = false from rfl]
        replace Z := K1.blk Z (by simp)
        replace T := T.trans K1
        clear K1 c0 c1 c2
        have c0 := cell_of_blk Z (i := 0) rfl
        have c1 := cell_of_blk Z (i := 1) rfl
        have c2 := cell_of_blk Z (i := 2) rfl
        have KA : Kept [] W7 (W7.alloc (.cells #[.int .u64 0, .int .u64 0] 22)) := (Kept.refl _ _).alloc _
        go_wp2_with fail
        refine (HC.out _ (some ⟨W7.heap.size, 0, none⟩) [0, 0] 2 2 rfl (by omega) (Row.sl (blk_alloc_new W7 _))).mono ?_
        rintro o W8 ⟨rfl, K1⟩
        rw [show cvB e [0, 0] = false from cv_zero e]
        go_wp2
        go_ret
        exact ⟨rfl, T.trans (KA.trans K1)⟩
    · clear hs ht hn hm
      go_enter Try.func6, Try.ntmps6
      go_wp2_with fail
      refine (alive_any _).mono ?_
      rintro o w1 ⟨rfl, K1⟩
      go_wp2
      go_ret
      exact ⟨rfl, K0.trans K1⟩
  · clear hs ht hn hm
    go_enter Try.func6, Try.ntmps6
    go_wp2_with fail
    refine (alive_any _).mono ?_
    rintro o w1 ⟨rfl, K1⟩
    go_wp2
    go_ret
    exact ⟨rfl, K0.trans K1⟩

theorem coverMore_own : ownKnob Try.prog.godebug = none := by kernel_rfl
theorem coverMore_laidOut : laidOutB Try.prog = true := by kernel_rfl
set_option maxRecDepth 100000 in
theorem coverMore_lifted (os : Os) (started : os.Started) (H : Type) (enc : TypeId × Value → H) :
    ReturnsInHanded {} Try.checked os 6 .any (Rows.coverMoreSpec.pre6 enc Try.prog Try.f6 Rows.coverMoreRow.domain false) (Rows.coverMoreSpec.post enc Try.prog Try.f6 false true false false) := by
  refine returnsInHanded_of_change_sized (C := Try.checked) coverMore_own started (by kernel_rfl) Try.func6
    (ChangeSpec.witness6 (enc := enc) (C := Try.checked) false ⟨#[], #[.agg #[.int .u64 0, .int .u64 0, .int .u64 0], .slice none 0 0, .slice none 0 0], []⟩ 8 (by kernel_rfl) (by kernel_rfl) (by kernel_rfl) (by kernel_rfl)) ?_
  intro W base args ds gs before hval0 hW _ hsz0 _
  have hsz : (DataW.weightsEach Try.prog (Try.f6.params.toList ++ Rows.coverMoreSpec.plain.varTypes Try.prog) (ds ++ gs)).all (· ≤ reachBytes) = true := hsz0
  clear hsz0
  have hval : ∀ (j : Nat) t v, Try.f6.params[j]? = some t → args[j]? = some v → Value.okWide Try.prog W .any base t v := hval0
  have hW' := hW
  obtain ⟨p, q, hA0, hV, rfl, _, _⟩ := hW
  have hA : DataW.TrodAll enc Try.prog W 0 (fun _ => true) true Try.f6.params.toList args.toList ds p := hA0
  rw [Try.params6] at hA hval hsz
  clear hA0 hval0
  obtain ⟨v0, vs0, d0, ds0, p0, q0, hargs, rfl, rfl, h0, r0⟩ := trodAll_cons hA
  obtain ⟨v1, vs1, d1, ds1, p1, q1, rfl, rfl, rfl, h1, r1⟩ := trodAll_cons r0
  obtain ⟨v2, vs2, d2, ds2, p2, q2, rfl, rfl, rfl, h2, r2⟩ := trodAll_cons r1
  obtain ⟨rfl, rfl, rfl⟩ := trodAll_nil r2
  obtain rfl : args = #[v0, v1, v2] := by cases args; simp_all
  obtain ⟨rfl, rfl⟩ := trodVars_none hV
  have k0 := h0
  have k1 := h1
  have k2 := h2
  simp only [List.append_nil] at hW'
  have hlt0 : ∀ x ∈ p0, x.block < W.heap.size := fun x hx => hW'.lt x (by simp [hx])
  have hlt1 : ∀ x ∈ p1, x.block < W.heap.size := fun x hx => hW'.lt x (by simp [hx])
  have hlt2 : ∀ x ∈ p2, x.block < W.heap.size := fun x hx => hW'.lt x (by simp [hx])
  obtain ⟨e0, rfl⟩ := open_ent (hval 0 24 v0 rfl rfl) h0
  obtain ⟨ao1, cap1, xs1, rfl, s1, g1, z1, _⟩ := open_words (hval 1 25 v1 rfl rfl) h1
  obtain ⟨ao2, cap2, xs2, rfl, s2, g2, z2, _⟩ := open_words (hval 2 25 v2 rfl rfl) h2
  have b1 := len_words hsz (j := 1) rfl (fun el sp e => by subst e; rfl) z1
  have cp1 := cap_of_words h1
  have b2 := len_words hsz (j := 2) rfl (fun el sp e => by subst e; rfl) z2
  have cp2 := cap_of_words h2
  refine (coverMore_walk W e0 ao1 xs1 cap1 ao2 xs2 cap2 s1 g1 b1 cp1 s2 g2 b2 cp2).mono fun e W' ⟨he, hg⟩ => ?_
  subst he
  have hb := hg.below (by simp)
  exact ⟨_, rfl, _, _, _, [], _, [], hW', (trodAll_cons_mk (shut_bool Try.underlying4 _) trodAll_mk0), (trodAll_cons_mk (Below.trod coverMore_laidOut (by kernel_rfl) (of_decide_eq_true (by kernel_rfl)) k0 hb hlt0) (trodAll_cons_mk (Below.trod coverMore_laidOut (by kernel_rfl) (of_decide_eq_true (by kernel_rfl)) k1 hb hlt1) (trodAll_cons_mk (Below.trod coverMore_laidOut (by kernel_rfl) (of_decide_eq_true (by kernel_rfl)) k2 hb hlt2) trodAll_mk0))), rfl, hb.frame _, fun h => by cases h⟩

theorem coverMore_holds : Rows.CoverMoreSaid :=
  OpenClaim.holds_of_wide 6 Try.f6 rfl rfl rfl rfl rfl rfl rfl ⟨rfl, rfl, rfl, rfl, rfl⟩ rfl rfl rfl rfl rfl (by kernel_rfl) Try.func6 (by kernel_rfl)
    (of_decide_eq_true (by kernel_rfl)) (by unfold Func.isWrapper; first | (rw [if_pos (by decide +kernel)]; kernel_rfl) | (rw [if_neg (by decide +kernel)]; exact ⟨rfl, rfl⟩))
    (fun os started H enc _ => coverMore_lifted os started H enc)
#print axioms coverMore_holds
end Go.Proofs.Ytheheepblkhfaaa
