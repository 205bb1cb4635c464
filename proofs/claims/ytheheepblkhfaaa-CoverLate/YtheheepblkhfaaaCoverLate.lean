/-
  An entry that was born behind all eras, or retired ahead of all, is not covered; one that lived in one of them is.
  Conditions: none.
-/
import Derived.Test.YtheheepblkhfaaaCLaw
import Derived.Test.YtheheepblkhfaaaOpen
import Derived.ProofKit
import Derived.SizedLaws
import Derived.Carry
namespace Go.Proofs.Ytheheepblkhfaaa
open Go.ChangeShapes Go.WideShapes Go.ChangeAt Go.RowKit
open Go.Deep

def ltB (e : Ent) (l : List Int) : Bool := l.all (fun x => decide (x < e.b))
def erB (e : Ent) (l : List Int) : Bool := l.all (fun x => decide (e.r < x))
theorem all_next (p : Int → Bool) {l : List Int} {k : Nat} (h : k < l.length) : (l.take (k + 1)).all p = ((l.take k).all p && p (l.getD k 0)) := by
  rw [take_next h 0]; simp
theorem late_not (e : Ent) (l : List Int) (h : ltB e l = true) : cvB e l = false := by
  unfold ltB at h; unfold cvB
  rw [List.all_eq_true] at h
  rw [List.any_eq_false]
  intro x hx
  have := h x hx
  have h9 : x < e.b := by simpa using this
  have : decide (e.b ≤ x) = false := by rw [decide_eq_false_iff_not]; omega
  simp [lvB, this]
theorem early_not (e : Ent) (l : List Int) (h : erB e l = true) : cvB e l = false := by
  unfold erB at h; unfold cvB
  rw [List.all_eq_true] at h
  rw [List.any_eq_false]
  intro x hx
  have := h x hx
  have h9 : e.r < x := by simpa using this
  have : decide (x ≤ e.r) = false := by rw [decide_eq_false_iff_not]; omega
  simp [lvB, this]
set_option maxRecDepth 100000 in
set_option maxHeartbeats 8000000 in
theorem coverLate_walk (w : World) (e : Ent) (ao : Option Addr) (xs : List Int) (cap : Nat) (at_ : Int) (_wa : (Lit.int .i64 at_).wf = true) (hs : Sl w ao xs) (_hg : ∀ x ∈ xs, isWord x) (hb : xs.length ≤ 17592186044415) :
    Calls Try.prog 7 #[.agg #[.int .u64 e.n, .int .u64 e.b, .int .u64 e.r], .slice ao xs.length cap, .int .i64 at_] w fun o w' => o = .returned (.bool true) ∧ Kept [] w w' := by
  obtain ⟨n, hn⟩ : ∃ n, n = xs.length := ⟨_, rfl⟩
  rw [← hn] at hb ⊢
  have K0 : Kept [] w (w.alloc (.cells #[.int .u64 e.n, .int .u64 e.b, .int .u64 e.r] 24)) := (Kept.refl _ _).alloc _
  by_cases h1 : n ≤ 100
  · have Z0 := blk_alloc_new w (.cells #[.int .u64 e.n, .int .u64 e.b, .int .u64 e.r] 24)
    obtain ⟨W, hW⟩ : ∃ W, W = w.alloc (.cells #[.int .u64 e.n, .int .u64 e.b, .int .u64 e.r] 24) := ⟨_, rfl⟩
    obtain ⟨B, hB⟩ : ∃ B, B = w.heap.size := ⟨_, rfl⟩
    rw [← hW] at K0 Z0
    rw [← hB] at Z0
    have HC : Hid (∀ W', Kept [] w W' → Calls Try.prog 10 #[.agg #[.int .u64 e.n, .int .u64 e.b, .int .u64 e.r], .slice ao n cap] W' fun o w' => o = .returned (.bool (cvB e xs)) ∧ Kept [] W' w') := fun W' k => covered_any e ao xs n cap W' hn (hs.new k) hb
    have HN : Hid _ := hn
    clear hn
    go_enter Try.func7, Try.ntmps7
    go_upto_region 1 with (fail)
    rw [← hB, ← hW]
    clear hB hW
    go_wp2
    go_loopw [7, 8, 18] (fun u v i wr => ∃ (k : Nat) (a b : Bool), k ≤ n ∧ i = .int .i64 k ∧ u = .bool a ∧ v = .bool b ∧ a = ltB e (xs.take k) ∧ b = erB e (xs.take k) ∧ wr = W) (fun _ _ i _ => n - (intOf i).toNat)
    case atStart => exact ⟨0, true, true, Nat.zero_le _, rfl, rfl, rfl, rfl, rfl, rfl⟩
    case round =>
      obtain ⟨k, a, b, hk, rfl, rfl, rfl, ha, hb', rfl⟩ := hrel
      have HA : Hid _ := ha
      have HB : Hid _ := hb'
      clear ha hb'
      by_cases hlt : k < n
      · have hkx : k < xs.length := by have := HN.out; omega
        obtain ⟨b1, o1, rfl, _, c1⟩ := (hs.new K0).cell hkx
        have HA2 : Hid _ := all_next (fun x => decide (x < e.b)) hkx
        have HB2 : Hid _ := all_next (fun x => decide (e.r < x)) hkx
        generalize xs.getD k 0 = v at c1 HA2 HB2
        have q1 := cell_of_blk Z0 (i := 1) rfl
        have q2 := cell_of_blk Z0 (i := 2) rfl
        by_cases hv1 : v < e.b <;> by_cases hv2 : e.r < v <;> cases a <;> cases b
        all_goals
          go_wp2
          refine ⟨⟨k + 1, _, _, by omega, by go_num, rfl, rfl, ?_, ?_, (by first | trivial | rfl)⟩, by simp [intOf]; omega⟩
          · unfold ltB; rw [HA2.out]; have h9 := HA.out; unfold ltB at h9; rw [← h9]; simp [hv1]
          · unfold erB; rw [HB2.out]; have h9 := HB.out; unfold erB at h9; rw [← h9]; simp [hv2]
      · have e2 : xs.take k = xs := List.take_of_length_le (by have := HN.out; omega)
        rw [e2] at HA HB
        have hlv : ∀ i : Nat, i < xs.length → lvB e (xs.getD i 0) = true → cvB e xs = true := fun i hi h => any_of_take (lvB e) hi h
        have hF : (a = true → cvB e xs = false) ∧ (b = true → cvB e xs = false) := ⟨fun h => late_not e xs (by rw [← HA.out]; exact h), fun h => early_not e xs (by rw [← HB.out]; exact h)⟩
        clear HA HB e2
        have hcv := HC.out _ K0
        generalize cvB e xs = d at hlv hF hcv
        have HF : Hid _ := hF
        have HL : Hid _ := hlv
        clear hF hlv
        have p0 := cell_of_blk Z0 (i := 0) rfl
        have p1 := cell_of_blk Z0 (i := 1) rfl
        have p2 := cell_of_blk Z0 (i := 2) rfl
        go_wp2_with fail
        refine hcv.mono ?_
        rintro o w1 ⟨rfl, K1⟩
        have Z1 := K1.blk Z0 (by simp)
        have T1 := K0.trans K1
        have q1 := cell_of_blk Z1 (i := 1) rfl
        have q2 := cell_of_blk Z1 (i := 2) rfl
        clear Z1 Z0 K0 K1 hcv p0 p1 p2
        by_cases g0 : at_ < 0
        · have t0 : decide (0 ≤ at_) = false := by rw [decide_eq_false_iff_not]; omega
          go_wp2_with fail
          go_quiet (fail)
          go_wp2_with fail
          refine (alive_any _).mono ?_
          rintro o w3 ⟨rfl, K3⟩
          replace K3 := (T1.drewN _).trans K3
          cases a <;> cases b <;> cases d
          all_goals first
            | (exact absurd (HF.out.1 rfl) (by decide))
            | (exact absurd (HF.out.2 rfl) (by decide))
            | (go_wp2
               go_ret
               exact ⟨rfl, K3⟩)
        obtain ⟨i, rfl⟩ : ∃ i : Nat, at_ = i := ⟨at_.toNat, by omega⟩
        have t0 : decide ((0 : Int) ≤ (i : Int)) = true := by rw [decide_eq_true_iff]; omega
        by_cases g1 : i < n
        · have hix : i < xs.length := by have := HN.out; omega
          have t1 : decide ((i : Int) < (n : Int)) = true := by rw [decide_eq_true_iff]; omega
          obtain ⟨b1, o1, rfl, _, c1⟩ := (hs.new T1).cell hix
          have HLi : Hid _ := HL.out i hix
          generalize xs.getD i 0 = v at c1 HLi
          by_cases v0 : v = 0
          · subst v0
            go_wp2_with fail
            go_quiet (fail)
            go_wp2_with fail
            refine (alive_any _).mono ?_
            rintro o w3 ⟨rfl, K3⟩
            replace K3 := (T1.drewN _).trans K3
            cases a <;> cases b <;> cases d
            all_goals first
              | (exact absurd (HF.out.1 rfl) (by decide))
              | (exact absurd (HF.out.2 rfl) (by decide))
              | (go_wp2
                 go_ret
                 exact ⟨rfl, K3⟩)
          have z0 : (v == 0) = false := by simpa using v0
          by_cases v1 : e.b ≤ v
          · have z1 : decide (e.b ≤ v) = true := by simpa using v1
            by_cases v2 : v ≤ e.r
            · have z2 : decide (v ≤ e.r) = true := by simpa using v2
              have hd : d = true := HLi.out (by unfold lvB; rw [z0, z1, z2]; rfl)
              subst hd
              go_wp2_with fail
              go_quiet (fail)
              go_wp2_with fail
              refine (alive_any _).mono ?_
              rintro o w3 ⟨rfl, K3⟩
              replace K3 := (T1.drewN _).trans K3
              cases a <;> cases b
              all_goals first
                | (exact absurd (HF.out.1 rfl) (by decide))
                | (exact absurd (HF.out.2 rfl) (by decide))
                | (go_wp2
                   go_ret
                   exact ⟨rfl, K3⟩)
            · have z2 : decide (v ≤ e.r) = false := by simpa using v2
              go_wp2_with fail
              go_quiet (fail)
              go_wp2_with fail
              refine (alive_any _).mono ?_
              rintro o w3 ⟨rfl, K3⟩
              replace K3 := (T1.drewN _).trans K3
              cases a <;> cases b <;> cases d
              all_goals first
                | (exact absurd (HF.out.1 rfl) (by decide))
                | (exact absurd (HF.out.2 rfl) (by decide))
                | (go_wp2
                   go_ret
                   exact ⟨rfl, K3⟩)
          · have z1 : decide (e.b ≤ v) = false := by simpa using v1
            go_wp2_with fail
            go_quiet (fail)
            go_wp2_with fail
            refine (alive_any _).mono ?_
            rintro o w3 ⟨rfl, K3⟩
            replace K3 := (T1.drewN _).trans K3
            cases a <;> cases b <;> cases d
            all_goals first
              | (exact absurd (HF.out.1 rfl) (by decide))
              | (exact absurd (HF.out.2 rfl) (by decide))
              | (go_wp2
                 go_ret
                 exact ⟨rfl, K3⟩)
        · have t1 : decide ((i : Int) < (n : Int)) = false := by rw [decide_eq_false_iff_not]; omega
          go_wp2_with fail
          go_quiet (fail)
          go_wp2_with fail
          refine (alive_any _).mono ?_
          rintro o w3 ⟨rfl, K3⟩
          replace K3 := (T1.drewN _).trans K3
          cases a <;> cases b <;> cases d
          all_goals first
            | (exact absurd (HF.out.1 rfl) (by decide))
            | (exact absurd (HF.out.2 rfl) (by decide))
            | (go_wp2
               go_ret
               exact ⟨rfl, K3⟩)
  · clear hs hn
    go_enter Try.func7, Try.ntmps7
    go_wp2_with fail
    refine (alive_any _).mono ?_
    rintro o w1 ⟨rfl, K1⟩
    go_wp2
    go_ret
    exact ⟨rfl, K0.trans K1⟩

theorem coverLate_own : ownKnob Try.prog.godebug = none := by kernel_rfl
theorem coverLate_laidOut : laidOutB Try.prog = true := by kernel_rfl
set_option maxRecDepth 100000 in
theorem coverLate_lifted (os : Os) (started : os.Started) (H : Type) (enc : TypeId × Value → H) :
    ReturnsInHanded {} Try.checked os 7 .any (Rows.coverLateSpec.pre6 enc Try.prog Try.f7 Rows.coverLateRow.domain false) (Rows.coverLateSpec.post enc Try.prog Try.f7 false true false false) := by
  refine returnsInHanded_of_change_sized (C := Try.checked) coverLate_own started (by kernel_rfl) Try.func7
    (ChangeSpec.witness6 (enc := enc) (C := Try.checked) false ⟨#[], #[.agg #[.int .u64 0, .int .u64 0, .int .u64 0], .slice none 0 0, .int .i64 0], []⟩ 8 (by kernel_rfl) (by kernel_rfl) (by kernel_rfl) (by kernel_rfl)) ?_
  intro W base args ds gs before hval0 hW _ hsz0 _
  have hsz : (DataW.weightsEach Try.prog (Try.f7.params.toList ++ Rows.coverLateSpec.plain.varTypes Try.prog) (ds ++ gs)).all (· ≤ reachBytes) = true := hsz0
  clear hsz0
  have hval : ∀ (j : Nat) t v, Try.f7.params[j]? = some t → args[j]? = some v → Value.okWide Try.prog W .any base t v := hval0
  have hW' := hW
  obtain ⟨p, q, hA0, hV, rfl, _, _⟩ := hW
  have hA : DataW.TrodAll enc Try.prog W 0 (fun _ => true) true Try.f7.params.toList args.toList ds p := hA0
  rw [Try.params7] at hA hval hsz
  clear hA0 hval0
  obtain ⟨v0, vs0, d0, ds0, p0, q0, hargs, rfl, rfl, h0, r0⟩ := trodAll_cons hA
  obtain ⟨v1, vs1, d1, ds1, p1, q1, rfl, rfl, rfl, h1, r1⟩ := trodAll_cons r0
  obtain ⟨v2, vs2, d2, ds2, p2, q2, rfl, rfl, rfl, h2, r2⟩ := trodAll_cons r1
  obtain ⟨rfl, rfl, rfl⟩ := trodAll_nil r2
  obtain rfl : args = #[v0, v1, v2] := by cases args; simp_all
  obtain ⟨rfl, rfl⟩ := trodVars_none hV
  have k0 := h0
  have k1 := h1
  have k2 := h2
  simp only [List.append_nil] at hW'
  have hlt0 : ∀ x ∈ p0, x.block < W.heap.size := fun x hx => hW'.lt x (by simp [hx])
  have hlt1 : ∀ x ∈ p1, x.block < W.heap.size := fun x hx => hW'.lt x (by simp [hx])
  have hlt2 : ∀ x ∈ p2, x.block < W.heap.size := fun x hx => hW'.lt x (by simp [hx])
  obtain ⟨e0, rfl⟩ := open_ent (hval 0 24 v0 rfl rfl) h0
  obtain ⟨ao1, cap1, xs1, rfl, s1, g1, z1, _⟩ := open_words (hval 1 25 v1 rfl rfl) h1
  obtain ⟨a2, rfl, rfl, rfl, w2⟩ := open_int Try.underlying3 (hval 2 3 v2 rfl rfl) h2
  have b1 := len_words hsz (j := 1) rfl (fun el sp e => by subst e; rfl) z1
  refine (coverLate_walk W e0 ao1 xs1 cap1 a2 w2 s1 g1 b1).mono fun e W' ⟨he, hg⟩ => ?_
  subst he
  have hb := hg.below (by simp)
  exact ⟨_, rfl, _, _, _, [], _, [], hW', (trodAll_cons_mk (shut_bool Try.underlying4 _) trodAll_mk0), (trodAll_cons_mk (Below.trod coverLate_laidOut (by kernel_rfl) (of_decide_eq_true (by kernel_rfl)) k0 hb hlt0) (trodAll_cons_mk (Below.trod coverLate_laidOut (by kernel_rfl) (of_decide_eq_true (by kernel_rfl)) k1 hb hlt1) (trodAll_cons_mk (Below.trod coverLate_laidOut (by kernel_rfl) (of_decide_eq_true (by kernel_rfl)) k2 hb hlt2) trodAll_mk0))), rfl, hb.frame _, fun h => by cases h⟩

theorem coverLate_holds : Rows.CoverLateSaid :=
  OpenClaim.holds_of_wide 7 Try.f7 rfl rfl rfl rfl rfl rfl rfl ⟨rfl, rfl, rfl, rfl, rfl⟩ rfl rfl rfl rfl rfl (by kernel_rfl) Try.func7 (by kernel_rfl)
    (of_decide_eq_true (by kernel_rfl)) (by unfold Func.isWrapper; first | (rw [if_pos (by decide +kernel)]; kernel_rfl) | (rw [if_neg (by decide +kernel)]; exact ⟨rfl, rfl⟩))
    (fun os started H enc _ => coverLate_lifted os started H enc)
#print axioms coverLate_holds
end Go.Proofs.Ytheheepblkhfaaa
