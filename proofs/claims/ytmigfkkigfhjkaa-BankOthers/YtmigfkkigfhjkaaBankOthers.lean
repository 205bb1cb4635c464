/-
  For all cells and every access: it changes no other cell; a load, and a swap that tells false, change none; the law BankOthers answers true, and the arguments read as they did.
  Conditions: none.
-/
import Derived.Test.YtmigfkkigfhjkaaDoes
import Derived.ProofKit
import Derived.SizedLaws
import Derived.Carry
namespace Go.Proofs.Ytmigfkkigfhjkaa
open Go.ChangeShapes Go.WideShapes Go.ChangeAt Go.RowKit
open Go.Deep

theorem dsC_len (xs : List Int) (o : OpV) : (dsC xs o).length = xs.length := by
  unfold dsC clV; split
  · split
    · rw [List.length_set]
    · rfl
  · rfl
/-- Where a cell has turned: it is the one that was asked for, no load, no swap that told false. -/
theorem others (xs : List Int) (o : OpV) (k : Nat) (hk : k < xs.length) (h : (dsC xs o).getD k 0 ≠ xs.getD k 0) : (k : Int) = o.c ∧ o.k ≠ 1 ∧ (o.k = 3 → dsB xs o = true) := by
  unfold dsC at h
  split at h
  · rename_i hop
    unfold clV at h
    split at h
    · rename_i hc
      unfold hasC at hc
      by_cases e : o.c.toNat = k
      · subst e
        rw [show (xs.set o.c.toNat (bhV o.k (xs.getD o.c.toNat 0) o.old o.v)).getD o.c.toNat 0 = bhV o.k (xs.getD o.c.toNat 0) o.old o.v from by simp [hk]] at h
        refine ⟨by omega, fun e1 => ?_, fun e3 => ?_⟩
        · rw [e1] at h; simp [bhV] at h
        · unfold dsB opA acV; rw [if_pos e3, if_pos (show hasC xs o.c from hc)]
          rw [e3] at h ⊢
          by_cases q : xs.getD o.c.toNat 0 = o.old
          · simp only [bhB]; simp [-List.getD_eq_getElem?_getD, q]
          · exfalso; apply h; simp only [bhV]; simp [-List.getD_eq_getElem?_getD, q]
      · exfalso; apply h; simp [List.getD, e]
    · exact absurd rfl h
  · exact absurd rfl h
set_option maxRecDepth 100000 in
set_option maxHeartbeats 1000000 in
theorem bankOthers_walk (w : World) (ao : Option Addr) (xs : List Int) (cap : Nat) (o : OpV) (hs : Sl w ao xs) (_hg : ∀ x ∈ xs, isWord x) (hb : xs.length ≤ 17592186044415) :
    Calls Try.prog 5 #[.slice ao xs.length cap, o.val] w fun e w' => e = .returned (.bool true) ∧ Kept [] w w' := by
  obtain ⟨n, Hn⟩ : ∃ n, n = xs.length := ⟨_, rfl⟩
  have HL : Hid _ := dsC_len xs o
  have HO : Hid _ := others xs o
  have HN : Hid _ := Hn
  rw [← Hn]
  by_cases h0 : 500 < n
  · have t1 : decide ((500 : Int) < (n : Int)) = true := by rw [decide_eq_true_iff]; omega
    clear Hn
    simp only [OpV.val]
    go_enter Try.func5, Try.ntmps5
    go_wp2_with fail
    have of1 := of_any ao xs cap _ (hs.new ((Kept.refl [] _).alloc (.cells #[.int .i64 o.k, .int .i64 o.c, .int .u64 o.via, .int .u64 o.old, .int .u64 o.v] 34))) hb
    rw [← HN.out] at of1
    refine of1.mono ?_
    rintro e w1 ⟨p, rfl, hp, B1, K1⟩
    have T1 := ((Kept.refl [] w).alloc _).trans K1
    clear B1 K1 of1
    go_wp2_with fail
    refine (alive_any _).mono ?_
    rintro e w2 ⟨rfl, K2⟩
    go_wp2
    go_ret
    exact ⟨rfl, T1.trans K2⟩
  · have t1 : decide ((500 : Int) < (n : Int)) = false := by rw [decide_eq_false_iff_not]; omega
    clear Hn
    simp only [OpV.val]
    go_enter Try.func5, Try.ntmps5
    go_wp2_with fail
    have of1 := of_any ao xs cap _ (hs.new ((Kept.refl [] _).alloc (.cells #[.int .i64 o.k, .int .i64 o.c, .int .u64 o.via, .int .u64 o.old, .int .u64 o.v] 34))) hb
    rw [← HN.out] at of1
    refine of1.mono ?_
    rintro e w1 ⟨p, rfl, hp, B1, K1⟩
    have T1 := ((Kept.refl [] w).alloc _).trans K1
    have Z1 := K1.blk (blk_alloc_new w _) (by simp)
    rw [nblk_alloc] at hp B1
    obtain ⟨r, hr⟩ : ∃ r, r = w.heap.size + 1 := ⟨_, rfl⟩
    rw [← hr] at B1
    have hr' : w.heap.size < r := by omega
    have hn : w.heap.size ∉ [p, r] := by simp; omega
    clear hr of1 K1
    have q0 := cell_of_blk Z1 (i := 0) rfl
    have q1 := cell_of_blk Z1 (i := 1) rfl
    have q2 := cell_of_blk Z1 (i := 2) rfl
    have q3 := cell_of_blk Z1 (i := 3) rfl
    have q4 := cell_of_blk Z1 (i := 4) rfl
    go_wp2_with fail
    refine (does_any p r xs 0 _ o _ B1 (by omega) (by omega)).mono ?_
    rintro e w2 ⟨rfl, B2, K2⟩
    generalize dsB xs o = isB at HO ⊢
    have T2 := T1.own K2 (by omega) (by omega)
    have Z2 := K2.blk Z1 hn
    clear q0 q1 q2 q3 q4 B1 K2 Z1 T1
    go_wp2_with fail
    refine (cells_any p r _ _ _ _ B2).mono ?_
    rintro e w3 ⟨rfl, Q3, K3⟩
    have T3 := T2.trans K3
    have Z3 := K3.blk Z2 (by simp)
    rw [HL.out, ← HN.out]
    generalize w2.heap.size = q at Q3 ⊢
    clear B2 K3 T2 Z2
    go_wp2
    cases isB
    · go_loopw [33] (fun i wr => ∃ k : Nat, k ≤ n ∧ i = .int .i64 k ∧ Kept [] w3 wr) (fun i _ => n - (intOf i).toNat)
      case atStart => exact ⟨0, Nat.zero_le _, rfl, Kept.refl _ _⟩
      case round =>
        obtain ⟨k, hk, rfl, KK⟩ := hrel
        have T4 := T3.trans KK
        by_cases hlt : k < n
        · obtain ⟨b1, o1, rfl, _, c1⟩ := (hs.new T4).cell (i := k) (by have := HN.out; omega)
          have c2 := (Q3.kept KK (by simp)).cell (i := k) (by have := HN.out; have := HL.out; omega)
          have Z4 := KK.blk Z3 (by simp)
          have q0 := cell_of_blk Z4 (i := 0) rfl
          have q1 := cell_of_blk Z4 (i := 1) rfl
          have key := HO.out k (by have := HN.out; omega)
          rw [show (dsC xs o)[k]'(by have := HN.out; have := HL.out; omega) = (dsC xs o).getD k 0 from by simp [show k < (dsC xs o).length from by have := HN.out; have := HL.out; omega]] at c2
          generalize (dsC xs o).getD k 0 = x at c2 key
          generalize xs.getD k 0 = y at c1 key
          clear Z4
          by_cases hxy : x = y
          · subst hxy
            clear key
            go_wp2
            go_roundw
            case rel => exact ⟨k + 1, by omega, by go_num, KK⟩
            case measure => simp [intOf]; omega
          · obtain ⟨k1, k2, k3⟩ := key hxy
            rw [← k1] at q1
            have e1 : (o.k == 1) = false := by simpa using k2
            clear k1 k2 key
            by_cases h3 : o.k = 3
            · exact absurd (k3 h3) (by simp)
            · have e3 : (o.k == 3) = false := by simpa using h3
              clear h3 k3
              go_wp2
              go_roundw
              case rel => exact ⟨k + 1, by omega, by go_num, KK⟩
              case measure => simp [intOf]; omega
        · clear Q3 Z3
          go_wp2_with fail
          refine (alive_any _).mono ?_
          rintro e w5 ⟨rfl, K5⟩
          go_wp2
          go_ret
          exact ⟨rfl, T4.trans K5⟩
    · go_loopw [33] (fun i wr => ∃ k : Nat, k ≤ n ∧ i = .int .i64 k ∧ Kept [] w3 wr) (fun i _ => n - (intOf i).toNat)
      case atStart => exact ⟨0, Nat.zero_le _, rfl, Kept.refl _ _⟩
      case round =>
        obtain ⟨k, hk, rfl, KK⟩ := hrel
        have T4 := T3.trans KK
        by_cases hlt : k < n
        · obtain ⟨b1, o1, rfl, _, c1⟩ := (hs.new T4).cell (i := k) (by have := HN.out; omega)
          have c2 := (Q3.kept KK (by simp)).cell (i := k) (by have := HN.out; have := HL.out; omega)
          have Z4 := KK.blk Z3 (by simp)
          have q0 := cell_of_blk Z4 (i := 0) rfl
          have q1 := cell_of_blk Z4 (i := 1) rfl
          have key := HO.out k (by have := HN.out; omega)
          rw [show (dsC xs o)[k]'(by have := HN.out; have := HL.out; omega) = (dsC xs o).getD k 0 from by simp [show k < (dsC xs o).length from by have := HN.out; have := HL.out; omega]] at c2
          generalize (dsC xs o).getD k 0 = x at c2 key
          generalize xs.getD k 0 = y at c1 key
          clear Z4
          by_cases hxy : x = y
          · subst hxy
            clear key
            go_wp2
            go_roundw
            case rel => exact ⟨k + 1, by omega, by go_num, KK⟩
            case measure => simp [intOf]; omega
          · obtain ⟨k1, k2, k3⟩ := key hxy
            rw [← k1] at q1
            have e1 : (o.k == 1) = false := by simpa using k2
            clear k1 k2 key
            by_cases h3 : o.k = 3
            · rw [h3] at q0
              clear h3 k3 e1
              go_wp2
              go_roundw
              case rel => exact ⟨k + 1, by omega, by go_num, KK⟩
              case measure => simp [intOf]; omega
            · have e3 : (o.k == 3) = false := by simpa using h3
              clear h3 k3
              go_wp2
              go_roundw
              case rel => exact ⟨k + 1, by omega, by go_num, KK⟩
              case measure => simp [intOf]; omega
        · clear Q3 Z3
          go_wp2_with fail
          refine (alive_any _).mono ?_
          rintro e w5 ⟨rfl, K5⟩
          go_wp2
          go_ret
          exact ⟨rfl, T4.trans K5⟩

theorem bankOthers_own : ownKnob Try.prog.godebug = none := by kernel_rfl
theorem bankOthers_laidOut : laidOutB Try.prog = true := by kernel_rfl
set_option maxRecDepth 100000 in
theorem bankOthers_lifted (os : Os) (started : os.Started) (H : Type) (enc : TypeId × Value → H) :
    ReturnsInHanded {} Try.checked os 5 .any (Rows.bankOthersSpec.pre6 enc Try.prog Try.f5 Rows.bankOthersRow.domain false) (Rows.bankOthersSpec.post enc Try.prog Try.f5 false true false false) := by
  refine returnsInHanded_of_change_sized (C := Try.checked) bankOthers_own started (by kernel_rfl) Try.func5
    (ChangeSpec.witness6 (enc := enc) (C := Try.checked) false ⟨#[], #[.slice none 0 0, .agg #[.int .i64 0, .int .i64 0, .int .u64 0, .int .u64 0, .int .u64 0]], []⟩ 8 (by kernel_rfl) (by kernel_rfl) (by kernel_rfl) (by kernel_rfl)) ?_
  intro W base args ds gs before hval0 hW _ hsz0 _
  have hsz : (DataW.weightsEach Try.prog (Try.f5.params.toList ++ Rows.bankOthersSpec.plain.varTypes Try.prog) (ds ++ gs)).all (· ≤ reachBytes) = true := hsz0
  clear hsz0
  have hval : ∀ (j : Nat) t v, Try.f5.params[j]? = some t → args[j]? = some v → Value.okWide Try.prog W .any base t v := hval0
  have hW' := hW
  obtain ⟨p, q, hA0, hV, rfl, _, _⟩ := hW
  have hA : DataW.TrodAll enc Try.prog W 0 (fun _ => true) true Try.f5.params.toList args.toList ds p := hA0
  rw [Try.params5] at hA hval hsz
  clear hA0 hval0
  obtain ⟨v0, vs0, d0, ds0, p0, q0, hargs, rfl, rfl, h0, r0⟩ := trodAll_cons hA
  obtain ⟨v1, vs1, d1, ds1, p1, q1, rfl, rfl, rfl, h1, r1⟩ := trodAll_cons r0
  obtain ⟨rfl, rfl, rfl⟩ := trodAll_nil r1
  obtain rfl : args = #[v0, v1] := by cases args; simp_all
  obtain ⟨rfl, rfl⟩ := trodVars_none hV
  have k0 := h0
  have k1 := h1
  simp only [List.append_nil] at hW'
  have hlt0 : ∀ x ∈ p0, x.block < W.heap.size := fun x hx => hW'.lt x (by simp [hx])
  have hlt1 : ∀ x ∈ p1, x.block < W.heap.size := fun x hx => hW'.lt x (by simp [hx])
  obtain ⟨ao0, cap0, xs0, rfl, s0, g0, z0, _⟩ := open_words (hval 0 22 v0 rfl rfl) h0
  obtain ⟨o1, rfl⟩ := open_op (hval 1 34 v1 rfl rfl) h1
  have b0 := len_words hsz (j := 0) rfl (fun el sp e => by subst e; rfl) z0
  refine (bankOthers_walk W ao0 xs0 cap0 o1 s0 g0 b0).mono fun e W' ⟨he, hg⟩ => ?_
  subst he
  have hb := hg.below (by simp)
  exact ⟨_, rfl, _, _, _, [], _, [], hW', (trodAll_cons_mk (shut_bool Try.underlying4 _) trodAll_mk0), (trodAll_cons_mk (Below.trod bankOthers_laidOut (by kernel_rfl) (of_decide_eq_true (by kernel_rfl)) k0 hb hlt0) (trodAll_cons_mk (Below.trod bankOthers_laidOut (by kernel_rfl) (of_decide_eq_true (by kernel_rfl)) k1 hb hlt1) trodAll_mk0)), rfl, hb.frame _, fun h => by cases h⟩

theorem bankOthers_holds : Rows.BankOthersSaid :=
  OpenClaim.holds_of_wide 5 Try.f5 rfl rfl rfl rfl rfl rfl rfl ⟨rfl, rfl, rfl, rfl, rfl⟩ rfl rfl rfl rfl rfl (by kernel_rfl) Try.func5 (by kernel_rfl)
    (of_decide_eq_true (by kernel_rfl)) (by unfold Func.isWrapper; first | (rw [if_pos (by decide +kernel)]; kernel_rfl) | (rw [if_neg (by decide +kernel)]; exact ⟨rfl, rfl⟩))
    (fun os started H enc _ => bankOthers_lifted os started H enc)
#print axioms bankOthers_holds
end Go.Proofs.Ytmigfkkigfhjkaa
