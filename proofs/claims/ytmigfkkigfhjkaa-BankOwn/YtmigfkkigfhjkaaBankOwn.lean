/-
  For all cells: what is written into the cells that a bank tells, or that it was made of, changes nothing of the bank; the law BankOwn answers true, and the argument reads as it did.
  Conditions: none.
-/
import Derived.Test.YtmigfkkigfhjkaaRefBank
import Derived.ProofKit
import Derived.SizedLaws
import Derived.Carry
namespace Go.Proofs.Ytmigfkkigfhjkaa
open Go.ChangeShapes Go.WideShapes Go.ChangeAt Go.RowKit
open Go.Deep

set_option maxRecDepth 100000 in
set_option maxHeartbeats 1000000 in
theorem bankOwn_walk (w : World) (ao : Option Addr) (xs : List Int) (cap : Nat) (hs : Sl w ao xs) (_hg : ∀ x ∈ xs, isWord x) (hb : xs.length ≤ 17592186044415) (hc : ao = none → cap = 0) :
    Calls Try.prog 7 #[.slice ao xs.length cap] w fun e w' => e = .returned (.bool true) ∧ Kept [] w w' := by
  by_cases h0 : 500 < xs.length
  · go_enter Try.func7, Try.ntmps7
    go_wp2_with fail
    refine (alive_any _).mono ?_
    rintro e w1 ⟨rfl, K1⟩
    go_wp2
    go_ret
    exact ⟨rfl, K1⟩
  · obtain ⟨n, Hn⟩ : ∃ n, n = xs.length := ⟨_, rfl⟩
    obtain ⟨g, c', w1, hap, hg, R1, K1⟩ := append_new 22 w ao xs n cap Hn hs hc hb
    have HN : Hid _ := Hn
    rw [← Hn] at h0 ⊢
    clear Hn
    go_enter Try.func7, Try.ntmps7
    go_wp2_with (at_builtin; refine wpList_append_run rfl (.tmp 12) (.tmp 13) 22 rfl rfl rfl hap ?_)
    have of1 := of_any (some ⟨g, 0, none⟩) xs c' w1 R1.sl hb
    rw [← HN.out] at of1
    refine of1.mono ?_
    rintro e w2 ⟨p, rfl, hp, B2, K2⟩
    clear of1
    have R2 := R1.kept K2 (by simp)
    have T2 := K1.trans K2
    have hgl := R1.lt
    have hw1 := K1.size
    obtain ⟨r, hr⟩ : ∃ r, r = w1.heap.size := ⟨_, rfl⟩
    rw [← hr] at B2
    go_wp2_with fail
    refine (cells_any p r xs _ _ _ B2).mono ?_
    rintro e w3 ⟨rfl, Q3, K3⟩
    rw [← HN.out]
    have R3 := R2.kept K3 (by simp)
    have B3 := B2.kept K3 (by simp) (by simp)
    have T3 := T2.trans K3
    have hpl := lt_of_blk B2.st
    have hrl := B2.row.lt
    obtain ⟨q, hq⟩ : ∃ q, q = w2.heap.size := ⟨_, rfl⟩
    rw [← hq] at Q3 ⊢
    have n1 : p ∉ [g] := by simp; omega
    have n2 : r ∉ [g] := by simp; omega
    have n3 : q ∉ [g] := by simp; omega
    have n4 : p ∉ [q] := by simp; omega
    have n5 : r ∉ [q] := by simp; omega
    have n6 : w.heap.size ≤ g ∧ w.heap.size ≤ q := by omega
    clear R1 R2 B2 K1 K2 K3 T2 hr hq hap hp hg hgl hw1 hpl hrl
    go_wp2
    go_loopw [23] (fun i wr => ∃ (k : Nat) (ys : List Int), k ≤ n ∧ i = .int .i64 k ∧ ys.length = n ∧ RowR wr g ys c' ∧ Kept [g] w3 wr) (fun i _ => n - (intOf i).toNat)
    case atStart => exact ⟨0, xs, Nat.zero_le _, rfl, HN.out.symm, R3, Kept.refl _ _⟩
    case round =>
      obtain ⟨k, ys, hk, rfl, hy, RR, KK⟩ := hrel
      by_cases hlt : k < n
      · have hky : k < ys.length := by omega
        have c1 := RR.cell hky
        have f1 := RR.free k
        have R' := RR.set hky (IntKind.u64.wrap (ys[k] + 1))
        have HY : Hid _ := hy
        clear hy
        generalize ys[k] = y at c1 R'
        go_wp2
        go_roundw
        case rel => exact ⟨k + 1, _, by omega, by go_num, by rw [List.length_set]; exact HY.out, R', KK.setCell (Or.inl (by simp)) _⟩
        case measure => simp [intOf]; omega
      · have B4 := B3.kept KK n1 n2
        have Q4 := Q3.kept KK n3
        have T4 := T3.then KK (by simp; omega)
        clear RR KK B3 Q3 T3 R3
        go_wp2
        go_loopw [35] (fun i wr5 => ∃ (k : Nat) (ys : List Int), k ≤ n ∧ i = .int .i64 k ∧ ys.length = n ∧ Row wr5 q ys ∧ Kept [q] wr wr5) (fun i _ => n - (intOf i).toNat)
        case atStart => exact ⟨0, xs, Nat.zero_le _, rfl, HN.out.symm, Q4, Kept.refl _ _⟩
        case round =>
          rename_i wr5
          obtain ⟨k2, ys2, hk2, rfl, hy2, RR2, KK2⟩ := hrel
          by_cases hlt2 : k2 < n
          · have hky : k2 < ys2.length := by omega
            have c1 := RR2.cell hky
            have f1 := RR2.free k2
            have R' := RR2.set k2 (IntKind.u64.wrap (ys2[k2] - 1))
            have HY : Hid _ := hy2
            clear hy2
            generalize ys2[k2] = y at c1 R'
            go_wp2
            go_roundw
            case rel => exact ⟨k2 + 1, _, by omega, by go_num, by rw [List.length_set]; exact HY.out, R', KK2.setCell (Or.inl (by simp)) _⟩
            case measure => simp [intOf]; omega
          · have B5 := B4.kept KK2 n4 n5
            have T5 := T4.then KK2 (by simp; omega)
            clear B4 KK2 T4 Q4 RR2
            go_wp2_with fail
            refine (alive_any _).mono ?_
            rintro e w6 ⟨rfl, K6⟩
            have B6 := B5.kept K6 (by simp) (by simp)
            have T6 := T5.trans K6
            clear B5 K6 T5
            go_wp2_with fail
            refine (cells_any p r xs _ _ _ B6).mono ?_
            rintro e w7 ⟨rfl, Q7, K7⟩
            have T7 := T6.trans K7
            generalize w6.heap.size = q7 at Q7 ⊢
            have s7 := same_eq (some ⟨q7, 0, none⟩) ao xs xs.length cap w7 Q7.sl (hs.new T7) hb
            rw [← HN.out] at s7 ⊢
            clear B6 K7 T6
            go_wp2_with fail
            refine s7.mono ?_
            rintro e w8 ⟨rfl, K8⟩
            go_wp2
            go_ret
            exact ⟨rfl, T7.trans K8⟩

theorem bankOwn_own : ownKnob Try.prog.godebug = none := by kernel_rfl
theorem bankOwn_laidOut : laidOutB Try.prog = true := by kernel_rfl
set_option maxRecDepth 100000 in
theorem bankOwn_lifted (os : Os) (started : os.Started) (H : Type) (enc : TypeId × Value → H) :
    ReturnsInHanded {} Try.checked os 7 .any (Rows.bankOwnSpec.pre6 enc Try.prog Try.f7 Rows.bankOwnRow.domain false) (Rows.bankOwnSpec.post enc Try.prog Try.f7 false true false false) := by
  refine returnsInHanded_of_change_sized (C := Try.checked) bankOwn_own started (by kernel_rfl) Try.func7
    (ChangeSpec.witness6 (enc := enc) (C := Try.checked) false ⟨#[], #[.slice none 0 0], []⟩ 8 (by kernel_rfl) (by kernel_rfl) (by kernel_rfl) (by kernel_rfl)) ?_
  intro W base args ds gs before hval0 hW _ hsz0 _
  have hsz : (DataW.weightsEach Try.prog (Try.f7.params.toList ++ Rows.bankOwnSpec.plain.varTypes Try.prog) (ds ++ gs)).all (· ≤ reachBytes) = true := hsz0
  clear hsz0
  have hval : ∀ (j : Nat) t v, Try.f7.params[j]? = some t → args[j]? = some v → Value.okWide Try.prog W .any base t v := hval0
  have hW' := hW
  obtain ⟨p, q, hA0, hV, rfl, _, _⟩ := hW
  have hA : DataW.TrodAll enc Try.prog W 0 (fun _ => true) true Try.f7.params.toList args.toList ds p := hA0
  rw [Try.params7] at hA hval hsz
  clear hA0 hval0
  obtain ⟨v0, vs0, d0, ds0, p0, q0, hargs, rfl, rfl, h0, r0⟩ := trodAll_cons hA
  obtain ⟨rfl, rfl, rfl⟩ := trodAll_nil r0
  obtain rfl : args = #[v0] := by cases args; simp_all
  obtain ⟨rfl, rfl⟩ := trodVars_none hV
  have k0 := h0
  simp only [List.append_nil] at hW'
  have hlt0 : ∀ x ∈ p0, x.block < W.heap.size := fun x hx => hW'.lt x (by simp [hx])
  obtain ⟨ao0, cap0, xs0, rfl, s0, g0, z0, n0⟩ := open_words (hval 0 22 v0 rfl rfl) h0
  have b0 := len_words hsz (j := 0) rfl (fun el sp e => by subst e; rfl) z0
  refine (bankOwn_walk W ao0 xs0 cap0 s0 g0 b0 n0).mono fun e W' ⟨he, hg⟩ => ?_
  subst he
  have hb := hg.below (by simp)
  exact ⟨_, rfl, _, _, _, [], _, [], hW', (trodAll_cons_mk (shut_bool Try.underlying4 _) trodAll_mk0), (trodAll_cons_mk (Below.trod bankOwn_laidOut (by kernel_rfl) (of_decide_eq_true (by kernel_rfl)) k0 hb hlt0) trodAll_mk0), rfl, hb.frame _, fun h => by cases h⟩

theorem bankOwn_holds : Rows.BankOwnSaid :=
  OpenClaim.holds_of_wide 7 Try.f7 rfl rfl rfl rfl rfl rfl rfl ⟨rfl, rfl, rfl, rfl, rfl⟩ rfl rfl rfl rfl rfl (by kernel_rfl) Try.func7 (by kernel_rfl)
    (of_decide_eq_true (by kernel_rfl)) (by unfold Func.isWrapper; first | (rw [if_pos (by decide +kernel)]; kernel_rfl) | (rw [if_neg (by decide +kernel)]; exact ⟨rfl, rfl⟩))
    (fun os started H enc _ => bankOwn_lifted os started H enc)
#print axioms bankOwn_holds
end Go.Proofs.Ytmigfkkigfhjkaa
