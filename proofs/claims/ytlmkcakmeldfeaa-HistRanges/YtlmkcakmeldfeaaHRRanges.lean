/-
  Are all Ranges right? The document's answer.
-/
import Derived.Test.YtlmkcakmeldfeaaHRightP
import Derived.Test.YtlmkcakmeldfeaaHRightN
namespace Go.Proofs.Ytlmkcakmeldfeaa.Q
set_option maxRecDepth 100000
open Go.RowKit
open Go.Deep
theorem rright_any (ao : Option Addr) (es : List Ev) (n cap : Nat) (e : Ev) (r : Bool) (hr : rgE es e = r) (w : World) (hv : Evs w ao n es) (hl : n ≤ 1000) (hs : Sl w e.ka e.ks) (hk : e.ks.length ≤ 1000) :
    Calls Try.prog 40 #[.slice ao n cap, .agg (evA e)] w fun o w' => o = .returned (.bool r) ∧ Kept [] w w' := by
  subst hr
  by_cases h : e.op.n < 0
  · exact rright_neg ao es n cap e w hv hl hs hk h
  · exact rright_pos ao es n cap e w hv hl hs hk (by omega)
set_option maxHeartbeats 4000000 in
theorem rranges_any (ao : Option Addr) (es : List Ev) (n cap : Nat) (w : World) (hv : Evs w ao n es) (hl : n ≤ 1000) (hk : Ksl es) :
    Calls Try.prog 22 #[.slice ao n cap] w fun o w' => o = .returned (.bool (rgB es)) ∧ Kept [] w w' := by
  have HV : Hid (Evs w ao n es) := hv
  have HKS : Hid (Ksl es) := hk
  have OUT : Hid (∀ k, k < n → rgO es (evAt es k) = false → rgB es = false) := fun k h1 h2 => rg_no HV.out.len h1 h2
  have YES : Hid ((∀ k, k < n → rgO es (evAt es k) = true) → rgB es = true) := fun h => rg_yes HV.out.len h
  clear hv hk
  generalize rgB es = R at OUT YES ⊢
  go_enter Try.func22, Try.ntmps22
  go_wp2
  go_loopw [3] (fun i wr => ∃ k : Nat, k ≤ n ∧ i = .int .i64 k ∧ Hid (∀ j, j < k → rgO es (evAt es j) = true) ∧ Kept [] w wr) (fun i _ => n - (intOf i).toNat)
  case atStart => exact ⟨0, Nat.zero_le _, rfl, (fun j hj => absurd hj (by omega)), Kept.refl _ _⟩
  case round =>
    obtain ⟨k, hk, rfl, E, K⟩ := hrel
    by_cases hlt : k < n
    · have hltz : (k : Int) < (n : Int) := by omega
      obtain ⟨b1, o1, e1, lt1, r0⟩ := HV.out.at K hlt
      have SX : Hid (Sl wr (evAt es k).ka (evAt es k).ks) := (HV.out.new K).key hlt
      have LX : Hid ((evAt es k).ks.length ≤ 1000) := HKS.out.at (by have := HV.out.len; omega)
      have OU : Hid (rgO es (evAt es k) = false → R = false) := OUT.out k hlt
      have ST : Hid (rgO es (evAt es k) = true → ∀ j, j < k + 1 → rgO es (evAt es j) = true) := fun h j hj => by
        by_cases q : j = k
        · rw [q]; exact h
        · exact E.out j (by omega)
      clear E
      generalize evAt es k = x at r0 SX LX OU ST
      rw [e1]
      have HRO : Hid (rgO es x = (!((x.op.d == 5) && x.dn) || rgE es x)) := rfl
      have c1 := rg1 r0
      have c9 := rg9 r0
      by_cases q5 : x.op.d = 5
      · have q5b : (x.op.d == 5) = true := by simpa using q5
        obtain ⟨dn, hdn⟩ : ∃ dn, x.dn = dn := ⟨_, rfl⟩
        rw [hdn] at c9
        cases dn
        · have E2 : Hid (∀ j, j < k + 1 → rgO es (evAt es j) = true) := ST.out (by rw [HRO.out, hdn, q5b]; rfl)
          have KK := K
          clear ST OU HRO hdn
          go_wp2_with (first
            | ((with_reducible change wpList _ _ _ (Oper.mk _ (Op.load 48 _) _ _ _ _ :: _) _ _); refine wpList_load_g 48 isEv_ref rfl (.tmp 28) rfl b1 (o1 + k * 14) rfl x r0 ?_)
            | (go_at_call 40; refine hr.mono ?_; rintro o w2 ⟨rfl, K2⟩))
          go_roundw
          case rel => first | exact ⟨k + 1, by omega, by go_num, E2, KK⟩ | exact ⟨k + 1, by omega, by omega, E2, KK⟩ | exact ⟨k + 1, by omega, by omega, E2⟩
          case measure => simp [intOf]; omega
        · obtain ⟨r, hre⟩ : ∃ r, rgE es x = r := ⟨_, rfl⟩
          have hr := rright_any ao es n cap x r hre wr (HV.out.new K) (by omega) SX.out LX.out
          rw [e1] at hr
          cases r
          · have RF_ : Hid (R = false) := OU.out (by rw [HRO.out, hdn, q5b, hre]; rfl)
            clear ST OU HRO hdn hre
            go_wp2_with (first
              | ((with_reducible change wpList _ _ _ (Oper.mk _ (Op.load 48 _) _ _ _ _ :: _) _ _); refine wpList_load_g 48 isEv_ref rfl (.tmp 28) rfl b1 (o1 + k * 14) rfl x r0 ?_)
              | (go_at_call 40; refine hr.mono ?_; rintro o w2 ⟨rfl, K2⟩))
            go_ret
            exact ⟨by rw [RF_.out]; rfl, K.trans K2⟩
          · have E2 : Hid (∀ j, j < k + 1 → rgO es (evAt es j) = true) := ST.out (by rw [HRO.out, hre]; simp)
            clear ST OU HRO hdn hre
            go_wp2_with (first
              | ((with_reducible change wpList _ _ _ (Oper.mk _ (Op.load 48 _) _ _ _ _ :: _) _ _); refine wpList_load_g 48 isEv_ref rfl (.tmp 28) rfl b1 (o1 + k * 14) rfl x r0 ?_)
              | (go_at_call 40; refine hr.mono ?_; rintro o w2 ⟨rfl, K2⟩))
            have KK := K.trans K2
            go_roundw
            case rel => first | exact ⟨k + 1, by omega, by go_num, E2, KK⟩ | exact ⟨k + 1, by omega, by omega, E2, KK⟩ | exact ⟨k + 1, by omega, by omega, E2⟩
            case measure => simp [intOf]; omega
      · have q5b : (x.op.d == 5) = false := by simpa using q5
        have E2 : Hid (∀ j, j < k + 1 → rgO es (evAt es j) = true) := ST.out (by rw [HRO.out, q5b]; rfl)
        have KK := K
        clear ST OU HRO
        go_wp2_with (first
          | ((with_reducible change wpList _ _ _ (Oper.mk _ (Op.load 48 _) _ _ _ _ :: _) _ _); refine wpList_load_g 48 isEv_ref rfl (.tmp 28) rfl b1 (o1 + k * 14) rfl x r0 ?_)
          | (go_at_call 40; refine hr.mono ?_; rintro o w2 ⟨rfl, K2⟩))
        go_roundw
        case rel => first | exact ⟨k + 1, by omega, by go_num, E2, KK⟩ | exact ⟨k + 1, by omega, by omega, E2, KK⟩ | exact ⟨k + 1, by omega, by omega, E2⟩
        case measure => simp [intOf]; omega
    · have hltz : ¬ (k : Int) < (n : Int) := by omega
      have RR : Hid (R = true) := YES.out (fun j hj => E.out j (by omega))
      clear E
      go_wp2
      go_ret
      exact ⟨by rw [RR.out]; rfl, K⟩
end Go.Proofs.Ytlmkcakmeldfeaa.Q
