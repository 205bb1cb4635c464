/-
  Is a Range right? The document's answer, where its bound is negative.
-/
import Derived.Test.YtlmkcakmeldfeaaHRight
namespace Go.Proofs.Ytlmkcakmeldfeaa.Q
set_option maxRecDepth 100000
open Go.RowKit
open Go.Deep
set_option maxHeartbeats 16000000 in
theorem rright_neg (ao : Option Addr) (es : List Ev) (n cap : Nat) (e : Ev) (w : World) (hv : Evs w ao n es) (hl : n ≤ 1000) (hs : Sl w e.ka e.ks) (hk : e.ks.length ≤ 1000) (hp : e.op.n < 0) :
    Calls Try.prog 40 #[.slice ao n cap, .agg (evA e)] w fun o w' => o = .returned (.bool (rgE es e)) ∧ Kept [] w w' := by
  have HV : Hid (Evs w ao n es) := hv
  have HS : Hid (Sl w e.ka e.ks) := hs
  have OLT : Hid (e.en < e.bg → rgE es e = false) := fun h => rgE_lt h
  have OKF : Hid (kfB e = false → rgE es e = false) := fun h => rgE_kf h
  have OSM : Hid (∀ j, j < e.ks.length → (dk es e (e.ks.getD j 0)).1 = false → rgE es e = false) := fun j hj h => rgE_some hj h
  have OEA : Hid (∀ k, (dk es e k).2 = true → loB e k = true → rgE es e = false) := fun k h1 h2 => rgE_each h1 h2
  have YES : Hid (¬ e.en < e.bg → kfB e = true → (∀ j, j < e.ks.length → (dk es e (e.ks.getD j 0)).1 = true) → (∀ p ∈ mpA es e.bg, (dk es e p.k).2 = true → loB e p.k = false) → rgE es e = true) := fun h1 h2 h3 h4 => rgE_yes1 h1 h2 h3 h4
  generalize rgE es e = R at OLT OKF OSM OEA YES ⊢
  have ZB := EB.new 48 w e
  have K0 := (Kept.refl [] w).alloc (.cells (evA e) 48)
  have c4 := ZB.c4
  have c6 := ZB.c6
  have c8 := ZB.c8
  have c13 := ZB.c13
  have rng := ZB.range
  obtain ⟨kn, hkn⟩ : ∃ kn, e.ks.length = kn := ⟨_, rfl⟩
  have HKN : Hid (e.ks.length = kn) := hkn
  rw [hkn] at hk c13
  have HP0 : Hid (e.op.n < 0) := hp
  clear hkn hv hs
  skip
  by_cases q1 : e.en < e.bg
  · have RF_ : Hid (R = false) := OLT.out q1
    clear OLT OKF OSM OEA YES
    go_enter Try.func40, Try.ntmps40
    go_wp2
    go_ret
    exact ⟨by rw [RF_.out]; rfl, K0⟩
  have Q1 : Hid (¬ e.en < e.bg) := q1
  by_cases q2 : (0 : Int) < (kn : Int)
  · have RF_ : Hid (R = false) := OKF.out (kf_no (by have := HKN.out; have := HP0.out;  omega))
    clear OLT OKF OSM OEA YES
    go_enter Try.func40, Try.ntmps40
    go_wp2
    go_ret
    exact ⟨by rw [RF_.out]; rfl, K0⟩
  have Q2 : Hid (¬ (0 : Int) < (kn : Int)) := q2
  go_enter Try.func40, Try.ntmps40
  go_wp2_with (first
    | ((with_reducible change wpList _ _ _ (Oper.mk _ (Op.load 48 (Operand.tmp 3)) _ _ _ _ :: _) _ _); refine wpList_load_g 48 isEv_ref rfl (.tmp 3) rfl _ 0 rfl e rng ?_)
    | (go_at_call 55; refine (rtimes_any ao es n cap e _ HV.out.len ((HV.out.new K0).row) (by omega)).mono ?_; rintro o w1 ⟨to, tn, tc, rfl, htn0, ST, KT⟩; have HTX : Hid (tn = (tmL es e).length) := htn0; clear htn0))
  have htn := HTX.out
  have ZE := ZB.kept KT (by simp)
  obtain ⟨B, hB⟩ : ∃ B, B = w.heap.size := ⟨_, rfl⟩
  rw [← hB] at ZE ⊢
  have ZH : Hid (EB 48 w1 B e) := ZE
  have HV1 : Hid (Evs w1 ao n es) := (HV.out.new K0).new KT
  have HS1 : Hid (Sl w1 e.ka e.ks) := (HS.out.new K0).new KT
  have HK1 : Hid (Kept [] w w1) := K0.trans KT
  have SOM : Hid (∀ k, (dk es e k).1 = (tmL es e).any (fun t => hasT es t k)) := fun k => some_tm (by have := Q1.out; omega) k
  have EAC : Hid (∀ k, (dk es e k).2 = (tmL es e).all (fun t => hasT es t k)) := fun k => each_tm (by have := Q1.out; omega) k
  have htb : tn ≤ 1001 := by
    rw [htn]
    have a1 := tmK_len es e es.length
    unfold tmK at a1
    rw [List.take_of_length_le (Nat.le_refl _)] at a1
    have := HV1.out.len
    omega
  have HTN : Hid (tn ≤ (tmL es e).length ∧ (tmL es e).length ≤ tn) := ⟨Nat.le_of_eq htn, Nat.le_of_eq htn.symm⟩
  have HT1 : Hid (SlZ w1 to (tmL es e)) := ST
  generalize tmL es e = tl at HTN HT1 SOM EAC
  clear HTX hB ZE ZB K0 c4 c6 c8 c13 rng HV HS KT htn ST q1 q2 OLT
  go_loopw [8] (fun vi wr => ∃ i : Nat, i ≤ kn ∧ vi = .int .i64 i ∧ Hid (∀ a, a < i → okI e.op.k e.op.v e.ks a = true ∧ (dk es e (e.ks.getD a 0)).1 = true) ∧ Kept [] w1 wr) (fun vi _ => kn - (intOf vi).toNat)
  case atStart => exact ⟨0, Nat.zero_le _, rfl, (fun a ha => absurd ha (by omega)), Kept.refl _ _⟩
  case round =>
    obtain ⟨i, hi, rfl, E, K⟩ := hrel
    by_cases hlt : i < kn
    · have hltz : (i : Int) < (kn : Int) := by omega
      exact absurd hltz (by have := Q2.out; omega)
    · have hltz : ¬ (i : Int) < (kn : Int) := by omega
      have KFT : Hid (kfB e = true) := kf_yes (by have := HKN.out; have := Q2.out; have := HP0.out;  omega) (fun a ha => (E.out a (by have := HKN.out; omega)).1)
      have SOK : Hid (∀ j, j < e.ks.length → (dk es e (e.ks.getD j 0)).1 = true) := fun a ha => (E.out a (by have := HKN.out; omega)).2
      clear E
      have c6 := (ZH.out.kept K (by simp)).c6
      have hmp := rmap_at cap e.bg (HV1.out.new K) (by omega) (Kept.refl [] wr)
      go_wp2_with (first
        | (go_at_call 18; refine hmp.mono ?_; rintro o w2 ⟨mo, mn, mc, rfl, M2, L2, K2⟩))
      have hmn : mn ≤ 1000 := L2.out
      have HMN : Hid (mn ≤ (mpA es e.bg).length ∧ (mpA es e.bg).length ≤ mn) := ⟨Nat.le_of_eq M2.out.1, Nat.le_of_eq M2.out.1.symm⟩
      have HM2 : Hid (SlP w2 mo (mpA es e.bg)) := M2.out.2.1
      have KW2 : Hid (Kept [] w1 w2) := K.trans K2
      have Y4 : Hid ((∀ p ∈ mpA es e.bg, (dk es e p.k).2 = true → loB e p.k = false) → R = true) := fun h => YES.out (by have := Q1.out; omega) KFT.out SOK.out h
      generalize mpA es e.bg = ms at HMN HM2 Y4
      clear c6 hmp M2 L2 K K2 YES SOK hi hlt hltz
      go_loopw [12] (fun vi wr => ∃ i : Nat, i ≤ mn ∧ vi = .int .i64 i ∧ Hid (∀ a, a < i → (dk es e (ms.getD a default).k).2 = true → loB e (ms.getD a default).k = false) ∧ Kept [] w2 wr) (fun vi _ => mn - (intOf vi).toNat)
      case atStart => exact ⟨0, Nat.zero_le _, rfl, (fun a ha => absurd ha (by omega)), Kept.refl _ _⟩
      case round =>
        obtain ⟨i, hi, rfl, E, K3⟩ := hrel
        by_cases hlt : i < mn
        · have hltz : (i : Int) < (mn : Int) := by omega
          obtain ⟨mb, m1, em, -, x0, -⟩ := SlP.row (HM2.out.new K3) (k := i) (by have := HMN.out; omega)
          have ST : Hid (((dk es e (ms.getD i default).k).2 = true → loB e (ms.getD i default).k = false) → ∀ a, a < i + 1 → (dk es e (ms.getD a default).k).2 = true → loB e (ms.getD a default).k = false) := fun h a ha => by
            by_cases q : a = i
            · rw [q]; exact h
            · exact E.out a (by omega)
          clear E
          generalize (ms.getD i default).k = x at x0 ST
          have zz := (ZH.out.kept KW2.out (by simp)).kept K3 (by simp)
          have z2 := zz.c2
          have z3 := zz.c3
          have EA : Hid ((dk es e x).2 = tl.all (fun t => hasT es t x)) := EAC.out x
          clear zz
          rw [em]
          by_cases q1 : e.op.k ≤ x
          · by_cases q2 : x ≤ e.op.v
            · have LOI : Hid (x ∉ e.ks → loB e x = !(byB e x)) := fun h => lo_is KFT.out q1 q2 h
              go_wp2
              go_loopw [14, 15] (fun v14 v15 wq => ∃ (j : Nat) (b : Bool), j ≤ tn ∧ v15 = .int .i64 j ∧ v14 = .bool b ∧ Hid (b = (tl.take j).all (fun t => hasT es t x)) ∧ Kept [] w2 wq) (fun _ v15 _ => tn - (intOf v15).toNat)
              case atStart => exact ⟨0, true, Nat.zero_le _, rfl, rfl, rfl, K3⟩
              case round =>
                clear K3 x0 z2 z3
                obtain ⟨j, b, hj, rfl, rfl, A, K4⟩ := hrel
                by_cases hjl : j < tn
                · have hjz : (j : Int) < (tn : Int) := by omega
                  obtain ⟨tb, t1, et, -, t0⟩ := SlZ.cell ((HT1.out.new KW2.out).new K4) (k := j) (by have := HTN.out; omega)
                  have NX : Hid ((tl.take (j + 1)).all (fun t => hasT es t x) = ((tl.take j).all (fun t => hasT es t x) && hasT es (tl.getD j 0) x)) := all_next (by have := HTN.out; omega)
                  generalize tl.getD j 0 = t at t0 NX
                  rw [et]
                  cases b
                  · have NX2 : Hid (false = (tl.take (j + 1)).all (fun t => hasT es t x)) := by show _ = _; rw [NX.out, ← A.out]; rfl
                    clear A NX t0
                    go_wp2
                    go_roundw
                    case rel => exact ⟨j + 1, false, by omega, by go_num, rfl, NX2, K4⟩
                    case measure => simp [intOf]; omega
                  · obtain ⟨g, hg⟩ : ∃ g, hasT es t x = g := ⟨_, rfl⟩
                    have NX2 : Hid (g = (tl.take (j + 1)).all (fun t => hasT es t x)) := by show _ = _; rw [NX.out, ← A.out, hg]; simp
                    have hmp := rmap_at cap t ((HV1.out.new KW2.out).new K4) (by omega) (Kept.refl [] wr)
                    have HHs : Hid (∀ (W' : World) (a : Option Addr) (m c : Nat), MpV W' a m c (mpA es t) → m ≤ 1000 → Calls Try.prog 56 #[.slice a m c, .int .u64 x] W' fun o w' => o = .returned (.bool g) ∧ Kept [] W' w') := fun W' a m c M hm => rhas_at hg M hm
                    clear hg A NX
                    go_wp2_with (first
                      | (go_at_call 18; refine hmp.mono ?_; rintro o w4 ⟨a4, m4, c4, rfl, M4, L4, K5⟩)
                      | (go_at_call 56; refine (HHs.out _ a4 m4 c4 M4.out L4.out).mono ?_; rintro o w5 ⟨rfl, K6⟩))
                    clear hmp HHs
                    go_roundw
                    case rel => exact ⟨j + 1, g, by omega, by go_num, rfl, NX2, (K4.trans K5).trans K6⟩
                    case measure => simp [intOf]; omega
                · have hjz : ¬ (j : Int) < (tn : Int) := by omega
                  have AL : Hid ((dk es e x).2 = b) := by
                    show _ = _
                    rw [EA.out, A.out, List.take_of_length_le (by have := HTN.out; omega)]
                  clear A EA
                  cases b
                  · have ST2 : Hid _ := ST.out (fun h => by rw [AL.out] at h; cases h)
                    clear ST AL LOI
                    go_wp2
                    go_roundw
                    case rel => first | exact ⟨i + 1, by omega, by go_num, ST2, K4⟩ | exact ⟨i + 1, by omega, by omega, ST2⟩
                    case measure => simp [intOf]; omega
                  · skip
                    have ST2 : Hid _ := ST.out (fun _ => lo_by LOI.out (byB_zero (by have := HKN.out; have := HP0.out;  omega) (by have := HP0.out;  omega)))
                    clear ST AL LOI
                    go_wp2
                    go_roundw
                    case rel => first | exact ⟨i + 1, by omega, by go_num, ST2, K4⟩ | exact ⟨i + 1, by omega, by omega, ST2⟩
                    case measure => simp [intOf]; omega
            · have ST2 : Hid _ := ST.out (fun _ => lo_out (Or.inr q2))
              clear ST EA
              go_wp2
              go_loopw [14, 15] (fun v14 v15 wq => ∃ j : Nat, j ≤ tn ∧ v15 = .int .i64 j ∧ v14 = .bool false ∧ Kept [] w2 wq) (fun _ v15 _ => tn - (intOf v15).toNat)
              case atStart => exact ⟨0, Nat.zero_le _, rfl, rfl, K3⟩
              case round =>
                clear K3 x0 z2 z3
                obtain ⟨j, hj, rfl, rfl, K4⟩ := hrel
                by_cases hjl : j < tn
                · have hjz : (j : Int) < (tn : Int) := by omega
                  go_wp2
                  go_roundw
                  case rel => exact ⟨j + 1, by omega, by go_num, rfl, K4⟩
                  case measure => simp [intOf]; omega
                · have hjz : ¬ (j : Int) < (tn : Int) := by omega
                  go_wp2
                  go_roundw
                  case rel => first | exact ⟨i + 1, by omega, by go_num, ST2, K4⟩ | exact ⟨i + 1, by omega, by omega, ST2⟩
                  case measure => simp [intOf]; omega
          · have ST2 : Hid _ := ST.out (fun _ => lo_out (Or.inl q1))
            clear ST EA
            go_wp2
            go_loopw [14, 15] (fun v14 v15 wq => ∃ j : Nat, j ≤ tn ∧ v15 = .int .i64 j ∧ v14 = .bool false ∧ Kept [] w2 wq) (fun _ v15 _ => tn - (intOf v15).toNat)
            case atStart => exact ⟨0, Nat.zero_le _, rfl, rfl, K3⟩
            case round =>
              clear K3 x0 z2 z3
              obtain ⟨j, hj, rfl, rfl, K4⟩ := hrel
              by_cases hjl : j < tn
              · have hjz : (j : Int) < (tn : Int) := by omega
                go_wp2
                go_roundw
                case rel => exact ⟨j + 1, by omega, by go_num, rfl, K4⟩
                case measure => simp [intOf]; omega
              · have hjz : ¬ (j : Int) < (tn : Int) := by omega
                go_wp2
                go_roundw
                case rel => first | exact ⟨i + 1, by omega, by go_num, ST2, K4⟩ | exact ⟨i + 1, by omega, by omega, ST2⟩
                case measure => simp [intOf]; omega
        · have hltz : ¬ (i : Int) < (mn : Int) := by omega
          have RT_ : Hid (R = true) := Y4.out (fun p hp => by
            obtain ⟨a, ha, e1⟩ := List.mem_iff_getElem.1 hp
            have := E.out a (by have := HMN.out; omega)
            rwa [show ms.getD a default = p by rw [← e1]; simp [ha]] at this)
          clear E Y4
          go_wp2
          go_ret
          exact ⟨by rw [RT_.out]; rfl, (HK1.out.trans KW2.out).trans K3⟩
end Go.Proofs.Ytlmkcakmeldfeaa.Q
