/-
  Is a Range right? The document's answer, where its bound is not negative.
-/
import Derived.Test.YtlmkcakmeldfeaaHRight
namespace Go.Proofs.Ytlmkcakmeldfeaa.Q
set_option maxRecDepth 100000
open Go.RowKit
open Go.Deep
set_option maxHeartbeats 16000000 in
theorem rright_pos (ao : Option Addr) (es : List Ev) (n cap : Nat) (e : Ev) (w : World) (hv : Evs w ao n es) (hl : n ≤ 1000) (hs : Sl w e.ka e.ks) (hk : e.ks.length ≤ 1000) (hp : 0 ≤ e.op.n) :
    Calls Try.prog 40 #[.slice ao n cap, .agg (evA e)] w fun o w' => o = .returned (.bool (rgE es e)) ∧ Kept [] w w' := by
  have HV : Hid (Evs w ao n es) := hv
  have HS : Hid (Sl w e.ka e.ks) := hs
  have OLT : Hid (e.en < e.bg → rgE es e = false) := fun h => rgE_lt h
  have OKF : Hid (kfB e = false → rgE es e = false) := fun h => rgE_kf h
  have OSM : Hid (∀ j, j < e.ks.length → (dk es e (e.ks.getD j 0)).1 = false → rgE es e = false) := fun j hj h => rgE_some hj h
  have OEA : Hid (∀ k, (dk es e k).2 = true → loB e k = true → rgE es e = false) := fun k h1 h2 => rgE_each h1 h2
  have YES : Hid (¬ e.en < e.bg → kfB e = true → (∀ j, j < e.ks.length → (dk es e (e.ks.getD j 0)).1 = true) → (∀ p ∈ mpA es e.bg, (dk es e p.k).2 = true → loB e p.k = false) → rgE es e = true) := fun h1 h2 h3 h4 => rgE_yes1 h1 h2 h3 h4
  generalize rgE es e = R at OLT OKF OSM OEA YES ⊢
  have ZB := EB.new 48 w e
  have K0 := (Kept.refl [] w).alloc (.cells (evA e) 48)
  have c4 := ZB.c4
  have c6 := ZB.c6
  have c8 := ZB.c8
  have c13 := ZB.c13
  have rng := ZB.range
  obtain ⟨kn, hkn⟩ : ∃ kn, e.ks.length = kn := ⟨_, rfl⟩
  have HKN : Hid (e.ks.length = kn) := hkn
  rw [hkn] at hk c13
  have HP0 : Hid (0 ≤ e.op.n) := hp
  clear hkn hv hs
  obtain ⟨N, hN⟩ : ∃ N, e.op.n = N := ⟨_, rfl⟩
  rw [hN] at c4 hp
  have HN0 : Hid (e.op.n = N) := hN
  clear hN
  by_cases q1 : e.en < e.bg
  · have RF_ : Hid (R = false) := OLT.out q1
    clear OLT OKF OSM OEA YES
    go_enter Try.func40, Try.ntmps40
    go_wp2
    go_ret
    exact ⟨by rw [RF_.out]; rfl, K0⟩
  have Q1 : Hid (¬ e.en < e.bg) := q1
  by_cases q2 : N < (kn : Int)
  · have RF_ : Hid (R = false) := OKF.out (kf_no (by have := HKN.out; have := HP0.out; have := HN0.out; omega))
    clear OLT OKF OSM OEA YES
    go_enter Try.func40, Try.ntmps40
    go_wp2
    go_ret
    exact ⟨by rw [RF_.out]; rfl, K0⟩
  have Q2 : Hid (¬ N < (kn : Int)) := q2
  go_enter Try.func40, Try.ntmps40
  go_wp2_with (first
    | ((with_reducible change wpList _ _ _ (Oper.mk _ (Op.load 48 (Operand.tmp 3)) _ _ _ _ :: _) _ _); refine wpList_load_g 48 isEv_ref rfl (.tmp 3) rfl _ 0 rfl e rng ?_)
    | (go_at_call 55; refine (rtimes_any ao es n cap e _ HV.out.len ((HV.out.new K0).row) (by omega)).mono ?_; rintro o w1 ⟨to, tn, tc, rfl, htn0, ST, KT⟩; have HTX : Hid (tn = (tmL es e).length) := htn0; clear htn0))
  have htn := HTX.out
  have ZE := ZB.kept KT (by simp)
  obtain ⟨B, hB⟩ : ∃ B, B = w.heap.size := ⟨_, rfl⟩
  rw [← hB] at ZE ⊢
  have ZH : Hid (EB 48 w1 B e) := ZE
  have HV1 : Hid (Evs w1 ao n es) := (HV.out.new K0).new KT
  have HS1 : Hid (Sl w1 e.ka e.ks) := (HS.out.new K0).new KT
  have HK1 : Hid (Kept [] w w1) := K0.trans KT
  have SOM : Hid (∀ k, (dk es e k).1 = (tmL es e).any (fun t => hasT es t k)) := fun k => some_tm (by have := Q1.out; omega) k
  have EAC : Hid (∀ k, (dk es e k).2 = (tmL es e).all (fun t => hasT es t k)) := fun k => each_tm (by have := Q1.out; omega) k
  have htb : tn ≤ 1001 := by
    rw [htn]
    have a1 := tmK_len es e es.length
    unfold tmK at a1
    rw [List.take_of_length_le (Nat.le_refl _)] at a1
    have := HV1.out.len
    omega
  have HTN : Hid (tn ≤ (tmL es e).length ∧ (tmL es e).length ≤ tn) := ⟨Nat.le_of_eq htn, Nat.le_of_eq htn.symm⟩
  have HT1 : Hid (SlZ w1 to (tmL es e)) := ST
  generalize tmL es e = tl at HTN HT1 SOM EAC
  clear HTX hB ZE ZB K0 c4 c6 c8 c13 rng HV HS KT htn ST q1 q2 OLT
  go_loopw [8] (fun vi wr => ∃ i : Nat, i ≤ kn ∧ vi = .int .i64 i ∧ Hid (∀ a, a < i → okI e.op.k e.op.v e.ks a = true ∧ (dk es e (e.ks.getD a 0)).1 = true) ∧ Kept [] w1 wr) (fun vi _ => kn - (intOf vi).toNat)
  case atStart => exact ⟨0, Nat.zero_le _, rfl, (fun a ha => absurd ha (by omega)), Kept.refl _ _⟩
  case round =>
    obtain ⟨i, hi, rfl, E, K⟩ := hrel
    by_cases hlt : i < kn
    · have hltz : (i : Int) < (kn : Int) := by omega
      obtain ⟨kb, ko, ek, -, x0⟩ := Sl.cell (HS1.out.new K) (i := i) (by have := HKN.out; omega)
      have PR : Hid (0 < i → wr.cell? ⟨kb, ko + (i - 1), none⟩ = some (.int .u64 (e.ks.getD (i - 1) 0))) := fun h => by
        obtain ⟨b2, o2, e2, -, d0⟩ := Sl.cell (HS1.out.new K) (i := i - 1) (by have := HKN.out; omega)
        rw [ek] at e2; cases e2; exact d0
      have HO : Hid (okI e.op.k e.op.v e.ks i = (!(decide (e.ks.getD i 0 < e.op.k)) && (!(decide (e.op.v < e.ks.getD i 0)) && !(decide (0 < i) && decide (e.ks.getD i 0 ≤ e.ks.getD (i - 1) 0))))) := rfl
      have ST : Hid (okI e.op.k e.op.v e.ks i = true → (dk es e (e.ks.getD i 0)).1 = true → ∀ a, a < i + 1 → okI e.op.k e.op.v e.ks a = true ∧ (dk es e (e.ks.getD a 0)).1 = true) := fun h h2 a ha => by
        by_cases q : a = i
        · rw [q]; exact ⟨h, h2⟩
        · exact E.out a (by omega)
      have OK1 : Hid (okI e.op.k e.op.v e.ks i = false → R = false) := fun h => OKF.out (kf_out (by have := HKN.out; omega) h)
      have OS1 : Hid ((dk es e (e.ks.getD i 0)).1 = false → R = false) := OSM.out i (by have := HKN.out; omega)
      have z2 := ZH.out.kept K (by simp)
      have C2 : ∀ p : KW wr, p.val.cell? ⟨B, 2, none⟩ = some (.int .u64 e.op.k) := KW.cell z2.c2
      have C3 : ∀ p : KW wr, p.val.cell? ⟨B, 3, none⟩ = some (.int .u64 e.op.v) := KW.cell z2.c3
      generalize okI e.op.k e.op.v e.ks i = OKI at HO ST OK1
      generalize hz : e.ks.getD (i - 1) 0 = z at HO PR
      clear hz E z2
      generalize e.ks.getD i 0 = x at x0 HO ST OS1
      rw [ek]
      have C0 : ∀ p : KW wr, p.val.cell? ⟨kb, ko + i, none⟩ = some (.int .u64 x) := KW.cell x0
      by_cases q1 : x < e.op.k
      · have d1 : decide (x < e.op.k) = true := decide_eq_true q1
        have RF_ : Hid (R = false) := OK1.out (by rw [HO.out, d1]; rfl)
        clear HO ST OK1 OS1 PR
        go_wp2_with fail
        refine wp_region_kept (by kernel_rfl) (by kernel_rfl) ?_
        repeat (first | go_big_quiet_step (fail) | quiet_step (fail))
        refine wpQuiet_nil ?_
        intro _ hw'
        obtain ⟨pq, hw''⟩ := hw'
        subst hw''
        have KQ := pq.kept
        generalize pq.val = V at KQ ⊢
        clear C0 C2 C3 pq
        go_wp2
        go_ret
        exact ⟨by rw [RF_.out]; rfl, (HK1.out.trans K).trans KQ⟩
      · have d1 : decide (x < e.op.k) = false := decide_eq_false q1
        by_cases q2 : e.op.v < x
        · have d2 : decide (e.op.v < x) = true := decide_eq_true q2
          have RF_ : Hid (R = false) := OK1.out (by rw [HO.out, d1, d2]; rfl)
          clear HO ST OK1 OS1 PR
          go_wp2_with fail
          refine wp_region_kept (by kernel_rfl) (by kernel_rfl) ?_
          repeat (first | go_big_quiet_step (fail) | quiet_step (fail))
          refine wpQuiet_nil ?_
          intro _ hw'
          obtain ⟨pq, hw''⟩ := hw'
          subst hw''
          have KQ := pq.kept
          generalize pq.val = V at KQ ⊢
          clear C0 C2 C3 pq
          go_wp2
          go_ret
          exact ⟨by rw [RF_.out]; rfl, (HK1.out.trans K).trans KQ⟩
        · have d2 : decide (e.op.v < x) = false := decide_eq_false q2
          by_cases q0 : 0 < i
          · obtain ⟨p, rfl⟩ : ∃ p, i = p + 1 := ⟨i - 1, by omega⟩
            have e0 := PR.out q0
            rw [Nat.add_sub_cancel] at e0
            have Q0 : Hid _ := q0
            clear PR q0
            have C1 : ∀ q : KW wr, q.val.cell? ⟨kb, ko + p, none⟩ = some (.int .u64 z) := KW.cell e0
            have z3 : (0 : Int) < (p : Int) + 1 := by omega
            have z4 : decide ((0 : Int) < (p : Int) + 1) = true := decide_eq_true z3
            have z5 : (p : Int) < (kn : Int) := by omega
            have z6 : (p : Int) + 1 < (kn : Int) := by omega
            have z7 : (0 : Int) ≤ (p : Int) + 1 := by omega
            by_cases q3 : x ≤ z
            · have d3 : decide (x ≤ z) = true := decide_eq_true q3
              have RF_ : Hid (R = false) := OK1.out (by rw [HO.out, d1, d2, d3]; simp)
              clear HO ST OK1 OS1
              go_wp2_with fail
              refine wp_region_kept (by kernel_rfl) (by kernel_rfl) ?_
              repeat (first | go_big_quiet_step (fail) | quiet_step (fail))
              refine wpQuiet_nil ?_
              intro _ hw'
              obtain ⟨pq, hw''⟩ := hw'
              subst hw''
              have KQ := pq.kept
              generalize pq.val = V at KQ ⊢
              clear C0 C2 C3 pq
              go_wp2
              go_ret
              exact ⟨by rw [RF_.out]; rfl, (HK1.out.trans K).trans KQ⟩
            · have d3 : decide (x ≤ z) = false := decide_eq_false q3
              have HOK : Hid (OKI = true) := by show _ = _; rw [HO.out, d1, d2, d3]; simp
              clear HO OK1
              go_wp2_with fail
              refine wp_region_kept (by kernel_rfl) (by kernel_rfl) ?_
              repeat (first | go_big_quiet_step (fail) | quiet_step (fail))
              refine wpQuiet_nil ?_
              intro _ hw'
              obtain ⟨pq, hw''⟩ := hw'
              subst hw''
              have KQ := pq.kept
              generalize pq.val = V at KQ ⊢
              have KV := K.trans KQ
              have C0V : Hid (V.cell? ⟨kb, ko + (p + 1), none⟩ = some (.int .u64 x)) := KW.cell x0 ⟨V, KQ⟩
              have KBL : Hid (kb < V.heap.size) := lt_of_cell C0V.out
              clear C0 C2 C3 pq x0 KQ
              try clear C1 e0
              go_wp2
              go_loopw [9, 10] (fun v9 v10 wq => ∃ (j : Nat) (b : Bool), j ≤ tn ∧ v10 = .int .i64 j ∧ v9 = .bool b ∧ Hid (b = (tl.take j).any (fun t => hasT es t x)) ∧ Hid (Kept [] V wq) ∧ Kept [] w1 wq) (fun _ v10 _ => tn - (intOf v10).toNat)
              case atStart => exact ⟨0, false, Nat.zero_le _, rfl, rfl, rfl, Kept.refl _ _, KV⟩
              case round =>
                clear KV
                obtain ⟨j, b, hj, rfl, rfl, A, KW3, K3⟩ := hrel
                by_cases hjl : j < tn
                · have hjz : (j : Int) < (tn : Int) := by omega
                  obtain ⟨tb, t1, et, -, t0⟩ := SlZ.cell (HT1.out.new K3) (k := j) (by have := HTN.out; omega)
                  have NX : Hid ((tl.take (j + 1)).any (fun t => hasT es t x) = ((tl.take j).any (fun t => hasT es t x) || hasT es (tl.getD j 0) x)) := any_next (by have := HTN.out; omega)
                  generalize tl.getD j 0 = t at t0 NX
                  rw [et]
                  cases b
                  · obtain ⟨g, hg⟩ : ∃ g, hasT es t x = g := ⟨_, rfl⟩
                    have NX2 : Hid (g = (tl.take (j + 1)).any (fun t => hasT es t x)) := by show _ = _; rw [NX.out, ← A.out, hg]; simp
                    have HMp : Hid (∀ W' : World, Kept [] wr W' → Calls Try.prog 18 #[.slice ao n cap, .int .i64 t] W' fun o w' => ∃ a m c, o = .returned (.slice a m c) ∧ Hid (MpV w' a m c (mpA es t)) ∧ Hid (m ≤ 1000) ∧ Kept [] wr w') := fun W' k' => rmap_at cap t (HV1.out.new K3) (by omega) k'
                    have HHs : Hid (∀ (W' : World) (a : Option Addr) (m c : Nat), MpV W' a m c (mpA es t) → m ≤ 1000 → Calls Try.prog 56 #[.slice a m c, .int .u64 x] W' fun o w' => o = .returned (.bool g) ∧ Kept [] W' w') := fun W' a m c M hm => rhas_at hg M hm
                    have xr : wr.cell? ⟨kb, ko + (p + 1), none⟩ = some (.int .u64 x) := KW.cell C0V.out ⟨wr, KW3.out⟩
                    have HSC : Hid (∀ W' : World, Kept [] wr W' → W'.cell? ⟨tb, t1 + j, none⟩ = some (.int .i64 t) ∧ W'.cell? ⟨kb, ko + (p + 1), none⟩ = some (.int .u64 x) ∧ Kept [] wr W') := fun W' k' => ⟨KW.cell t0 ⟨W', k'⟩, KW.cell xr ⟨W', k'⟩, k'⟩
                    clear hg A NX t0 xr
                    go_wp2_with fail
                    go_region_held3 (fun W' => W'.cell? ⟨tb, t1 + j, none⟩ = some (.int .i64 t) ∧ W'.cell? ⟨kb, ko + (p + 1), none⟩ = some (.int .u64 x) ∧ Kept [] wr W')
                      (first | exact HSC.out _ (by assumption) | exact HSC.out _ (Kept.refl _ _).drew)
                      (first
                        | (go_at_call 18; with_reducible refine (HMp.out _ (by first | assumption | exact (Kept.refl _ _).drew)).mono ?_; rintro o w4 ⟨a4, m4, c4, rfl, M4, L4, K4⟩)
                        | (go_at_call 56; with_reducible refine (HHs.out _ a4 m4 c4 M4.out L4.out).mono ?_; rintro o w5 ⟨rfl, K5⟩; have K6 : Kept [] wr w5 := K4.trans K5))
                    all_goals
                      clear HSC HMp HHs
                      go_wp2
                      go_roundw
                    case rel => exact ⟨j + 1, g, by omega, by go_num, rfl, NX2, KW3.out.trans K6, K3.trans K6⟩
                    case measure => simp [intOf]; omega
                  · have NX2 : Hid (true = (tl.take (j + 1)).any (fun t => hasT es t x)) := by show _ = _; rw [NX.out, ← A.out]; rfl
                    have T0 : ∀ p : KW wr, p.val.cell? ⟨tb, t1 + j, none⟩ = some (.int .i64 t) := KW.cell t0
                    clear A NX t0
                    go_wp2_with fail
                    refine wp_region_kept (by kernel_rfl) (by kernel_rfl) ?_
                    repeat (first | go_big_quiet_step (fail) | quiet_step (fail))
                    refine wpQuiet_nil ?_
                    intro _ hw'
                    obtain ⟨pq, hw''⟩ := hw'
                    subst hw''
                    have KQ := pq.kept
                    generalize pq.val = V at KQ ⊢
                    clear T0 pq
                    go_wp2
                    go_roundw
                    case rel => exact ⟨j + 1, true, by omega, by go_num, rfl, NX2, KW3.out.trans KQ, K3.trans KQ⟩
                    case measure => simp [intOf]; omega
                · have hjz : ¬ (j : Int) < (tn : Int) := by omega
                  have AL : Hid (b = tl.any (fun t => hasT es t x)) := by
                    show _ = _
                    rw [A.out, List.take_of_length_le (by have := HTN.out; omega)]
                  clear A
                  cases b
                  · have RF_ : Hid (R = false) := OS1.out (by rw [SOM.out, ← AL.out])
                    clear OS1 ST AL
                    go_wp2
                    go_ret
                    exact ⟨by rw [RF_.out]; rfl, HK1.out.trans K3⟩
                  · have E2 : Hid _ := ST.out HOK.out (by rw [SOM.out, ← AL.out])
                    clear OS1 ST AL
                    go_wp2
                    go_roundw
                    case rel => exact ⟨(p + 1) + 1, by omega, by go_num, E2, K3⟩
                    case measure => simp [intOf]; omega
          · obtain rfl : i = 0 := by omega
            rw [Nat.add_zero] at x0 C0
            have HOK : Hid (OKI = true) := by show _ = _; rw [HO.out, d1, d2]; simp
            clear HO OK1 PR
            go_wp2_with fail
            refine wp_region_kept (by kernel_rfl) (by kernel_rfl) ?_
            repeat (first | go_big_quiet_step (fail) | quiet_step (fail))
            refine wpQuiet_nil ?_
            intro _ hw'
            obtain ⟨pq, hw''⟩ := hw'
            subst hw''
            have KQ := pq.kept
            generalize pq.val = V at KQ ⊢
            have KV := K.trans KQ
            have C0V : Hid (V.cell? ⟨kb, ko, none⟩ = some (.int .u64 x)) := KW.cell x0 ⟨V, KQ⟩
            have KBL : Hid (kb < V.heap.size) := lt_of_cell C0V.out
            clear C0 C2 C3 pq x0 KQ
            try clear C1 e0
            go_wp2
            go_loopw [9, 10] (fun v9 v10 wq => ∃ (j : Nat) (b : Bool), j ≤ tn ∧ v10 = .int .i64 j ∧ v9 = .bool b ∧ Hid (b = (tl.take j).any (fun t => hasT es t x)) ∧ Hid (Kept [] V wq) ∧ Kept [] w1 wq) (fun _ v10 _ => tn - (intOf v10).toNat)
            case atStart => exact ⟨0, false, Nat.zero_le _, rfl, rfl, rfl, Kept.refl _ _, KV⟩
            case round =>
              clear KV
              obtain ⟨j, b, hj, rfl, rfl, A, KW3, K3⟩ := hrel
              by_cases hjl : j < tn
              · have hjz : (j : Int) < (tn : Int) := by omega
                obtain ⟨tb, t1, et, -, t0⟩ := SlZ.cell (HT1.out.new K3) (k := j) (by have := HTN.out; omega)
                have NX : Hid ((tl.take (j + 1)).any (fun t => hasT es t x) = ((tl.take j).any (fun t => hasT es t x) || hasT es (tl.getD j 0) x)) := any_next (by have := HTN.out; omega)
                generalize tl.getD j 0 = t at t0 NX
                rw [et]
                cases b
                · obtain ⟨g, hg⟩ : ∃ g, hasT es t x = g := ⟨_, rfl⟩
                  have NX2 : Hid (g = (tl.take (j + 1)).any (fun t => hasT es t x)) := by show _ = _; rw [NX.out, ← A.out, hg]; simp
                  have HMp : Hid (∀ W' : World, Kept [] wr W' → Calls Try.prog 18 #[.slice ao n cap, .int .i64 t] W' fun o w' => ∃ a m c, o = .returned (.slice a m c) ∧ Hid (MpV w' a m c (mpA es t)) ∧ Hid (m ≤ 1000) ∧ Kept [] wr w') := fun W' k' => rmap_at cap t (HV1.out.new K3) (by omega) k'
                  have HHs : Hid (∀ (W' : World) (a : Option Addr) (m c : Nat), MpV W' a m c (mpA es t) → m ≤ 1000 → Calls Try.prog 56 #[.slice a m c, .int .u64 x] W' fun o w' => o = .returned (.bool g) ∧ Kept [] W' w') := fun W' a m c M hm => rhas_at hg M hm
                  have xr : wr.cell? ⟨kb, ko, none⟩ = some (.int .u64 x) := KW.cell C0V.out ⟨wr, KW3.out⟩
                  have HSC : Hid (∀ W' : World, Kept [] wr W' → W'.cell? ⟨tb, t1 + j, none⟩ = some (.int .i64 t) ∧ W'.cell? ⟨kb, ko, none⟩ = some (.int .u64 x) ∧ Kept [] wr W') := fun W' k' => ⟨KW.cell t0 ⟨W', k'⟩, KW.cell xr ⟨W', k'⟩, k'⟩
                  clear hg A NX t0 xr
                  go_wp2_with fail
                  go_region_held3 (fun W' => W'.cell? ⟨tb, t1 + j, none⟩ = some (.int .i64 t) ∧ W'.cell? ⟨kb, ko, none⟩ = some (.int .u64 x) ∧ Kept [] wr W')
                    (first | exact HSC.out _ (by assumption) | exact HSC.out _ (Kept.refl _ _).drew)
                    (first
                      | (go_at_call 18; with_reducible refine (HMp.out _ (by first | assumption | exact (Kept.refl _ _).drew)).mono ?_; rintro o w4 ⟨a4, m4, c4, rfl, M4, L4, K4⟩)
                      | (go_at_call 56; with_reducible refine (HHs.out _ a4 m4 c4 M4.out L4.out).mono ?_; rintro o w5 ⟨rfl, K5⟩; have K6 : Kept [] wr w5 := K4.trans K5))
                  all_goals
                    clear HSC HMp HHs
                    go_wp2
                    go_roundw
                  case rel => exact ⟨j + 1, g, by omega, by go_num, rfl, NX2, KW3.out.trans K6, K3.trans K6⟩
                  case measure => simp [intOf]; omega
                · have NX2 : Hid (true = (tl.take (j + 1)).any (fun t => hasT es t x)) := by show _ = _; rw [NX.out, ← A.out]; rfl
                  have T0 : ∀ p : KW wr, p.val.cell? ⟨tb, t1 + j, none⟩ = some (.int .i64 t) := KW.cell t0
                  clear A NX t0
                  go_wp2_with fail
                  refine wp_region_kept (by kernel_rfl) (by kernel_rfl) ?_
                  repeat (first | go_big_quiet_step (fail) | quiet_step (fail))
                  refine wpQuiet_nil ?_
                  intro _ hw'
                  obtain ⟨pq, hw''⟩ := hw'
                  subst hw''
                  have KQ := pq.kept
                  generalize pq.val = V at KQ ⊢
                  clear T0 pq
                  go_wp2
                  go_roundw
                  case rel => exact ⟨j + 1, true, by omega, by go_num, rfl, NX2, KW3.out.trans KQ, K3.trans KQ⟩
                  case measure => simp [intOf]; omega
              · have hjz : ¬ (j : Int) < (tn : Int) := by omega
                have AL : Hid (b = tl.any (fun t => hasT es t x)) := by
                  show _ = _
                  rw [A.out, List.take_of_length_le (by have := HTN.out; omega)]
                clear A
                cases b
                · have RF_ : Hid (R = false) := OS1.out (by rw [SOM.out, ← AL.out])
                  clear OS1 ST AL
                  go_wp2
                  go_ret
                  exact ⟨by rw [RF_.out]; rfl, HK1.out.trans K3⟩
                · have E2 : Hid _ := ST.out HOK.out (by rw [SOM.out, ← AL.out])
                  clear OS1 ST AL
                  go_wp2
                  go_roundw
                  case rel => exact ⟨0 + 1, by omega, by go_num, E2, K3⟩
                  case measure => simp [intOf]; omega
    · have hltz : ¬ (i : Int) < (kn : Int) := by omega
      have KFT : Hid (kfB e = true) := kf_yes (by have := HKN.out; have := Q2.out; have := HP0.out; have := HN0.out; omega) (fun a ha => (E.out a (by have := HKN.out; omega)).1)
      have SOK : Hid (∀ j, j < e.ks.length → (dk es e (e.ks.getD j 0)).1 = true) := fun a ha => (E.out a (by have := HKN.out; omega)).2
      clear E
      have c6 := (ZH.out.kept K (by simp)).c6
      have hmp := rmap_at cap e.bg (HV1.out.new K) (by omega) (Kept.refl [] wr)
      go_wp2_with (first
        | (go_at_call 18; refine hmp.mono ?_; rintro o w2 ⟨mo, mn, mc, rfl, M2, L2, K2⟩))
      have hmn : mn ≤ 1000 := L2.out
      have HMN : Hid (mn ≤ (mpA es e.bg).length ∧ (mpA es e.bg).length ≤ mn) := ⟨Nat.le_of_eq M2.out.1, Nat.le_of_eq M2.out.1.symm⟩
      have HM2 : Hid (SlP w2 mo (mpA es e.bg)) := M2.out.2.1
      have KW2 : Hid (Kept [] w1 w2) := K.trans K2
      have Y4 : Hid ((∀ p ∈ mpA es e.bg, (dk es e p.k).2 = true → loB e p.k = false) → R = true) := fun h => YES.out (by have := Q1.out; omega) KFT.out SOK.out h
      generalize mpA es e.bg = ms at HMN HM2 Y4
      clear c6 hmp M2 L2 K K2 YES SOK hi hlt hltz
      go_loopw [12] (fun vi wr => ∃ i : Nat, i ≤ mn ∧ vi = .int .i64 i ∧ Hid (∀ a, a < i → (dk es e (ms.getD a default).k).2 = true → loB e (ms.getD a default).k = false) ∧ Kept [] w2 wr) (fun vi _ => mn - (intOf vi).toNat)
      case atStart => exact ⟨0, Nat.zero_le _, rfl, (fun a ha => absurd ha (by omega)), Kept.refl _ _⟩
      case round =>
        obtain ⟨i, hi, rfl, E, K3⟩ := hrel
        by_cases hlt : i < mn
        · have hltz : (i : Int) < (mn : Int) := by omega
          obtain ⟨mb, m1, em, -, x0, -⟩ := SlP.row (HM2.out.new K3) (k := i) (by have := HMN.out; omega)
          have ST : Hid (((dk es e (ms.getD i default).k).2 = true → loB e (ms.getD i default).k = false) → ∀ a, a < i + 1 → (dk es e (ms.getD a default).k).2 = true → loB e (ms.getD a default).k = false) := fun h a ha => by
            by_cases q : a = i
            · rw [q]; exact h
            · exact E.out a (by omega)
          clear E
          generalize (ms.getD i default).k = x at x0 ST
          have zz := (ZH.out.kept KW2.out (by simp)).kept K3 (by simp)
          have z2 := zz.c2
          have z3 := zz.c3
          have EA : Hid ((dk es e x).2 = tl.all (fun t => hasT es t x)) := EAC.out x
          clear zz
          rw [em]
          by_cases q1 : e.op.k ≤ x
          · by_cases q2 : x ≤ e.op.v
            · have LOI : Hid (x ∉ e.ks → loB e x = !(byB e x)) := fun h => lo_is KFT.out q1 q2 h
              go_wp2
              go_loopw [14, 15] (fun v14 v15 wq => ∃ (j : Nat) (b : Bool), j ≤ tn ∧ v15 = .int .i64 j ∧ v14 = .bool b ∧ Hid (b = (tl.take j).all (fun t => hasT es t x)) ∧ Kept [] w2 wq) (fun _ v15 _ => tn - (intOf v15).toNat)
              case atStart => exact ⟨0, true, Nat.zero_le _, rfl, rfl, rfl, K3⟩
              case round =>
                clear K3 x0 z2 z3
                obtain ⟨j, b, hj, rfl, rfl, A, K4⟩ := hrel
                by_cases hjl : j < tn
                · have hjz : (j : Int) < (tn : Int) := by omega
                  obtain ⟨tb, t1, et, -, t0⟩ := SlZ.cell ((HT1.out.new KW2.out).new K4) (k := j) (by have := HTN.out; omega)
                  have NX : Hid ((tl.take (j + 1)).all (fun t => hasT es t x) = ((tl.take j).all (fun t => hasT es t x) && hasT es (tl.getD j 0) x)) := all_next (by have := HTN.out; omega)
                  generalize tl.getD j 0 = t at t0 NX
                  rw [et]
                  cases b
                  · have NX2 : Hid (false = (tl.take (j + 1)).all (fun t => hasT es t x)) := by show _ = _; rw [NX.out, ← A.out]; rfl
                    clear A NX t0
                    go_wp2
                    go_roundw
                    case rel => exact ⟨j + 1, false, by omega, by go_num, rfl, NX2, K4⟩
                    case measure => simp [intOf]; omega
                  · obtain ⟨g, hg⟩ : ∃ g, hasT es t x = g := ⟨_, rfl⟩
                    have NX2 : Hid (g = (tl.take (j + 1)).all (fun t => hasT es t x)) := by show _ = _; rw [NX.out, ← A.out, hg]; simp
                    have hmp := rmap_at cap t ((HV1.out.new KW2.out).new K4) (by omega) (Kept.refl [] wr)
                    have HHs : Hid (∀ (W' : World) (a : Option Addr) (m c : Nat), MpV W' a m c (mpA es t) → m ≤ 1000 → Calls Try.prog 56 #[.slice a m c, .int .u64 x] W' fun o w' => o = .returned (.bool g) ∧ Kept [] W' w') := fun W' a m c M hm => rhas_at hg M hm
                    clear hg A NX
                    go_wp2_with (first
                      | (go_at_call 18; refine hmp.mono ?_; rintro o w4 ⟨a4, m4, c4, rfl, M4, L4, K5⟩)
                      | (go_at_call 56; refine (HHs.out _ a4 m4 c4 M4.out L4.out).mono ?_; rintro o w5 ⟨rfl, K6⟩))
                    clear hmp HHs
                    go_roundw
                    case rel => exact ⟨j + 1, g, by omega, by go_num, rfl, NX2, (K4.trans K5).trans K6⟩
                    case measure => simp [intOf]; omega
                · have hjz : ¬ (j : Int) < (tn : Int) := by omega
                  have AL : Hid ((dk es e x).2 = b) := by
                    show _ = _
                    rw [EA.out, A.out, List.take_of_length_le (by have := HTN.out; omega)]
                  clear A EA
                  cases b
                  · have ST2 : Hid _ := ST.out (fun h => by rw [AL.out] at h; cases h)
                    clear ST AL LOI
                    by_cases qa : (kn : Int) = N
                    · obtain rfl : N = (kn : Int) := qa.symm
                      by_cases qb : kn = 0
                      · obtain rfl : kn = 0 := qb
                        go_wp2
                        go_roundw
                        case rel => first | exact ⟨i + 1, by omega, by go_num, ST2, K4⟩ | exact ⟨i + 1, by omega, by omega, ST2⟩
                        case measure => simp [intOf]; omega
                      · obtain ⟨p, hpk⟩ : ∃ p, kn = p + 1 := ⟨kn - 1, by omega⟩
                        have HPK : Hid (kn = p + 1) := hpk
                        have hq : (kn : Int) - 1 = (p : Int) := by omega
                        have hpb : p ≤ 1000 := by omega
                        have z5 : (p : Int) < (kn : Int) := by omega
                        have z6 : ¬ (kn : Int) = 0 := by omega
                        have z7 : ((kn : Int) == 0) = false := by simpa using z6
                        clear hpk
                        obtain ⟨kb, ko, ek, -, la0⟩ := Sl.cell ((HS1.out.new KW2.out).new K4) (i := p) (by have := HKN.out; have := HPK.out; omega)
                        have HLA : Hid (e.ks.getD (e.ks.length - 1) 0 = e.ks.getD p 0) := by show _ = _; rw [HKN.out, HPK.out, Nat.add_sub_cancel]
                        generalize e.ks.getD p 0 = la at la0 HLA
                        rw [ek]
                        go_wp2
                        go_roundw
                        case rel => first | exact ⟨i + 1, by omega, by go_num, ST2, K4⟩ | exact ⟨i + 1, by omega, by omega, ST2⟩
                        case measure => simp [intOf]; omega
                    · have qab : ((kn : Int) == N) = false := by simpa using qa
                      go_wp2
                      go_roundw
                      case rel => first | exact ⟨i + 1, by omega, by go_num, ST2, K4⟩ | exact ⟨i + 1, by omega, by omega, ST2⟩
                      case measure => simp [intOf]; omega
                  · skip
                    by_cases qa : (kn : Int) = N
                    · obtain rfl : N = (kn : Int) := qa.symm
                      by_cases qb : kn = 0
                      · obtain rfl : kn = 0 := qb
                        have ST2 : Hid _ := ST.out (fun _ => lo_by LOI.out (byB_zero (by have := HKN.out; have := HP0.out; have := HN0.out; omega) (by have := HP0.out; have := HN0.out; omega)))
                        clear ST AL LOI
                        go_wp2
                        go_roundw
                        case rel => first | exact ⟨i + 1, by omega, by go_num, ST2, K4⟩ | exact ⟨i + 1, by omega, by omega, ST2⟩
                        case measure => simp [intOf]; omega
                      · obtain ⟨p, hpk⟩ : ∃ p, kn = p + 1 := ⟨kn - 1, by omega⟩
                        have HPK : Hid (kn = p + 1) := hpk
                        have hq : (kn : Int) - 1 = (p : Int) := by omega
                        have hpb : p ≤ 1000 := by omega
                        have z5 : (p : Int) < (kn : Int) := by omega
                        have z6 : ¬ (kn : Int) = 0 := by omega
                        have z7 : ((kn : Int) == 0) = false := by simpa using z6
                        clear hpk
                        obtain ⟨kb, ko, ek, -, la0⟩ := Sl.cell ((HS1.out.new KW2.out).new K4) (i := p) (by have := HKN.out; have := HPK.out; omega)
                        have HLA : Hid (e.ks.getD (e.ks.length - 1) 0 = e.ks.getD p 0) := by show _ = _; rw [HKN.out, HPK.out, Nat.add_sub_cancel]
                        generalize e.ks.getD p 0 = la at la0 HLA
                        rw [ek]
                        have hkm : ((e.ks.length : Int) = max e.op.n 0) := by have := HKN.out; have := HP0.out; have := HN0.out; omega
                        have HKM : Hid _ := hkm
                        clear hkm
                        by_cases q5 : la < x
                        · have ST2 : Hid _ := ST.out (fun _ => lo_by LOI.out (byB_more HKM.out (by rw [HLA.out]; exact q5)))
                          clear ST AL LOI
                          go_wp2
                          go_roundw
                          case rel => first | exact ⟨i + 1, by omega, by go_num, ST2, K4⟩ | exact ⟨i + 1, by omega, by omega, ST2⟩
                          case measure => simp [intOf]; omega
                        · have Q5 : Hid (¬ la < x) := q5
                          have BYN : Hid (byB e x = false) := byB_less HKM.out (by have := HKN.out; have := HPK.out; omega) (by rw [HLA.out]; exact Q5.out)
                          obtain ⟨g, hg⟩ : ∃ g, decide (x ∈ e.ks) = g := ⟨_, rfl⟩
                          have hin := rin_at (c := e.kc) hg HKN.out.symm ((HS1.out.new KW2.out).new K4) (by omega)
                          rw [ek] at hin
                          cases g
                          · have RF_ : Hid (R = false) := OEA.out x AL.out (by rw [LOI.out (of_decide_eq_false hg), BYN.out]; rfl)
                            clear ST AL LOI hg BYN
                            go_wp2_with (first
                              | (go_at_call 57; refine hin.mono ?_; rintro o w5 ⟨rfl, K5⟩))
                            go_ret
                            exact ⟨by rw [RF_.out]; rfl, ((HK1.out.trans KW2.out).trans K4).trans K5⟩
                          · have ST2 : Hid _ := ST.out (fun _ => lo_mem (of_decide_eq_true hg))
                            clear ST AL LOI hg BYN
                            go_wp2_with (first
                              | (go_at_call 57; refine hin.mono ?_; rintro o w5 ⟨rfl, K5⟩))
                            rw [← ek]
                            go_roundw
                            case rel => first | exact ⟨i + 1, by omega, by go_num, ST2, K4.trans K5⟩ | exact ⟨i + 1, by omega, by omega, ST2, K4.trans K5⟩
                            case measure => simp [intOf]; omega
                    · have qab : ((kn : Int) == N) = false := by simpa using qa
                      have BYN : Hid (byB e x = false) := byB_ne (by have := HKN.out; have := HP0.out; have := HN0.out; omega)
                      obtain ⟨g, hg⟩ : ∃ g, decide (x ∈ e.ks) = g := ⟨_, rfl⟩
                      have hin := rin_at (c := e.kc) hg HKN.out.symm ((HS1.out.new KW2.out).new K4) (by omega)
                      cases g
                      · have RF_ : Hid (R = false) := OEA.out x AL.out (by rw [LOI.out (of_decide_eq_false hg), BYN.out]; rfl)
                        clear ST AL LOI hg BYN
                        go_wp2_with (first
                          | (go_at_call 57; refine hin.mono ?_; rintro o w5 ⟨rfl, K5⟩))
                        go_ret
                        exact ⟨by rw [RF_.out]; rfl, ((HK1.out.trans KW2.out).trans K4).trans K5⟩
                      · have ST2 : Hid _ := ST.out (fun _ => lo_mem (of_decide_eq_true hg))
                        clear ST AL LOI hg BYN
                        go_wp2_with (first
                          | (go_at_call 57; refine hin.mono ?_; rintro o w5 ⟨rfl, K5⟩))
                        go_roundw
                        case rel => first | exact ⟨i + 1, by omega, by go_num, ST2, K4.trans K5⟩ | exact ⟨i + 1, by omega, by omega, ST2, K4.trans K5⟩
                        case measure => simp [intOf]; omega
            · have ST2 : Hid _ := ST.out (fun _ => lo_out (Or.inr q2))
              clear ST EA
              go_wp2
              go_loopw [14, 15] (fun v14 v15 wq => ∃ j : Nat, j ≤ tn ∧ v15 = .int .i64 j ∧ v14 = .bool false ∧ Kept [] w2 wq) (fun _ v15 _ => tn - (intOf v15).toNat)
              case atStart => exact ⟨0, Nat.zero_le _, rfl, rfl, K3⟩
              case round =>
                clear K3 x0 z2 z3
                obtain ⟨j, hj, rfl, rfl, K4⟩ := hrel
                by_cases hjl : j < tn
                · have hjz : (j : Int) < (tn : Int) := by omega
                  go_wp2
                  go_roundw
                  case rel => exact ⟨j + 1, by omega, by go_num, rfl, K4⟩
                  case measure => simp [intOf]; omega
                · have hjz : ¬ (j : Int) < (tn : Int) := by omega
                  by_cases qa : (kn : Int) = N
                  · obtain rfl : N = (kn : Int) := qa.symm
                    by_cases qb : kn = 0
                    · obtain rfl : kn = 0 := qb
                      go_wp2
                      go_roundw
                      case rel => first | exact ⟨i + 1, by omega, by go_num, ST2, K4⟩ | exact ⟨i + 1, by omega, by omega, ST2⟩
                      case measure => simp [intOf]; omega
                    · obtain ⟨p, hpk⟩ : ∃ p, kn = p + 1 := ⟨kn - 1, by omega⟩
                      have HPK : Hid (kn = p + 1) := hpk
                      have hq : (kn : Int) - 1 = (p : Int) := by omega
                      have hpb : p ≤ 1000 := by omega
                      have z5 : (p : Int) < (kn : Int) := by omega
                      have z6 : ¬ (kn : Int) = 0 := by omega
                      have z7 : ((kn : Int) == 0) = false := by simpa using z6
                      clear hpk
                      obtain ⟨kb, ko, ek, -, la0⟩ := Sl.cell ((HS1.out.new KW2.out).new K4) (i := p) (by have := HKN.out; have := HPK.out; omega)
                      have HLA : Hid (e.ks.getD (e.ks.length - 1) 0 = e.ks.getD p 0) := by show _ = _; rw [HKN.out, HPK.out, Nat.add_sub_cancel]
                      generalize e.ks.getD p 0 = la at la0 HLA
                      rw [ek]
                      go_wp2
                      go_roundw
                      case rel => first | exact ⟨i + 1, by omega, by go_num, ST2, K4⟩ | exact ⟨i + 1, by omega, by omega, ST2⟩
                      case measure => simp [intOf]; omega
                  · have qab : ((kn : Int) == N) = false := by simpa using qa
                    go_wp2
                    go_roundw
                    case rel => first | exact ⟨i + 1, by omega, by go_num, ST2, K4⟩ | exact ⟨i + 1, by omega, by omega, ST2⟩
                    case measure => simp [intOf]; omega
          · have ST2 : Hid _ := ST.out (fun _ => lo_out (Or.inl q1))
            clear ST EA
            go_wp2
            go_loopw [14, 15] (fun v14 v15 wq => ∃ j : Nat, j ≤ tn ∧ v15 = .int .i64 j ∧ v14 = .bool false ∧ Kept [] w2 wq) (fun _ v15 _ => tn - (intOf v15).toNat)
            case atStart => exact ⟨0, Nat.zero_le _, rfl, rfl, K3⟩
            case round =>
              clear K3 x0 z2 z3
              obtain ⟨j, hj, rfl, rfl, K4⟩ := hrel
              by_cases hjl : j < tn
              · have hjz : (j : Int) < (tn : Int) := by omega
                go_wp2
                go_roundw
                case rel => exact ⟨j + 1, by omega, by go_num, rfl, K4⟩
                case measure => simp [intOf]; omega
              · have hjz : ¬ (j : Int) < (tn : Int) := by omega
                by_cases qa : (kn : Int) = N
                · obtain rfl : N = (kn : Int) := qa.symm
                  by_cases qb : kn = 0
                  · obtain rfl : kn = 0 := qb
                    go_wp2
                    go_roundw
                    case rel => first | exact ⟨i + 1, by omega, by go_num, ST2, K4⟩ | exact ⟨i + 1, by omega, by omega, ST2⟩
                    case measure => simp [intOf]; omega
                  · obtain ⟨p, hpk⟩ : ∃ p, kn = p + 1 := ⟨kn - 1, by omega⟩
                    have HPK : Hid (kn = p + 1) := hpk
                    have hq : (kn : Int) - 1 = (p : Int) := by omega
                    have hpb : p ≤ 1000 := by omega
                    have z5 : (p : Int) < (kn : Int) := by omega
                    have z6 : ¬ (kn : Int) = 0 := by omega
                    have z7 : ((kn : Int) == 0) = false := by simpa using z6
                    clear hpk
                    obtain ⟨kb, ko, ek, -, la0⟩ := Sl.cell ((HS1.out.new KW2.out).new K4) (i := p) (by have := HKN.out; have := HPK.out; omega)
                    have HLA : Hid (e.ks.getD (e.ks.length - 1) 0 = e.ks.getD p 0) := by show _ = _; rw [HKN.out, HPK.out, Nat.add_sub_cancel]
                    generalize e.ks.getD p 0 = la at la0 HLA
                    rw [ek]
                    go_wp2
                    go_roundw
                    case rel => first | exact ⟨i + 1, by omega, by go_num, ST2, K4⟩ | exact ⟨i + 1, by omega, by omega, ST2⟩
                    case measure => simp [intOf]; omega
                · have qab : ((kn : Int) == N) = false := by simpa using qa
                  go_wp2
                  go_roundw
                  case rel => first | exact ⟨i + 1, by omega, by go_num, ST2, K4⟩ | exact ⟨i + 1, by omega, by omega, ST2⟩
                  case measure => simp [intOf]; omega
        · have hltz : ¬ (i : Int) < (mn : Int) := by omega
          have RT_ : Hid (R = true) := Y4.out (fun p hp => by
            obtain ⟨a, ha, e1⟩ := List.mem_iff_getElem.1 hp
            have := E.out a (by have := HMN.out; omega)
            rwa [show ms.getD a default = p by rw [← e1]; simp [ha]] at this)
          clear E Y4
          go_wp2
          go_ret
          exact ⟨by rw [RT_.out]; rfl, (HK1.out.trans KW2.out).trans K3⟩
end Go.Proofs.Ytlmkcakmeldfeaa.Q
