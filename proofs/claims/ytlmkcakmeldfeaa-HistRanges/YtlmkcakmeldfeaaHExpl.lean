/-
  Which histories may be: does the map explain them?
-/
import Derived.Test.YtlmkcakmeldfeaaHLegal
import Derived.WalkMore
namespace Go.Proofs.Ytlmkcakmeldfeaa.Q
set_option maxRecDepth 100000
open Go.RowKit
open Go.Deep
theorem ssame_at (e : Ev) (h2 : Bool) (g2 : Int) (bo : Option Addr) (vs : List Int) (m cb : Nat) (r : Bool) (hr : smB e.fu e.ha e.go e.ks false h2 g2 vs = r) (w : World) (hm : m = vs.length) (ha : Sl w e.ka e.ks) (hb : Sl w bo vs) (hl : e.ks.length ≤ 1000) :
    Calls Try.prog 53 #[.agg #[.bool e.fu, .bool e.ha, .int .u64 e.go, .slice e.ka e.ks.length e.kc], .agg #[.bool false, .bool h2, .int .u64 g2, .slice bo m cb]] w fun o w' => o = .returned (.bool r) ∧ Kept [] w w' := by
  subst hr; exact ssame_any e.fu e.ha false h2 e.go g2 e.ka bo e.ks vs e.ks.length m e.kc cb w rfl hm ha hb hl
set_option maxHeartbeats 8000000 in
theorem explained_any (ao : Option Addr) (es : List Ev) (n cap : Nat) (w : World) (hv : Evs w ao n es) (hl : n ≤ 1000) (hk : Ksl es) :
    Calls Try.prog 33 #[.slice ao n cap] w fun o w' => o = .returned (.bool (exB es (ordOf es) 0 [])) ∧ Kept [] w w' := by
  have K0 : Kept [] w (w.alloc (.cells #[.slice none 0 0] 35)) := (Kept.refl _ _).alloc _
  have Z3 := blk_alloc_new w (.cells #[.slice none 0 0] 35)
  have hc := order_any ao es n cap _ hv.len (hv.row.new K0) hl
  have HV : Hid _ := hv
  have HK : Hid (Ksl es) := hk
  clear hv hk
  obtain ⟨R, hR⟩ : ∃ R, R = exB es (ordOf es) 0 [] := ⟨_, rfl⟩
  rw [← hR]
  have HR : Hid _ := hR
  clear hR
  go_enter Try.func33, Try.ntmps33
  go_wp2_with fail
  go_step3
  go_wp2_with fail
  go_step3
  go_wp2_with fail
  refine hc.mono ?_
  rintro o w1 ⟨ord, bo, m, c', rfl, hm, I1, S1, K1⟩
  have IE := I1.eq
  subst IE
  have Z3' := K1.blk Z3 (by simp)
  have KT := K0.trans K1
  have HM : Hid _ := hm
  have hmb : m ≤ 1000 := by have := ord_len es; have := HV.out.len; omega
  clear hc Z3 K0 K1 I1 hm
  go_wp2
  obtain ⟨H, hH⟩ : ∃ H, H = w.heap.size := ⟨_, rfl⟩
  have HH : Hid _ := hH
  rw [← hH] at Z3' ⊢
  clear hH
  go_loopw [4, 5, 14] (fun vl v5 i wr => ∃ (k : Nat) (la : Int) (mo : Option Addr) (mn mc : Nat), k ≤ m ∧ i = .int .i64 k ∧ vl = .int .i64 la ∧ v5 = .bool true ∧ wr.heap[H]? = some (.cells #[.slice mo mn mc] 35 (0, 0)) ∧ Hid (MpV wr mo mn mc (mpF es ((ordOf es).take k))) ∧ Hid (SlI wr bo (ordOf es)) ∧ Hid (R = exB es ((ordOf es).drop k) la (mpF es ((ordOf es).take k))) ∧ Kept [] w wr) (fun _ _ i _ => m - (intOf i).toNat)
  case atStart => exact ⟨0, 0, none, 0, 0, Nat.zero_le _, rfl, rfl, rfl, Z3', MpV.nil _, S1, HR, KT⟩
  case round =>
    clear Z3' S1 KT HR
    obtain ⟨k, la, mo, mn, mc, hk, rfl, rfl, rfl, Z3, M, S, E, K⟩ := hrel
    by_cases hlt : k < m
    · obtain ⟨b2, o2, e2, _, c2⟩ := SlI.cell S.out (k := k) (by have := HM.out; omega)
      have im := getD_mem (l := ordOf es) (k := k) (by have := HM.out; omega)
      have NX : Hid _ := mpF_take (es := es) (k := k) (by have := HM.out; omega)
      have E1 := E.out
      rw [drop_next (by have := HM.out; omega)] at E1
      obtain ⟨i, hi⟩ : ∃ i, (ordOf es).getD k 0 = i := ⟨_, rfl⟩
      rw [hi] at c2 im NX E1
      have hin : i < n := by have := ord_lt im; have := HV.out.len; omega
      clear hi im E
      unfold exB at E1
      obtain ⟨b1, o1, e1, lt1, r0⟩ := HV.out.at K hin
      have SK : Hid (Sl wr (evAt es i).ka (evAt es i).ks) := (HV.out.new K).key hin
      have LK : Hid ((evAt es i).ks.length ≤ 1000) := HK.out.at (by rw [← HV.out.len]; exact hin)
      obtain ⟨x, hx⟩ : ∃ x, evAt es i = x := ⟨_, rfl⟩
      rw [hx] at r0 NX SK LK E1
      clear hx
      have D := do_kept mo (mpF es ((ordOf es).take k)) _ mn mc x.op _ _ _ (wr.alloc (.cells (evA x) 53)) (M.out.new ((Kept.refl _ _).alloc _)) (mpF_str HV.out.wd take_lt) (mpF_wd HV.out.wd take_lt) (by have h1 := M.out.1; have h2 := mpF_len HV.out.wd (take_lt (es := es) (k := k)); have h3 := ord_len es; have h4 := HV.out.len; rw [List.length_take] at h2; omega) rfl rfl rfl rfl
      rw [← show mpF es ((ordOf es).take (k + 1)) = _ from NX.out] at D E1
      have HT : Hid (tdB x (mpF es ((ordOf es).take k)) = smB x.fu x.ha x.go x.ks false (doH (mpF es ((ordOf es).take k)) x.op) (doG (mpF es ((ordOf es).take k)) x.op) (doK (mpF es ((ordOf es).take k)) x.op)) := rfl
      generalize doH (mpF es ((ordOf es).take k)) x.op = hh at D HT
      generalize doG (mpF es ((ordOf es).take k)) x.op = gg at D HT
      generalize doK (mpF es ((ordOf es).take k)) x.op = ks at D HT
      generalize tdB x (mpF es ((ordOf es).take k)) = T at HT E1
      have HE : Hid _ := E1
      clear E1
      have HSI : Hid (∀ W', Kept [] wr W' → SlI W' bo (ordOf es)) := fun W' k' => S.out.new k'
      rw [e1, e2]
      have z1 : (i : Int) < (n : Int) := by omega
      have q3 := cell_of_blk Z3 (i := 0) rfl
      have lt3 := lt_of_blk Z3
      have Z8 := EB.new 53 wr x
      have a1 := Z8.c1
      have a2 := Z8.c2
      have a3 := Z8.c3
      have a4 := Z8.c4
      have a5 := Z8.c5
      go_wp2_with (first
        | ((with_reducible change wpList _ _ _ (Oper.mk _ (Op.load 53 _) _ _ _ _ :: _) _ _); refine wpList_load_g 53 isEv_hist rfl (.tmp 20) rfl b1 (o1 + i * 14) rfl x r0 ?_)
        | ((with_reducible change wpList _ _ _ (Oper.mk _ (Op.store 53 _ _) _ _ _ _ :: _) _ _); refine wpList_store_ev 53 isEv_hist rfl (.tmp 8) (.tmp 21) rfl _ rfl rfl x rfl ?_))
      refine (D.out _ (Kept.refl _ _)).mono ?_
      rintro e w5 ⟨b3, m3, c3, ko, kn, kc, rfl, Q5, K5⟩
      clear D a1 a2 a3 a4 a5 q3 c2
      go_upto_region 8 with (fail)
      obtain ⟨F, hF⟩ : ∃ F, F = w5.heap.size := ⟨_, rfl⟩
      obtain ⟨B, hB⟩ : ∃ B, B = wr.heap.size := ⟨_, rfl⟩
      have Y8 := Z8.kept K5 (by simp)
      have Y3 := K5.blk (((Kept.refl [] _).alloc (.cells (evA x) 53)).blk Z3 (by simp)) (by simp)
      have KA : Kept [] w5 ((w5.alloc (.cells #[.slice b3 m3 c3] 35)).alloc (.cells #[.bool false, .bool hh, .int .u64 gg, .slice ko kn kc] 46)) := ((Kept.refl _ _).alloc _).alloc _
      have YF := ((Kept.refl [] _).alloc (.cells #[.bool false, .bool hh, .int .u64 gg, .slice ko kn kc] 46)).blk (blk_alloc_new w5 (.cells #[.slice b3 m3 c3] 35)) (by simp)
      have YG := blk_alloc_new (w5.alloc (.cells #[.slice b3 m3 c3] 35)) (.cells #[.bool false, .bool hh, .int .u64 gg, .slice ko kn kc] 46)
      rw [nblk_alloc] at YG
      have KW5 : Kept [] wr w5 := ((Kept.refl [] wr).alloc _).trans K5
      have HF : Hid (w.heap.size < B ∧ B < F) := ⟨by have := HH.out; rw [hB]; have := lt_of_blk Z3; omega, by rw [hF, hB]; exact Y8.lt⟩
      rw [← hF] at YF YG
      rw [← hB] at Y8
      rw [← hF, ← hB]
      refine gen_world (fun W => EB 53 W B x ∧ W.heap[H]? = some (.cells #[.slice mo mn mc] 35 (0, 0)) ∧ W.heap[F]? = some (.cells #[.slice b3 m3 c3] 35 (0, 0)) ∧ W.heap[F + 1]? = some (.cells #[.bool false, .bool hh, .int .u64 gg, .slice ko kn kc] 46 (0, 0)) ∧ Hid (MpV W b3 m3 c3 (mpF es ((ordOf es).take (k + 1)))) ∧ Hid (kn = ks.length ∧ Sl W ko ks) ∧ Hid (Sl W x.ka x.ks) ∧ Hid (SlI W bo (ordOf es)) ∧ Kept [] w W)
        ⟨Y8.kept KA (by simp), KA.blk Y3 (by simp), YF, YG, Q5.out.1.new KA, ⟨Q5.out.2.1, Q5.out.2.2.new KA⟩, SK.out.new (KW5.trans KA), HSI.out _ (KW5.trans KA), (K.trans KW5).trans KA⟩ ?_
      clear Y8 Y3 KA YF YG KW5 hF hB K5 Q5 Z8 Z3 M K SK HSI lt3 r0 NX
      rintro W2 ⟨ZE, ZH, ZF, ZG, QM, QK, SX, SI, KX⟩
      have y7 := ZE.c7
      by_cases q1 : x.at_ = la
      · have RF_ : Hid (R = false) := by show _ = _; rw [HE.out, if_pos q1]
        have q1b : (x.at_ == la) = true := by simpa using q1
        subst q1
        go_wp2
        go_ret
        exact ⟨by rw [RF_.out]; rfl, KX⟩
      · have q1b : (x.at_ == la) = false := by simpa using q1
        have HE2 : Hid (R = if x.dn && !T then false else exB es ((ordOf es).drop (k + 1)) x.at_ (mpF es ((ordOf es).take (k + 1)))) := by show _ = _; rw [HE.out, if_neg q1]
        clear HE
        have y9 := ZE.c9
        obtain ⟨dn, hdn⟩ : ∃ dn, x.dn = dn := ⟨_, rfl⟩
        rw [hdn] at y9 HE2
        clear hdn
        cases dn
        · have NXT : Hid (R = exB es ((ordOf es).drop (k + 1)) x.at_ (mpF es ((ordOf es).take (k + 1)))) := by show _ = _; rw [HE2.out]; rfl
          go_upto_region 11 with (fail)
          clear y7 y9
          have t0 := cell_of_blk ZF (i := 0) rfl
          have t1 := ZE.c7
          have t2 := cell_of_blk ZH (i := 0) rfl
          have f2 := free_of_blk ZH
          have l0 := lt_of_blk ZF
          have l1 := ZE.lt
          have l2 := lt_of_blk ZH
          have n1 : ¬ F = H := by have := HH.out; have := HF.out; omega
          have n2 : ¬ B = H := by have := HH.out; have := HF.out; omega
          have n3 : ¬ H = F := by omega
          have n4 : ¬ H = B := by omega
          go_wp2_with fail
          go_region
          all_goals
            go_wp2
            exact ⟨⟨k + 1, x.at_, b3, m3, c3, by omega, by go_num, rfl, rfl, blk_set ZH 0 _, MpV.setMap QM.out ZH _, (by have q := SlI.setMap SI.out ZH (.slice b3 m3 c3); rw [e2] at q; exact q), NXT, (KX.setCell (p := ⟨H, 0, none⟩) (Or.inr (by have := HH.out; simp; omega)) _).drew⟩, by simp [intOf]; omega⟩
        · have y10 := ZE.c10
          have y11 := ZE.c11
          have y12 := ZE.c12
          have y13 := ZE.c13
          have g0 := cell_of_blk ZG (i := 0) rfl
          have g1 := cell_of_blk ZG (i := 1) rfl
          have g2 := cell_of_blk ZG (i := 2) rfl
          have g3 := cell_of_blk ZG (i := 3) rfl
          have hs := ssame_at x hh gg ko ks kn kc T HT.out.symm W2 QK.out.1 SX.out QK.out.2 LK.out
          cases T
          · have RF_ : Hid (R = false) := by show _ = _; rw [HE2.out]; rfl
            go_wp2_with fail
            refine hs.mono ?_
            rintro e w6 ⟨rfl, K6⟩
            have KX2 := KX.trans K6
            clear hs y7 y9 y10 y11 y12 y13 g0 g1 g2 g3 KX
            have KX := KX2
            go_wp2
            try rw [Exit.noGoto_ret]
            go_ret
            exact ⟨by rw [RF_.out]; rfl, KX⟩
          · have NXT : Hid (R = exB es ((ordOf es).drop (k + 1)) x.at_ (mpF es ((ordOf es).take (k + 1)))) := by show _ = _; rw [HE2.out]; rfl
            go_wp2_with fail
            refine hs.mono ?_
            rintro e w6 ⟨rfl, K6⟩
            have ZE2 := ZE.kept K6 (by simp)
            have ZF2 := K6.blk ZF (by simp)
            have ZH2 := K6.blk ZH (by simp)
            have KX2 := KX.trans K6
            have QM2 : Hid (MpV w6 b3 m3 c3 (mpF es ((ordOf es).take (k + 1)))) := QM.out.new K6
            have SI2 : Hid (SlI w6 bo (ordOf es)) := SI.out.new K6
            clear hs y7 y9 y10 y11 y12 y13 g0 g1 g2 g3 ZE ZF ZH KX QM SI ZG SX QK K6
            have ZE := ZE2
            have ZF := ZF2
            have ZH := ZH2
            have KX := KX2
            have QM := QM2
            have SI := SI2
            clear ZE2 ZF2 ZH2 KX2 QM2 SI2
            go_upto_region 11 with (fail)
            have t0 := cell_of_blk ZF (i := 0) rfl
            have t1 := ZE.c7
            have t2 := cell_of_blk ZH (i := 0) rfl
            have f2 := free_of_blk ZH
            have l0 := lt_of_blk ZF
            have l1 := ZE.lt
            have l2 := lt_of_blk ZH
            have n1 : ¬ F = H := by have := HH.out; have := HF.out; omega
            have n2 : ¬ B = H := by have := HH.out; have := HF.out; omega
            have n3 : ¬ H = F := by omega
            have n4 : ¬ H = B := by omega
            go_wp2_with fail
            go_region
            all_goals
              go_wp2
              exact ⟨⟨k + 1, x.at_, b3, m3, c3, by omega, by go_num, rfl, rfl, blk_set ZH 0 _, MpV.setMap QM.out ZH _, (by have q := SlI.setMap SI.out ZH (.slice b3 m3 c3); rw [e2] at q; exact q), NXT, (KX.setCell (p := ⟨H, 0, none⟩) (Or.inr (by have := HH.out; simp; omega)) _).drew⟩, by simp [intOf]; omega⟩
    · have RT : Hid (R = true) := by
        show _ = _
        rw [E.out, List.drop_eq_nil_of_le (by have := HM.out; omega)]; rfl
      go_wp2
      try rw [Exit.noGoto_ret]
      go_ret
      exact ⟨by rw [RT.out]; rfl, K⟩
end Go.Proofs.Ytlmkcakmeldfeaa.Q
