/-
  The statement HistPending: events that did not happen, and are not done, are of no account.
  Conditions: none.
-/
import Derived.Test.YtlmkcakmeldfeaaHPendM
import Derived.ProofKit
import Derived.SizedLaws
import Derived.Carry
namespace Go.Proofs.Ytlmkcakmeldfeaa
open Go.ChangeShapes Go.WideShapes Go.ChangeAt Go.RowKit
open Go.Deep

open Q
set_option maxRecDepth 100000 in
set_option maxHeartbeats 8000000 in
theorem histPending_walk (w : World) (ao : Option Addr) (es : List Ev) (cap : Nat) (po : Option Addr) (ms : List Ev) (pc : Nat) (hs : Evs w ao es.length es) (hw : KWf es) (hc : ao = none → cap = 0) (hp : Evs w po ms.length ms) (hq : KWf ms) (_hd : po = none → pc = 0) :
    Calls Try.prog 7 #[.slice ao es.length cap, .slice po ms.length pc] w fun o w' => o = .returned (.bool true) ∧ Kept [] w w' := by
  obtain ⟨n, hn⟩ : ∃ n, n = es.length := ⟨_, rfl⟩
  obtain ⟨m, hm⟩ : ∃ m, m = ms.length := ⟨_, rfl⟩
  rw [← hn] at hs ⊢
  rw [← hm] at hp ⊢
  have HV : Hid (Evs w ao n es) := hs
  have HP : Hid (Evs w po m ms) := hp
  have HW : Hid (KWf es) := hw
  have HQ : Hid (KWf ms) := hq
  have HC : Hid (ao = none → cap = 0) := hc
  clear hs hn hw hc hp hm hq _hd
  cases hb : fwB es
  · have hf := few8_any ao es n cap w HV.out.len HV.out.row
    rw [hb] at hf
    go_enter Try.func7, Try.ntmps7
    go_wp2_with (first
      | (go_at_call 9; refine hf.mono ?_; rintro o w1 ⟨rfl, K1⟩)
      | (go_at_call 10; refine (alive_any _).mono ?_; rintro o wz ⟨rfl, KZ⟩))
    go_ret
    exact ⟨rfl, K1.trans KZ⟩
  · have hf := few8_any ao es n cap w HV.out.len HV.out.row
    rw [hb] at hf
    have hl : n ≤ 40 := by have := fw_len hb; have := HV.out.len; omega
    have HKS : Hid (Ksl es) := fun e he => by have := fw_keys hb e he; omega
    clear hb
    have hg := fun w1 k => few8_any po ms m pc w1 HP.out.len (HP.out.row.new k)
    cases hb : fwB ms
    · rw [hb] at hg
      go_enter Try.func7, Try.ntmps7
      go_wp2_with fail
      refine hf.mono ?_
      rintro o w1 ⟨rfl, K1⟩
      go_wp2_with (first
        | (go_at_call 9; refine (hg _ K1).mono ?_; rintro o w2 ⟨rfl, K2⟩)
        | (go_at_call 10; refine (alive_any _).mono ?_; rintro o wz ⟨rfl, KZ⟩))
      go_ret
      exact ⟨rfl, (K1.trans K2).trans KZ⟩
    · rw [hb] at hg
      have hl2 : m ≤ 40 := by have := fw_len hb; have := HP.out.len; omega
      have HKM : Hid (Ksl ms) := fun e he => by have := fw_keys hb e he; omega
      clear hb
      go_enter Try.func7, Try.ntmps7
      go_wp2_with fail
      refine hf.mono ?_
      rintro o w1 ⟨rfl, K1⟩
      go_wp2_with fail
      refine (hg _ K1).mono ?_
      rintro o w2 ⟨rfl, K2⟩
      have K3 := K1.trans K2
      clear hf hg K1 K2
      obtain ⟨u, w3, hap, O3, K4⟩ := append_all 22 w2 ao es n cap HV.out.len (HV.out.row.new K3) HC.out (by omega)
      have K5 := K3.trans K4
      obtain ⟨base, hbase⟩ : ∃ base, base = w2.heap.size := ⟨_, rfl⟩
      have HB : Hid (w.heap.size ≤ base) := by rw [hbase]; exact K3.size
      have HB3 : Hid (base ≤ w3.heap.size) := by rw [hbase]; exact K4.size
      go_wp2_with (at_builtin; refine wpList_append_run rfl (.tmp 20) (.tmp 21) 22 rfl rfl rfl hap ?_)
      rw [← hbase] at O3
      clear hap hbase K3 K4
      go_loopw [5, 25] (fun v5 i wr => ∃ k : Nat, k ≤ m ∧ i = .int .i64 k ∧ Hid (OwnV 14 evL wr base 48 v5 (es ++ (ms.take k).map pend)) ∧ Hid (w3.heap.size ≤ wr.heap.size) ∧ Kept [] w wr) (fun _ i _ => m - (intOf i).toNat)
      case atStart => exact ⟨0, Nat.zero_le _, rfl, (by show OwnV _ _ _ _ _ _ _; simpa using O3), Nat.le_refl _, K5⟩
      case round =>
        clear O3 K5
        obtain ⟨k, hk, rfl, O, WB, K⟩ := hrel
        by_cases hlt : k < m
        · obtain ⟨b1, o1, e1, lt1, r0⟩ := HP.out.at K hlt
          have HT : Hid ((ms.take (k + 1)).map pend = (ms.take k).map pend ++ [pend (evAt ms k)]) := by
            show _ = _
            rw [take_next (by rw [← HP.out.len]; exact hlt) evZ, List.map_append]; rfl
          generalize evAt ms k = x at r0 HT
          rw [e1]
          have ZE := EB.new 48 wr x
          have KZ := (Kept.refl [] wr).alloc (.cells (evA x) 48)
          go_upto_region 7 with (first | ((with_reducible change wpList _ _ _ (Oper.mk _ (Op.load 48 (Operand.tmp 27)) _ _ _ _ :: _) _ _); refine wpList_load_g 48 isEv_ref rfl (.tmp 27) rfl b1 (o1 + k * 14) rfl x r0 ?_) | ((with_reducible change wpList _ _ _ (Oper.mk _ (Op.store 48 _ _) _ _ _ _ :: _) _ _); refine wpList_store_ev 48 isEv_ref rfl (.tmp 7) (.tmp 28) rfl _ rfl rfl x rfl ?_))
          obtain ⟨B, hB⟩ : ∃ B, B = wr.heap.size := ⟨_, rfl⟩
          have HBB : Hid (w.heap.size ≤ B ∧ base ≤ B ∧ ∀ g, Value.ownBlock u5 = some g → g < B) := ⟨by rw [hB]; exact K.size, by rw [hB]; have := HB3.out; have := WB.out; omega, fun g e => by rw [hB]; exact (O.out.base g e).2⟩
          rw [← hB] at ZE
          rw [← hB]
          refine gen_world (fun W => EB 48 W B x ∧ Hid (OwnV 14 evL W base 48 u5 (es ++ (ms.take k).map pend)) ∧ Hid (w3.heap.size ≤ W.heap.size) ∧ Kept [] w W) ⟨ZE, O.out.new KZ, Nat.le_trans WB.out KZ.size, K.trans KZ⟩ ?_
          clear ZE KZ hB K O WB r0
          rintro W ⟨ZE, O, WB, K⟩
          have c7 := ZE.c7
          have c9 := ZE.c9
          have fr := ZE.free
          have ltB := ZE.lt
          obtain ⟨a2, ha2⟩ : ∃ a2, a2 = min x.at_ 0 := ⟨_, rfl⟩
          have HA2 : Hid _ := ha2
          clear ha2
          have main : ∀ V : World, V = ((W.setCell ⟨B, 9, none⟩ (.bool false)).setCell ⟨B, 7, none⟩ (.int .i64 (min x.at_ 0))) → EB 48 V B (pend x) ∧ Hid (OwnV 14 evL V base 48 u5 (es ++ (ms.take k).map pend)) ∧ Hid (w3.heap.size ≤ V.heap.size) ∧ Kept [] w V := fun V e => by
            subst e
            have KS : Kept [B] W ((W.setCell ⟨B, 9, none⟩ (.bool false)).setCell ⟨B, 7, none⟩ (.int .i64 (min x.at_ 0))) := ((Kept.refl [B] W).setCell (p := ⟨B, 9, none⟩) (Or.inl (by simp)) _).setCell (p := ⟨B, 7, none⟩) (Or.inl (by simp)) _
            exact ⟨blk_set (blk_set ZE 9 (.bool false)) 7 (.int .i64 (min x.at_ 0)), O.out.kept KS (fun g e => by have := HBB.out.2.2 g e; simp; omega), Nat.le_trans WB.out KS.size, K.then KS (by intro z hz; right; simp at hz; have := HBB.out.1; omega)⟩
          have HMN : Hid _ := main
          clear main
          rcases Int.lt_trichotomy x.at_ 0 with q | q | q
          · go_upto_region 8 with (fail)
            refine gen_world (fun V => EB 48 V B (pend x) ∧ Hid (OwnV 14 evL V base 48 u5 (es ++ (ms.take k).map pend)) ∧ Hid (w3.heap.size ≤ V.heap.size) ∧ Kept [] w V) (HMN.out _ (by rw [show min x.at_ 0 = x.at_ by omega])) ?_
            clear ZE O WB K c7 c9 fr ltB HMN
            rintro V ⟨ZE, O, WB, K⟩
            obtain ⟨g, cp, w6, hap, O6, _, K6⟩ := append_rev 22 V base V.heap.size _ _ (pend x) rfl O.out (by have := HB3.out; have := WB.out; omega) (by rw [List.length_append, List.length_map, List.length_take]; have := HV.out.len; omega)
            obtain ⟨LL, hLL⟩ : ∃ LL, LL = (es ++ (ms.take k).map pend).length := ⟨_, rfl⟩
            rw [← hLL] at hap O6
            clear hLL
            have T6 : Kept [] w w6 := K.then K6 (by intro z hz; right; have := (O.out.base z (by simpa using hz)).1; have := HB.out; omega)
            have sz : (evA (pend x)).size = 14 := evA_size _
            have bz := build_ev (pend x)
            have HO6 : Hid (OwnV 14 evL w6 base 48 (.slice (some ⟨g, 0, none⟩) (LL + 1) cp) (es ++ (ms.take (k + 1)).map pend)) := by rw [HT.out, ← List.append_assoc]; exact O6
            have HW6 : Hid (w3.heap.size ≤ w6.heap.size) := Nat.le_trans WB.out K6.size
            clear O6 K6 K O WB
            go_wp2_with (first
              | ((with_reducible change wpList _ _ _ (Oper.mk _ (Op.load 48 (Operand.tmp 7)) _ _ _ _ :: _) _ _); refine wpList_load_g 48 isEv_ref rfl (.tmp 7) rfl B 0 rfl (pend x) ZE.range ?_)
              | (at_builtin; refine wpList_append_run rfl (.tmp 34) (.tmp 36) 22 rfl rfl rfl hap ?_))
            clear hap
            exact ⟨⟨k + 1, by omega, by go_num, HO6, HW6, T6⟩, by simp [intOf]; omega⟩
          · go_upto_region 8 with (fail)
            refine gen_world (fun V => EB 48 V B (pend x) ∧ Hid (OwnV 14 evL V base 48 u5 (es ++ (ms.take k).map pend)) ∧ Hid (w3.heap.size ≤ V.heap.size) ∧ Kept [] w V) (HMN.out _ (by rw [show min x.at_ 0 = 0 by omega])) ?_
            clear ZE O WB K c7 c9 fr ltB HMN
            rintro V ⟨ZE, O, WB, K⟩
            obtain ⟨g, cp, w6, hap, O6, _, K6⟩ := append_rev 22 V base V.heap.size _ _ (pend x) rfl O.out (by have := HB3.out; have := WB.out; omega) (by rw [List.length_append, List.length_map, List.length_take]; have := HV.out.len; omega)
            obtain ⟨LL, hLL⟩ : ∃ LL, LL = (es ++ (ms.take k).map pend).length := ⟨_, rfl⟩
            rw [← hLL] at hap O6
            clear hLL
            have T6 : Kept [] w w6 := K.then K6 (by intro z hz; right; have := (O.out.base z (by simpa using hz)).1; have := HB.out; omega)
            have sz : (evA (pend x)).size = 14 := evA_size _
            have bz := build_ev (pend x)
            have HO6 : Hid (OwnV 14 evL w6 base 48 (.slice (some ⟨g, 0, none⟩) (LL + 1) cp) (es ++ (ms.take (k + 1)).map pend)) := by rw [HT.out, ← List.append_assoc]; exact O6
            have HW6 : Hid (w3.heap.size ≤ w6.heap.size) := Nat.le_trans WB.out K6.size
            clear O6 K6 K O WB
            go_wp2_with (first
              | ((with_reducible change wpList _ _ _ (Oper.mk _ (Op.load 48 (Operand.tmp 7)) _ _ _ _ :: _) _ _); refine wpList_load_g 48 isEv_ref rfl (.tmp 7) rfl B 0 rfl (pend x) ZE.range ?_)
              | (at_builtin; refine wpList_append_run rfl (.tmp 34) (.tmp 36) 22 rfl rfl rfl hap ?_))
            clear hap
            exact ⟨⟨k + 1, by omega, by go_num, HO6, HW6, T6⟩, by simp [intOf]; omega⟩
          · go_upto_region 8 with (fail)
            refine gen_world (fun V => EB 48 V B (pend x) ∧ Hid (OwnV 14 evL V base 48 u5 (es ++ (ms.take k).map pend)) ∧ Hid (w3.heap.size ≤ V.heap.size) ∧ Kept [] w V) (HMN.out _ (by rw [show min x.at_ 0 = 0 by omega])) ?_
            clear ZE O WB K c7 c9 fr ltB HMN
            rintro V ⟨ZE, O, WB, K⟩
            obtain ⟨g, cp, w6, hap, O6, _, K6⟩ := append_rev 22 V base V.heap.size _ _ (pend x) rfl O.out (by have := HB3.out; have := WB.out; omega) (by rw [List.length_append, List.length_map, List.length_take]; have := HV.out.len; omega)
            obtain ⟨LL, hLL⟩ : ∃ LL, LL = (es ++ (ms.take k).map pend).length := ⟨_, rfl⟩
            rw [← hLL] at hap O6
            clear hLL
            have T6 : Kept [] w w6 := K.then K6 (by intro z hz; right; have := (O.out.base z (by simpa using hz)).1; have := HB.out; omega)
            have sz : (evA (pend x)).size = 14 := evA_size _
            have bz := build_ev (pend x)
            have HO6 : Hid (OwnV 14 evL w6 base 48 (.slice (some ⟨g, 0, none⟩) (LL + 1) cp) (es ++ (ms.take (k + 1)).map pend)) := by rw [HT.out, ← List.append_assoc]; exact O6
            have HW6 : Hid (w3.heap.size ≤ w6.heap.size) := Nat.le_trans WB.out K6.size
            clear O6 K6 K O WB
            go_wp2_with (first
              | ((with_reducible change wpList _ _ _ (Oper.mk _ (Op.load 48 (Operand.tmp 7)) _ _ _ _ :: _) _ _); refine wpList_load_g 48 isEv_ref rfl (.tmp 7) rfl B 0 rfl (pend x) ZE.range ?_)
              | (at_builtin; refine wpList_append_run rfl (.tmp 34) (.tmp 36) 22 rfl rfl rfl hap ?_))
            clear hap
            exact ⟨⟨k + 1, by omega, by go_num, HO6, HW6, T6⟩, by simp [intOf]; omega⟩
        · have OF : Hid (OwnV 14 evL wr base 48 u5 (es ++ ms.map pend)) := by have q := O.out; rw [List.take_of_length_le (by rw [← HP.out.len]; omega)] at q; exact q
          obtain ⟨fo, fc, rfl, SF, _, _, _⟩ := OF.out.shape evL_len
          obtain ⟨N2, hN2⟩ : ∃ N2, N2 = (es ++ ms.map pend).length := ⟨_, rfl⟩
          have hN3 : N2 ≤ 80 := by rw [hN2, List.length_append, List.length_map]; have := HV.out.len; have := HP.out.len; omega
          have VF : Hid (Evs wr fo N2 (es ++ ms.map pend)) := ⟨hN2, SF, fun e he => by
            rcases List.mem_append.1 he with q | q
            · exact (HV.out.keys e q).new K
            · obtain ⟨e', he', rfl⟩ := List.mem_map.1 q
              exact (HP.out.keys e' he').new K, fun e he => by
            rcases List.mem_append.1 he with q | q
            · exact HV.out.wd e q
            · obtain ⟨e', he', rfl⟩ := List.mem_map.1 q
              exact HP.out.wd e' he'⟩
          have KF : Hid (Ksl (es ++ ms.map pend)) := fun e he => by
            rcases List.mem_append.1 he with q | q
            · exact HKS.out e q
            · obtain ⟨e', he', rfl⟩ := List.mem_map.1 q
              exact HKM.out e' he'
          have WF : Hid (KWf (es ++ ms.map pend)) := ⟨fun e he => by
            rcases List.mem_append.1 he with q | q
            · exact HW.out.op e q
            · obtain ⟨e', he', rfl⟩ := List.mem_map.1 q
              exact HQ.out.op e' he', fun e he => by
            rcases List.mem_append.1 he with q | q
            · exact HW.out.ks e q
            · obtain ⟨e', he', rfl⟩ := List.mem_map.1 q
              exact HQ.out.ks e' he'⟩
          have EO : Hid (ordOf (es ++ ms.map pend) = ordOf es) := ord_app (fun e he => by obtain ⟨e', _, rfl⟩ := List.mem_map.1 he; exact pend_hp e')
          have EL : Hid (lgB (es ++ ms.map pend) = lgB es) := lg_app (fun e he => by obtain ⟨e', _, rfl⟩ := List.mem_map.1 he; exact ⟨pend_hp e', pend_as e'⟩)
          have ER : Hid (rgB (es ++ ms.map pend) = rgB es) := rg_app (fun e he => by obtain ⟨e', _, rfl⟩ := List.mem_map.1 he; exact ⟨pend_hp e', rfl⟩)
          rw [← hN2]
          clear hN2 SF O OF WB
          have hl1 : n ≤ 1000 := by omega
          have hl3 : N2 ≤ 1000 := by omega
          have VE : Hid (Evs wr ao n es) := HV.out.new K
          generalize es ++ ms.map pend = fs at VF KF WF EO EL ER
          go_wp2_with fail
          refine (news8_any ao es n cap wr VE.out hl1).mono ?_
          rintro o w4 ⟨b4, c4, rfl, V4, K4⟩
          go_wp2_with fail
          refine (order_any b4 es n c4 w4 V4.len V4.row hl1).mono ?_
          rintro o w5 ⟨ord, b5, m5, c5, rfl, hm5, I5, S5, K5⟩
          have IE := I5.eq
          subst IE
          have H5 : Hid (m5 = (ordOf es).length) := hm5
          clear I5 hm5 V4
          go_wp2_with fail
          refine (news8_any fo fs N2 fc w5 ((VF.out.new K4).new K5) hl3).mono ?_
          rintro o w6 ⟨b6, c6, rfl, V6, K6⟩
          go_wp2_with fail
          refine (order_any b6 fs N2 c6 w6 V6.len V6.row hl3).mono ?_
          rintro o w7 ⟨ord, b7, m7, c7, rfl, hm7, I7, S7, K7⟩
          have IE := I7.eq
          rw [show ordOf fs = ordOf es from EO.out] at IE
          subst IE
          have e57 : m7 = m5 := hm7.trans H5.out.symm
          subst e57
          have SA : Hid (SlI w7 b5 (ordOf es)) := (S5.new K6).new K7
          have SB : Hid (SlI w7 b7 (ordOf es)) := S7
          have KA := ((K4.trans K5).trans K6).trans K7
          have hmb : m7 ≤ 40 := by have := H5.out; have := ord_len es; have := HV.out.len; omega
          have KT := K.trans KA
          have VE7 : Hid (Evs w7 ao n es) := VE.out.new KA
          have VF7 : Hid (Evs w7 fo N2 fs) := VF.out.new KA
          clear I7 hm7 V6 S5 S7 K4 K5 K6 K7 KA K VE VF EO
          go_wp2
          go_loopw [52] (fun i wr => ∃ k : Nat, k ≤ m7 ∧ i = .int .i64 k ∧ Kept [] w7 wr) (fun i _ => m7 - (intOf i).toNat)
          case atStart => exact ⟨0, Nat.zero_le _, rfl, Kept.refl _ _⟩
          case round =>
            obtain ⟨k, hk, rfl, K⟩ := hrel
            by_cases hlt : k < m7
            · obtain ⟨b1, o1, rfl, _, c1⟩ := SlI.cell (SA.out.new K) (k := k) (by have := H5.out; omega)
              obtain ⟨b2, o2, rfl, _, c2⟩ := SlI.cell (SB.out.new K) (k := k) (by have := H5.out; omega)
              generalize (ordOf es).getD k 0 = v at c1 c2
              have C1 : ∀ p : KW wr, p.val.cell? ⟨b1, o1 + k, none⟩ = some (.int .i64 (v : Int)) := KW.cell c1
              have C2 : ∀ p : KW wr, p.val.cell? ⟨b2, o2 + k, none⟩ = some (.int .i64 (v : Int)) := KW.cell c2
              have z1 : (k : Int) < (m7 : Int) := by omega
              go_wp2_with fail
              refine wp_region_kept (by kernel_rfl) (by kernel_rfl) ?_
              repeat (first | go_big_quiet_step (fail) | quiet_step (fail))
              refine wpQuiet_nil ?_
              intro _ hw'
              obtain ⟨pq, hw''⟩ := hw'
              subst hw''
              have KQ := pq.kept
              clear C1 C2 c1 c2
              go_wp2
              go_roundw
              case rel => exact ⟨k + 1, by omega, by go_num, K.trans KQ⟩
              case measure => simp [intOf]; omega
            · have VE8 := VE7.out.new K
              have VF8 := VF7.out.new K
              have KT8 := KT.trans K
              go_wp2_with fail
              refine (alive_any _).mono ?_
              rintro o w8 ⟨rfl, K8⟩
              go_wp2_with fail
              refine (news8_any fo fs N2 fc w8 (VF8.new K8) hl3).mono ?_
              rintro o w9 ⟨b9, c9, rfl, V9, K9⟩
              have hL1 := legal_any b9 fs N2 c9 w9 V9 hl3 KF.out
              rw [show lgB fs = lgB es from EL.out] at hL1
              obtain ⟨RL, hRL⟩ : ∃ RL, lgB es = RL := ⟨_, rfl⟩
              rw [hRL] at hL1
              go_wp2_with fail
              refine hL1.mono ?_
              rintro o w10 ⟨rfl, K10⟩
              go_wp2_with fail
              refine (news8_any ao es n cap w10 (((VE8.new K8).new K9).new K10) hl1).mono ?_
              rintro o w11 ⟨b11, c11, rfl, V11, K11⟩
              have hL2 := legal_any b11 es n c11 w11 V11 hl1 HKS.out
              rw [hRL] at hL2
              clear hL1 hRL V9
              go_wp2_with fail
              refine hL2.mono ?_
              rintro o w12 ⟨rfl, K12⟩
              clear hL2 V11
              have KB := (((K8.trans K9).trans K10).trans K11).trans K12
              go_wp2_with fail
              refine (news8_any fo fs N2 fc w12 (VF8.new KB) hl3).mono ?_
              rintro o w13 ⟨b13, c13, rfl, V13, K13⟩
              have hR1 := ranges_any b13 fs N2 c13 w13 V13 hl3 KF.out WF.out
              rw [show rgB fs = rgB es from ER.out] at hR1
              obtain ⟨RR, hRR⟩ : ∃ RR, rgB es = RR := ⟨_, rfl⟩
              rw [hRR] at hR1
              go_wp2_with fail
              refine hR1.mono ?_
              rintro o w14 ⟨rfl, K14⟩
              go_wp2_with fail
              refine (news8_any ao es n cap w14 (((VE8.new KB).new K13).new K14) hl1).mono ?_
              rintro o w15 ⟨b15, c15, rfl, V15, K15⟩
              have hR2 := ranges_any b15 es n c15 w15 V15 hl1 HKS.out HW.out
              rw [hRR] at hR2
              clear hR1 hRR V13
              go_wp2_with fail
              refine hR2.mono ?_
              rintro o w16 ⟨rfl, K16⟩
              go_wp2
              go_ret
              exact ⟨by simp, ((((KT8.trans KB).trans K13).trans K14).trans K15).trans K16⟩

theorem histPending_own : ownKnob Try.prog.godebug = none := by kernel_rfl
theorem histPending_laidOut : laidOutB Try.prog = true := by kernel_rfl
set_option maxRecDepth 100000 in
theorem histPending_lifted (os : Os) (started : os.Started) (H : Type) (enc : TypeId × Value → H) :
    ReturnsInHanded {} Try.checked os 7 .any (Rows.histPendingSpec.pre6 enc Try.prog Try.f7 Rows.histPendingRow.domain false) (Rows.histPendingSpec.post enc Try.prog Try.f7 false true false false) := by
  refine returnsInHanded_of_change_sized (C := Try.checked) histPending_own started (by kernel_rfl) Try.func7
    (ChangeSpec.witness6 (enc := enc) (C := Try.checked) false ⟨#[], #[.slice none 0 0, .slice none 0 0], []⟩ 8 (by kernel_rfl) (by kernel_rfl) (by kernel_rfl) (by kernel_rfl)) ?_
  intro W base args ds gs before hval0 hW _ hsz0 _
  have hsz : (DataW.weightsEach Try.prog (Try.f7.params.toList ++ Rows.histPendingSpec.plain.varTypes Try.prog) (ds ++ gs)).all (· ≤ reachBytes) = true := hsz0
  clear hsz0
  have hval : ∀ (j : Nat) t v, Try.f7.params[j]? = some t → args[j]? = some v → Value.okWide Try.prog W .any base t v := hval0
  have hW' := hW
  obtain ⟨p, q, hA0, hV, rfl, _, _⟩ := hW
  have hA : DataW.TrodAll enc Try.prog W 0 (fun _ => true) true Try.f7.params.toList args.toList ds p := hA0
  rw [Try.params7] at hA hval hsz
  clear hA0 hval0
  obtain ⟨v0, vs0, d0, ds0, p0, q0, hargs, rfl, rfl, h0, r0⟩ := trodAll_cons hA
  obtain ⟨v1, vs1, d1, ds1, p1, q1, rfl, rfl, rfl, h1, r1⟩ := trodAll_cons r0
  obtain ⟨rfl, rfl, rfl⟩ := trodAll_nil r1
  obtain rfl : args = #[v0, v1] := by cases args; simp_all
  obtain ⟨rfl, rfl⟩ := trodVars_none hV
  have k0 := h0
  have k1 := h1
  simp only [List.append_nil] at hW'
  have hlt0 : ∀ x ∈ p0, x.block < W.heap.size := fun x hx => hW'.lt x (by simp [hx])
  have hlt1 : ∀ x ∈ p1, x.block < W.heap.size := fun x hx => hW'.lt x (by simp [hx])
  obtain ⟨ao0, cap0, es0, rfl, s0, g0, c0⟩ := Q.open_evs (hval 0 22 v0 rfl rfl) h0
  obtain ⟨ao1, cap1, es1, rfl, s1, g1, c1⟩ := Q.open_evs (hval 1 22 v1 rfl rfl) h1
  refine (histPending_walk W ao0 es0 cap0 ao1 es1 cap1 s0 g0 c0 s1 g1 c1).mono fun e W' ⟨he, hg⟩ => ?_
  subst he
  have hb := hg.below (by simp)
  exact ⟨_, rfl, _, _, _, [], _, [], hW', (trodAll_cons_mk (shut_bool Try.underlying4 _) trodAll_mk0), (trodAll_cons_mk (Below.trod histPending_laidOut (by kernel_rfl) (of_decide_eq_true (by kernel_rfl)) k0 hb hlt0) (trodAll_cons_mk (Below.trod histPending_laidOut (by kernel_rfl) (of_decide_eq_true (by kernel_rfl)) k1 hb hlt1) trodAll_mk0)), rfl, hb.frame _, fun h => by cases h⟩

theorem histPending_holds : Rows.HistPendingSaid :=
  OpenClaim.holds_of_wide 7 Try.f7 rfl rfl rfl rfl rfl rfl rfl ⟨rfl, rfl, rfl, rfl, rfl⟩ rfl rfl rfl rfl rfl (by kernel_rfl) Try.func7 (by kernel_rfl)
    (of_decide_eq_true (by kernel_rfl)) (by unfold Func.isWrapper; first | (rw [if_pos (by decide +kernel)]; kernel_rfl) | (rw [if_neg (by decide +kernel)]; exact ⟨rfl, rfl⟩))
    (fun os started H enc _ => histPending_lifted os started H enc)
#print axioms histPending_holds
end Go.Proofs.Ytlmkcakmeldfeaa
