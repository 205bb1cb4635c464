/-
  Which histories may be: the document's.
-/
import Derived.Test.YtlmkcakmeldfeaaHRMap
import Derived.Test.YtlmkcakmeldfeaaHLegal
namespace Go.Proofs.Ytlmkcakmeldfeaa.Q
set_option maxRecDepth 100000
open Go.RowKit
open Go.Deep
theorem rsame_at (e : Ev) (f2 h2 : Bool) (g2 : Int) (bo : Option Addr) (vs : List Int) (m cb : Nat) (r : Bool) (hr : smB e.fu e.ha e.go e.ks f2 h2 g2 vs = r) (w : World) (hm : m = vs.length) (ha : Sl w e.ka e.ks) (hb : Sl w bo vs) (hl : e.ks.length ≤ 1000) :
    Calls Try.prog 34 #[.agg #[.bool e.fu, .bool e.ha, .int .u64 e.go, .slice e.ka e.ks.length e.kc], .agg #[.bool f2, .bool h2, .int .u64 g2, .slice bo m cb]] w fun o w' => o = .returned (.bool r) ∧ Kept [] w w' := by
  subst hr; exact rsame_any e.fu e.ha f2 h2 e.go g2 e.ka bo e.ks vs e.ks.length m e.kc cb w rfl hm ha hb hl
theorem any_no {es : List Ev} {n : Nat} (hn : n = es.length) (h : ∀ k, k < n → asB (evAt es k) = false) : es.any asB = false := by
  rw [List.any_eq_false]
  intro x hx
  obtain ⟨i, hi, e⟩ := List.mem_iff_getElem.1 hx
  have := h i (by omega)
  rw [show evAt es i = x by unfold evAt; rw [← e]; simp [hi]] at this
  simp [this]
theorem any_yes {es : List Ev} {n k : Nat} (hn : n = es.length) (hk : k < n) (h : asB (evAt es k) = true) : es.any asB = true := List.any_eq_true.2 ⟨evAt es k, evAt_mem (by omega), h⟩
/-- The At of the one ahead. -/
def lstA (es : List Ev) (k : Nat) : Int := if k = 0 then 0 else (evAt es ((ordOf es).getD (k - 1) 0)).at_
theorem hp_pos {e : Ev} (h : hpB e = true) : 0 < e.at_ := by unfold hpB at h; simp at h; exact h.1
set_option maxHeartbeats 16000000 in
theorem rlegal_any (ao : Option Addr) (es : List Ev) (n cap : Nat) (w : World) (hv : Evs w ao n es) (hl : n ≤ 1000) (hk : Ksl es) :
    Calls Try.prog 20 #[.slice ao n cap] w fun o w' => o = .returned (.bool (lgB es)) ∧ Kept [] w w' := by
  have HV : Hid (Evs w ao n es) := hv
  have HK : Hid (Ksl es) := hk
  have OUT : Hid (∀ k, k < n → asB (evAt es k) = true → lgB es = false) := fun k hk h => by unfold lgB; rw [any_yes hv.len hk h]; rfl
  have YES : Hid ((∀ k, k < n → asB (evAt es k) = false) → lgB es = exB es (ordOf es) 0 []) := fun h => by unfold lgB; rw [any_no hv.len h]; rfl
  clear hv hk
  generalize lgB es = R at OUT YES ⊢
  go_enter Try.func20, Try.ntmps20
  go_wp2
  go_loopw [3] (fun i wr => ∃ k : Nat, k ≤ n ∧ i = .int .i64 k ∧ Hid (∀ j, j < k → asB (evAt es j) = false) ∧ Kept [] w wr) (fun i _ => n - (intOf i).toNat)
  case atStart => exact ⟨0, Nat.zero_le _, rfl, (fun j hj => absurd hj (by omega)), Kept.refl _ _⟩
  case round =>
    obtain ⟨k, hk, rfl, E, K⟩ := hrel
    by_cases hlt : k < n
    · have hltz : (k : Int) < (n : Int) := by omega
      obtain ⟨b1, o1, e1, lt1, r0⟩ := HV.out.at K hlt
      have S : Hid (Sl wr (evAt es k).ka (evAt es k).ks) := ((HV.out.new K).key hlt)
      have L : Hid ((evAt es k).ks.length ≤ 1000) := HK.out.at (i := k) (by rw [← HV.out.len]; exact hlt)
      have OU : Hid _ := OUT.out k hlt
      have ST : Hid (asB (evAt es k) = false → ∀ j, j < k + 1 → asB (evAt es j) = false) := fun h j hj => by
        by_cases q : j = k
        · rw [q]; exact h
        · exact E.out j (by omega)
      clear E
      generalize evAt es k = x at r0 S L OU ST
      rw [e1]
      have Z := EB.new 48 wr x
      have c1 := Z.c1
      have c6 := Z.c6
      have c7 := Z.c7
      have c8 := Z.c8
      have c9 := Z.c9
      have c10 := Z.c10
      by_cases q5 : x.op.d = 5
      · have AS : Hid (asB x = false) := by show _ = _; unfold asB irB; rw [q5]; rfl
        rw [q5] at c1
        clear Z
        go_wp2_with (first
          | ((with_reducible change wpList _ _ _ (Oper.mk _ (Op.load 48 _) _ _ _ _ :: _) _ _); refine wpList_load_g 48 isEv_ref rfl (.tmp 19) rfl b1 (o1 + k * 14) rfl x r0 ?_)
          | ((with_reducible change wpList _ _ _ (Oper.mk _ (Op.store 48 _ _) _ _ _ _ :: _) _ _); refine wpList_store_ev 48 isEv_ref rfl (.tmp 4) (.tmp 20) rfl _ rfl rfl x rfl ?_))
        go_roundw
        case rel => exact ⟨k + 1, by omega, by go_num, ST.out AS.out, K.alloc _⟩
        case measure => simp [intOf]; omega
      · have q5b : (x.op.d == 5) = false := by simpa using q5
        have HI : Hid (irB x = false) := q5b
        obtain ⟨dn, hdn⟩ : ∃ dn, x.dn = dn := ⟨_, rfl⟩
        obtain ⟨fu, hfu⟩ : ∃ fu, x.fu = fu := ⟨_, rfl⟩
        have HD : Hid (x.dn = dn ∧ x.fu = fu) := ⟨hdn, hfu⟩
        rw [hdn] at c9
        rw [hfu] at c10
        clear hdn
        cases dn
        · -- it goes on
          have HF : Hid (fuB x = false) := by show _ = _; unfold fuB; rw [HD.out.1]; rfl
          by_cases q0 : 0 < x.at_
          · have HP : Hid (hpB x = true) := by show _ = _; unfold hpB; rw [HI.out, HF.out, decide_eq_true q0]; rfl
            by_cases q1 : x.at_ < x.bg
            · have AS : Hid (asB x = true) := by show _ = _; unfold asB; rw [HI.out, HF.out, HP.out, decide_eq_true q1]; rfl
              clear Z
              go_wp2_with (first
                | ((with_reducible change wpList _ _ _ (Oper.mk _ (Op.load 48 _) _ _ _ _ :: _) _ _); refine wpList_load_g 48 isEv_ref rfl (.tmp 19) rfl b1 (o1 + k * 14) rfl x r0 ?_)
                | ((with_reducible change wpList _ _ _ (Oper.mk _ (Op.store 48 _ _) _ _ _ _ :: _) _ _); refine wpList_store_ev 48 isEv_ref rfl (.tmp 4) (.tmp 20) rfl _ rfl rfl x rfl ?_))
              go_ret
              exact ⟨by rw [OU.out AS.out]; rfl, K.alloc _⟩
            · have AS : Hid (asB x = false) := by show _ = _; unfold asB; rw [HI.out, HF.out, HP.out, decide_eq_false q1, HD.out.1]; rfl
              clear Z
              go_wp2_with (first
                | ((with_reducible change wpList _ _ _ (Oper.mk _ (Op.load 48 _) _ _ _ _ :: _) _ _); refine wpList_load_g 48 isEv_ref rfl (.tmp 19) rfl b1 (o1 + k * 14) rfl x r0 ?_)
                | ((with_reducible change wpList _ _ _ (Oper.mk _ (Op.store 48 _ _) _ _ _ _ :: _) _ _); refine wpList_store_ev 48 isEv_ref rfl (.tmp 4) (.tmp 20) rfl _ rfl rfl x rfl ?_))
              go_roundw
              case rel => exact ⟨k + 1, by omega, by go_num, ST.out AS.out, K.alloc _⟩
              case measure => simp [intOf]; omega
          · have HP : Hid (hpB x = false) := by show _ = _; unfold hpB; rw [decide_eq_false q0]; rfl
            have AS : Hid (asB x = false) := by show _ = _; unfold asB; rw [HI.out, HF.out, HP.out]; exact HD.out.1
            clear Z
            go_wp2_with (first
              | ((with_reducible change wpList _ _ _ (Oper.mk _ (Op.load 48 _) _ _ _ _ :: _) _ _); refine wpList_load_g 48 isEv_ref rfl (.tmp 19) rfl b1 (o1 + k * 14) rfl x r0 ?_)
              | ((with_reducible change wpList _ _ _ (Oper.mk _ (Op.store 48 _ _) _ _ _ _ :: _) _ _); refine wpList_store_ev 48 isEv_ref rfl (.tmp 4) (.tmp 20) rfl _ rfl rfl x rfl ?_))
            go_roundw
            case rel => exact ⟨k + 1, by omega, by go_num, ST.out AS.out, K.alloc _⟩
            case measure => simp [intOf]; omega
        · cases fu
          · -- done, not full
            have HF : Hid (fuB x = false) := by show _ = _; unfold fuB; rw [HD.out.1, HD.out.2]; rfl
            by_cases q0 : 0 < x.at_
            · have q0b : ¬ x.at_ ≤ 0 := by omega
              have HP : Hid (hpB x = true) := by show _ = _; unfold hpB; rw [HI.out, HF.out, decide_eq_true q0]; rfl
              by_cases q1 : x.at_ < x.bg
              · have AS : Hid (asB x = true) := by show _ = _; unfold asB; rw [HI.out, HF.out, HP.out, decide_eq_true q1]; rfl
                clear Z
                go_wp2_with (first
                  | ((with_reducible change wpList _ _ _ (Oper.mk _ (Op.load 48 _) _ _ _ _ :: _) _ _); refine wpList_load_g 48 isEv_ref rfl (.tmp 19) rfl b1 (o1 + k * 14) rfl x r0 ?_)
                  | ((with_reducible change wpList _ _ _ (Oper.mk _ (Op.store 48 _ _) _ _ _ _ :: _) _ _); refine wpList_store_ev 48 isEv_ref rfl (.tmp 4) (.tmp 20) rfl _ rfl rfl x rfl ?_))
                go_ret
                exact ⟨by rw [OU.out AS.out]; rfl, K.alloc _⟩
              · by_cases q2 : x.en < x.at_
                · have AS : Hid (asB x = true) := by show _ = _; unfold asB; rw [HI.out, HF.out, HP.out, decide_eq_true q2, HD.out.1]; simp
                  clear Z
                  go_wp2_with (first
                    | ((with_reducible change wpList _ _ _ (Oper.mk _ (Op.load 48 _) _ _ _ _ :: _) _ _); refine wpList_load_g 48 isEv_ref rfl (.tmp 19) rfl b1 (o1 + k * 14) rfl x r0 ?_)
                    | ((with_reducible change wpList _ _ _ (Oper.mk _ (Op.store 48 _ _) _ _ _ _ :: _) _ _); refine wpList_store_ev 48 isEv_ref rfl (.tmp 4) (.tmp 20) rfl _ rfl rfl x rfl ?_))
                  go_ret
                  exact ⟨by rw [OU.out AS.out]; rfl, K.alloc _⟩
                · have AS : Hid (asB x = false) := by show _ = _; unfold asB; rw [HI.out, HF.out, HP.out, decide_eq_false q1, decide_eq_false q2]; simp
                  clear Z
                  go_wp2_with (first
                    | ((with_reducible change wpList _ _ _ (Oper.mk _ (Op.load 48 _) _ _ _ _ :: _) _ _); refine wpList_load_g 48 isEv_ref rfl (.tmp 19) rfl b1 (o1 + k * 14) rfl x r0 ?_)
                    | ((with_reducible change wpList _ _ _ (Oper.mk _ (Op.store 48 _ _) _ _ _ _ :: _) _ _); refine wpList_store_ev 48 isEv_ref rfl (.tmp 4) (.tmp 20) rfl _ rfl rfl x rfl ?_))
                  go_roundw
                  case rel => exact ⟨k + 1, by omega, by go_num, ST.out AS.out, K.alloc _⟩
                  case measure => simp [intOf]; omega
            · have q0b : x.at_ ≤ 0 := by omega
              have HP : Hid (hpB x = false) := by show _ = _; unfold hpB; rw [decide_eq_false q0]; rfl
              have AS : Hid (asB x = true) := by show _ = _; unfold asB; rw [HI.out, HF.out, HP.out]; exact HD.out.1
              clear Z
              go_wp2_with (first
                | ((with_reducible change wpList _ _ _ (Oper.mk _ (Op.load 48 _) _ _ _ _ :: _) _ _); refine wpList_load_g 48 isEv_ref rfl (.tmp 19) rfl b1 (o1 + k * 14) rfl x r0 ?_)
                | ((with_reducible change wpList _ _ _ (Oper.mk _ (Op.store 48 _ _) _ _ _ _ :: _) _ _); refine wpList_store_ev 48 isEv_ref rfl (.tmp 4) (.tmp 20) rfl _ rfl rfl x rfl ?_))
              go_ret
              exact ⟨by rw [OU.out AS.out]; rfl, K.alloc _⟩
          · -- done, and full
            have HF : Hid (fuB x = true) := by show _ = _; unfold fuB; rw [HD.out.1, HD.out.2]; rfl
            by_cases q2 : x.op.d = 2
            · have HA : Hid (asB x = !ofB x) := by show _ = _; unfold asB; rw [HI.out, HF.out, q2]; rfl
              rw [q2] at c1
              have c11 := Z.c11
              have c12 := Z.c12
              have c13 := Z.c13
              have hs := fun w1 s => rsame_at x true false 0 none [] 0 0 (ofB x) rfl w1 rfl s (fun h => absurd h (by simp)) L.out
              have KZ := (Kept.refl [] wr).alloc (.cells (evA x) 48)
              rw [hfu] at hs
              clear hfu HD
              generalize ofB x = B at hs HA
              cases B
              · have AS : Hid (asB x = true) := HA.out
                go_wp2_with (first
                  | (go_at_call 34; refine (hs _ (S.out.new KZ)).mono ?_; rintro o w2 ⟨rfl, K2⟩)
                  | ((with_reducible change wpList _ _ _ (Oper.mk _ (Op.load 48 _) _ _ _ _ :: _) _ _); refine wpList_load_g 48 isEv_ref rfl (.tmp 19) rfl b1 (o1 + k * 14) rfl x r0 ?_)
                  | ((with_reducible change wpList _ _ _ (Oper.mk _ (Op.store 48 _ _) _ _ _ _ :: _) _ _); refine wpList_store_ev 48 isEv_ref rfl (.tmp 4) (.tmp 20) rfl _ rfl rfl x rfl ?_))
                go_ret
                exact ⟨by rw [OU.out AS.out]; rfl, (K.trans KZ).trans K2⟩
              · have AS : Hid (asB x = false) := HA.out
                go_wp2_with (first
                  | (go_at_call 34; refine (hs _ (S.out.new KZ)).mono ?_; rintro o w2 ⟨rfl, K2⟩)
                  | ((with_reducible change wpList _ _ _ (Oper.mk _ (Op.load 48 _) _ _ _ _ :: _) _ _); refine wpList_load_g 48 isEv_ref rfl (.tmp 19) rfl b1 (o1 + k * 14) rfl x r0 ?_)
                  | ((with_reducible change wpList _ _ _ (Oper.mk _ (Op.store 48 _ _) _ _ _ _ :: _) _ _); refine wpList_store_ev 48 isEv_ref rfl (.tmp 4) (.tmp 20) rfl _ rfl rfl x rfl ?_))
                go_roundw
                case rel => exact ⟨k + 1, by omega, by go_num, ST.out AS.out, (K.trans KZ).trans K2⟩
                case measure => simp [intOf]; omega
            · have q2b : (x.op.d == 2) = false := by simpa using q2
              have AS : Hid (asB x = true) := by show _ = _; unfold asB; rw [HI.out, HF.out, q2b]; rfl
              clear Z
              go_wp2_with (first
                | ((with_reducible change wpList _ _ _ (Oper.mk _ (Op.load 48 _) _ _ _ _ :: _) _ _); refine wpList_load_g 48 isEv_ref rfl (.tmp 19) rfl b1 (o1 + k * 14) rfl x r0 ?_)
                | ((with_reducible change wpList _ _ _ (Oper.mk _ (Op.store 48 _ _) _ _ _ _ :: _) _ _); refine wpList_store_ev 48 isEv_ref rfl (.tmp 4) (.tmp 20) rfl _ rfl rfl x rfl ?_))
              go_ret
              exact ⟨by rw [OU.out AS.out]; rfl, K.alloc _⟩
    · have hltz : ¬ (k : Int) < (n : Int) := by omega
      have HR := YES.out (fun j hj => E.out j (by omega))
      have HE0 : Hid _ := HR
      clear HR E OUT YES
      have hc := rorder_any ao es n cap wr HV.out.len (HV.out.row.new K) hl
      go_wp2_with fail
      refine hc.mono ?_
      rintro o w1 ⟨ord, bo, m, c', rfl, hm, I1, S1, K1⟩
      have IE := I1.eq
      subst IE
      have KT := K.trans K1
      have HM : Hid _ := hm
      have hmb : m ≤ 1000 := by have := ord_len es; have := HV.out.len; omega
      clear hc K1 I1 hm K
      go_wp2
      go_loopw [6, 7] (fun vm i wr => ∃ (k : Nat) (mo : Option Addr) (mn mc : Nat), k ≤ m ∧ i = .int .i64 k ∧ vm = .slice mo mn mc ∧ Hid (MpV wr mo mn mc (mpF es ((ordOf es).take k))) ∧ Hid (SlI wr bo (ordOf es)) ∧ Hid (R = exB es ((ordOf es).drop k) (lstA es k) (mpF es ((ordOf es).take k))) ∧ Kept [] w wr) (fun _ i _ => m - (intOf i).toNat)
      case atStart => exact ⟨0, none, 0, 0, Nat.zero_le _, rfl, rfl, MpV.nil _, S1, HE0, KT⟩
      case round =>
        clear S1 KT HE0
        obtain ⟨k, mo, mn, mc, hk, rfl, rfl, M, S, E, K⟩ := hrel
        by_cases hlt : k < m
        · have hltz : (k : Int) < (m : Int) := by omega
          obtain ⟨b2, o2, e2, _, c2⟩ := SlI.cell S.out (k := k) (by have := HM.out; omega)
          have im := getD_mem (l := ordOf es) (k := k) (by have := HM.out; omega)
          have NX : Hid _ := mpF_take (es := es) (k := k) (by have := HM.out; omega)
          have E1 := E.out
          have HLA : Hid (lstA es (k + 1) = (evAt es ((ordOf es).getD k 0)).at_) := by show _ = _; unfold lstA; rw [if_neg (by omega), Nat.add_sub_cancel]
          rw [drop_next (by have := HM.out; omega)] at E1
          obtain ⟨i, hi⟩ : ∃ i, (ordOf es).getD k 0 = i := ⟨_, rfl⟩
          rw [hi] at c2 im NX E1 HLA
          have hin : i < n := by have := ord_lt im; have := HV.out.len; omega
          have HP : Hid (0 < (evAt es i).at_) := hp_pos (ord_hp im)
          clear hi im E
          unfold exB at E1
          obtain ⟨b1, o1, e1, lt1, r0⟩ := HV.out.at K hin
          have SK : Hid (Sl wr (evAt es i).ka (evAt es i).ks) := (HV.out.new K).key hin
          have LK : Hid ((evAt es i).ks.length ≤ 1000) := HK.out.at (by rw [← HV.out.len]; exact hin)
          obtain ⟨x, hx⟩ : ∃ x, evAt es i = x := ⟨_, rfl⟩
          rw [hx] at r0 NX SK LK E1 HP HLA
          clear hx
          rw [← show mpF es ((ordOf es).take (k + 1)) = _ from NX.out] at E1
          have HT : Hid (tdB x (mpF es ((ordOf es).take k)) = smB x.fu x.ha x.go x.ks false (doH (mpF es ((ordOf es).take k)) x.op) (doG (mpF es ((ordOf es).take k)) x.op) (doK (mpF es ((ordOf es).take k)) x.op)) := rfl
          obtain ⟨hh, hhh⟩ : ∃ hh, doH (mpF es ((ordOf es).take k)) x.op = hh := ⟨_, rfl⟩
          obtain ⟨gg, hgg⟩ : ∃ gg, doG (mpF es ((ordOf es).take k)) x.op = gg := ⟨_, rfl⟩
          obtain ⟨ks, hks⟩ : ∃ ks, doK (mpF es ((ordOf es).take k)) x.op = ks := ⟨_, rfl⟩
          rw [hhh, hgg, hks] at HT
          have HH1 : Hid _ := hhh
          have HH2 : Hid _ := hgg
          have HH3 : Hid _ := hks
          clear hhh hgg hks
          generalize tdB x (mpF es ((ordOf es).take k)) = T at HT E1
          have HE : Hid _ := E1
          clear E1
          have HSI : Hid (∀ W', Kept [] wr W' → SlI W' bo (ordOf es)) := fun W' k' => S.out.new k'
          rw [e1, e2]
          have z1 : (i : Int) < (n : Int) := by omega
          have Z8 := EB.new 48 wr x
          go_upto_region 19 with (first
            | ((with_reducible change wpList _ _ _ (Oper.mk _ (Op.load 48 _) _ _ _ _ :: _) _ _); refine wpList_load_g 48 isEv_ref rfl (.tmp 92) rfl b1 (o1 + i * 14) rfl x r0 ?_)
            | ((with_reducible change wpList _ _ _ (Oper.mk _ (Op.store 48 _ _) _ _ _ _ :: _) _ _); refine wpList_store_ev 48 isEv_ref rfl (.tmp 8) (.tmp 93) rfl _ rfl rfl x rfl ?_))
          have KZ := (Kept.refl [] wr).alloc (.cells (evA x) 48)
          obtain ⟨B, hB⟩ : ∃ B, B = wr.heap.size := ⟨_, rfl⟩
          rw [← hB] at Z8
          rw [← hB]
          refine gen_world (fun W => EB 48 W B x ∧ Hid (MpV W mo mn mc (mpF es ((ordOf es).take k))) ∧ Hid (Sl W x.ka x.ks) ∧ Hid (SlI W bo (ordOf es)) ∧ Kept [] w W)
            ⟨Z8, M.out.new KZ, SK.out.new KZ, HSI.out _ KZ, K.trans KZ⟩ ?_
          clear Z8 KZ hB SK HSI K r0 c2
          rintro W1 ⟨ZE, QM, SX, SI, KX⟩
          have y7 := ZE.c7
          have Y7 : ∀ p : KW W1, p.val.cell? ⟨B, 7, none⟩ = some (.int .i64 x.at_) := KW.cell y7
          by_cases k0 : k = 0
          · subst k0
            have HE2 : Hid (R = if x.dn && !T then false else exB es ((ordOf es).drop (0 + 1)) x.at_ (mpF es ((ordOf es).take (0 + 1)))) := by
              show _ = _; rw [HE.out, if_neg (by have := HP.out; show ¬ x.at_ = 0; omega)]
            clear HE
            go_wp2_with fail
            refine wp_region_kept (by kernel_rfl) (by kernel_rfl) ?_
            repeat (first | go_big_quiet_step (fail) | quiet_step (fail))
            refine wpQuiet_nil ?_
            intro _ hw'
            obtain ⟨pq, hw''⟩ := hw'
            subst hw''
            have KQ := pq.kept
            generalize pq.val = V at KQ ⊢
            clear y7 Y7 pq
            go_upto_region 21 with (fail)
            refine gen_world (fun W => EB 48 W B x ∧ Hid (MpV W mo mn mc (mpF es ((ordOf es).take 0))) ∧ Hid (Sl W x.ka x.ks) ∧ Hid (SlI W bo (ordOf es)) ∧ Kept [] w W)
              ⟨ZE.kept KQ (by simp), QM.out.new KQ, SX.out.new KQ, SI.out.new KQ, KX.trans KQ⟩ ?_
            clear ZE QM SX SI KX KQ
            rintro W2 ⟨ZE, QM, SX, SI, KX⟩

            have D := rdo_at mo (mpF es ((ordOf es).take 0)) (mpF es ((ordOf es).take (0 + 1))) mn mc x.op hh gg ks W2 QM.out (mpF_str HV.out.wd take_lt) (by have h1 := M.out.1; have h2 := mpF_len HV.out.wd (take_lt (es := es) (k := 0)); have h3 := ord_len es; have h4 := HV.out.len; rw [List.length_take] at h2; omega) NX.out.symm HH1.out HH2.out HH3.out
            have a1 := ZE.c1
            have a2 := ZE.c2
            have a3 := ZE.c3
            have a4 := ZE.c4
            have a5 := ZE.c5
            go_wp2_with fail
            refine D.mono ?_
            rintro e w5 ⟨b3, m3, c3, ko, kn, kc, rfl, Q5, K5⟩
            clear D a1 a2 a3 a4 a5
            go_upto_region 22 with (fail)
            obtain ⟨F, hF⟩ : ∃ F, F = w5.heap.size := ⟨_, rfl⟩
            have KA : Kept [] w5 (w5.alloc (.cells #[.bool false, .bool hh, .int .u64 gg, .slice ko kn kc] 46)) := (Kept.refl _ _).alloc _
            have YG := blk_alloc_new w5 (.cells #[.bool false, .bool hh, .int .u64 gg, .slice ko kn kc] 46)
            rw [← hF] at YG
            rw [← hF]
            refine gen_world (fun W => EB 48 W B x ∧ W.heap[F]? = some (.cells #[.bool false, .bool hh, .int .u64 gg, .slice ko kn kc] 46 (0, 0)) ∧ Hid (MpV W b3 m3 c3 (mpF es ((ordOf es).take (0 + 1)))) ∧ Hid (kn = ks.length ∧ Sl W ko ks) ∧ Hid (Sl W x.ka x.ks) ∧ Hid (SlI W bo (ordOf es)) ∧ Kept [] w W)
              ⟨(ZE.kept K5 (by simp)).kept KA (by simp), YG, Q5.out.1.new KA, ⟨Q5.out.2.1, Q5.out.2.2.new KA⟩, SX.out.new (K5.trans KA), SI.out.new (K5.trans KA), (KX.trans K5).trans KA⟩ ?_
            clear KA YG hF K5 Q5 ZE QM SX SI KX
            rintro W3 ⟨ZE, ZG, QM, QK, SX, SI, KX⟩
            have y9 := ZE.c9
            obtain ⟨dn, hdn⟩ : ∃ dn, x.dn = dn := ⟨_, rfl⟩
            rw [hdn] at y9 HE2
            clear hdn
            cases dn
            · have NXT : Hid (R = exB es ((ordOf es).drop (0 + 1)) (lstA es (0 + 1)) (mpF es ((ordOf es).take (0 + 1)))) := by show _ = _; rw [HE2.out, HLA.out]; rfl
              go_wp2
              go_roundw
              case rel => exact ⟨0 + 1, b3, m3, c3, by omega, by go_num, rfl, QM, (by have q := SI; rw [e2] at q; exact q), NXT, KX⟩
              case measure => simp [intOf]; omega
            · have y10 := ZE.c10
              have y11 := ZE.c11
              have y12 := ZE.c12
              have y13 := ZE.c13
              have g0 := cell_of_blk ZG (i := 0) rfl
              have g1 := cell_of_blk ZG (i := 1) rfl
              have g2 := cell_of_blk ZG (i := 2) rfl
              have g3 := cell_of_blk ZG (i := 3) rfl
              have hs := rsame_at x false hh gg ko ks kn kc T HT.out.symm W3 QK.out.1 SX.out QK.out.2 LK.out
              cases T
              · have RF_ : Hid (R = false) := by show _ = _; rw [HE2.out]; rfl
                go_wp2_with fail
                refine hs.mono ?_
                rintro e w6 ⟨rfl, K6⟩
                clear hs y9 y10 y11 y12 y13 g0 g1 g2 g3
                go_wp2
                go_ret
                exact ⟨by rw [RF_.out]; rfl, KX.trans K6⟩
              · have NXT : Hid (R = exB es ((ordOf es).drop (0 + 1)) (lstA es (0 + 1)) (mpF es ((ordOf es).take (0 + 1)))) := by show _ = _; rw [HE2.out, HLA.out]; rfl
                go_wp2_with fail
                refine hs.mono ?_
                rintro e w6 ⟨rfl, K6⟩
                have QM2 : Hid (MpV w6 b3 m3 c3 (mpF es ((ordOf es).take (0 + 1)))) := QM.out.new K6
                have SI2 : Hid (SlI w6 bo (ordOf es)) := SI.out.new K6
                clear hs y9 y10 y11 y12 y13 g0 g1 g2 g3
                go_wp2
                go_roundw
                case rel => exact ⟨0 + 1, b3, m3, c3, by omega, by go_num, rfl, QM2, (by have q := SI2; rw [e2] at q; exact q), NXT, KX.trans K6⟩
                case measure => simp [intOf]; omega
          · obtain ⟨p, rfl⟩ : ∃ p, k = p + 1 := ⟨k - 1, by omega⟩
            have SI1 := SI.out
            rw [e2] at SI1
            obtain ⟨b4, o4, e4, _, c4⟩ := SlI.cell SI1 (k := p) (by have := HM.out; omega)
            cases e4
            have jm := getD_mem (l := ordOf es) (k := p) (by have := HM.out; omega)
            have HLB : Hid (lstA es (p + 1) = (evAt es ((ordOf es).getD p 0)).at_) := by show _ = _; unfold lstA; rw [if_neg (by omega), Nat.add_sub_cancel]
            obtain ⟨j, hj⟩ : ∃ j, (ordOf es).getD p 0 = j := ⟨_, rfl⟩
            rw [hj] at c4 jm HLB
            have hjn : j < n := by have := ord_lt jm; have := HV.out.len; omega
            clear hj jm SI1
            obtain ⟨b5, o5, e5, lt5, r5⟩ := HV.out.at KX hjn
            rw [e1] at e5
            cases e5
            obtain ⟨y, hy⟩ : ∃ y, evAt es j = y := ⟨_, rfl⟩
            rw [hy] at r5 HLB
            clear hy
            have c5 := rg7 r5
            clear r5
            have C4 : ∀ q : KW W1, q.val.cell? ⟨b2, o2 + p, none⟩ = some (.int .i64 (j : Int)) := KW.cell c4
            have C5 : ∀ q : KW W1, q.val.cell? ⟨b1, o1 + j * 14 + 7, none⟩ = some (.int .i64 y.at_) := KW.cell c5
            have z2 : (j : Int) < (n : Int) := by omega
            have z3 : (0 : Int) < (p : Int) + 1 := by omega
            have z4 : decide ((0 : Int) < (p : Int) + 1) = true := decide_eq_true z3
            have z5 : (p : Int) < (m : Int) := by omega
            by_cases q1 : y.at_ = x.at_
            · have RF_ : Hid (R = false) := by show _ = _; rw [HE.out, if_pos (by rw [HLB.out]; exact q1.symm)]
              have q1b : (y.at_ == x.at_) = true := by simpa using q1
              go_wp2_with fail
              refine wp_region_kept (by kernel_rfl) (by kernel_rfl) ?_
              repeat (first | go_big_quiet_step (fail) | quiet_step (fail))
              refine wpQuiet_nil ?_
              intro _ hw'
              obtain ⟨pq, hw''⟩ := hw'
              subst hw''
              have KQ := pq.kept
              generalize pq.val = V at KQ ⊢
              clear y7 c4 c5 Y7 C4 C5 pq
              go_wp2
              go_ret
              exact ⟨by rw [RF_.out]; rfl, KX.trans KQ⟩
            · have HE2 : Hid (R = if x.dn && !T then false else exB es ((ordOf es).drop (p + 1 + 1)) x.at_ (mpF es ((ordOf es).take (p + 1 + 1)))) := by
                show _ = _; rw [HE.out, if_neg (by rw [HLB.out]; exact fun h => q1 h.symm)]
              have q1b : (y.at_ == x.at_) = false := by simpa using q1
              clear HE
              go_wp2_with fail
              refine wp_region_kept (by kernel_rfl) (by kernel_rfl) ?_
              repeat (first | go_big_quiet_step (fail) | quiet_step (fail))
              refine wpQuiet_nil ?_
              intro _ hw'
              obtain ⟨pq, hw''⟩ := hw'
              subst hw''
              have KQ := pq.kept
              generalize pq.val = V at KQ ⊢
              clear y7 c4 c5 Y7 C4 C5 pq
              go_upto_region 21 with (fail)
              refine gen_world (fun W => EB 48 W B x ∧ Hid (MpV W mo mn mc (mpF es ((ordOf es).take (p + 1)))) ∧ Hid (Sl W x.ka x.ks) ∧ Hid (SlI W bo (ordOf es)) ∧ Kept [] w W)
                ⟨ZE.kept KQ (by simp), QM.out.new KQ, SX.out.new KQ, SI.out.new KQ, KX.trans KQ⟩ ?_
              clear ZE QM SX SI KX KQ
              rintro W2 ⟨ZE, QM, SX, SI, KX⟩

              have D := rdo_at mo (mpF es ((ordOf es).take (p + 1))) (mpF es ((ordOf es).take (p + 1 + 1))) mn mc x.op hh gg ks W2 QM.out (mpF_str HV.out.wd take_lt) (by have h1 := M.out.1; have h2 := mpF_len HV.out.wd (take_lt (es := es) (k := p + 1)); have h3 := ord_len es; have h4 := HV.out.len; rw [List.length_take] at h2; omega) NX.out.symm HH1.out HH2.out HH3.out
              have a1 := ZE.c1
              have a2 := ZE.c2
              have a3 := ZE.c3
              have a4 := ZE.c4
              have a5 := ZE.c5
              go_wp2_with fail
              refine D.mono ?_
              rintro e w5 ⟨b3, m3, c3, ko, kn, kc, rfl, Q5, K5⟩
              clear D a1 a2 a3 a4 a5
              go_upto_region 22 with (fail)
              obtain ⟨F, hF⟩ : ∃ F, F = w5.heap.size := ⟨_, rfl⟩
              have KA : Kept [] w5 (w5.alloc (.cells #[.bool false, .bool hh, .int .u64 gg, .slice ko kn kc] 46)) := (Kept.refl _ _).alloc _
              have YG := blk_alloc_new w5 (.cells #[.bool false, .bool hh, .int .u64 gg, .slice ko kn kc] 46)
              rw [← hF] at YG
              rw [← hF]
              refine gen_world (fun W => EB 48 W B x ∧ W.heap[F]? = some (.cells #[.bool false, .bool hh, .int .u64 gg, .slice ko kn kc] 46 (0, 0)) ∧ Hid (MpV W b3 m3 c3 (mpF es ((ordOf es).take (p + 1 + 1)))) ∧ Hid (kn = ks.length ∧ Sl W ko ks) ∧ Hid (Sl W x.ka x.ks) ∧ Hid (SlI W bo (ordOf es)) ∧ Kept [] w W)
                ⟨(ZE.kept K5 (by simp)).kept KA (by simp), YG, Q5.out.1.new KA, ⟨Q5.out.2.1, Q5.out.2.2.new KA⟩, SX.out.new (K5.trans KA), SI.out.new (K5.trans KA), (KX.trans K5).trans KA⟩ ?_
              clear KA YG hF K5 Q5 ZE QM SX SI KX
              rintro W3 ⟨ZE, ZG, QM, QK, SX, SI, KX⟩
              have y9 := ZE.c9
              obtain ⟨dn, hdn⟩ : ∃ dn, x.dn = dn := ⟨_, rfl⟩
              rw [hdn] at y9 HE2
              clear hdn
              cases dn
              · have NXT : Hid (R = exB es ((ordOf es).drop (p + 1 + 1)) (lstA es (p + 1 + 1)) (mpF es ((ordOf es).take (p + 1 + 1)))) := by show _ = _; rw [HE2.out, HLA.out]; rfl
                go_wp2
                go_roundw
                case rel => exact ⟨p + 1 + 1, b3, m3, c3, by omega, by go_num, rfl, QM, (by have q := SI; rw [e2] at q; exact q), NXT, KX⟩
                case measure => simp [intOf]; omega
              · have y10 := ZE.c10
                have y11 := ZE.c11
                have y12 := ZE.c12
                have y13 := ZE.c13
                have g0 := cell_of_blk ZG (i := 0) rfl
                have g1 := cell_of_blk ZG (i := 1) rfl
                have g2 := cell_of_blk ZG (i := 2) rfl
                have g3 := cell_of_blk ZG (i := 3) rfl
                have hs := rsame_at x false hh gg ko ks kn kc T HT.out.symm W3 QK.out.1 SX.out QK.out.2 LK.out
                cases T
                · have RF_ : Hid (R = false) := by show _ = _; rw [HE2.out]; rfl
                  go_wp2_with fail
                  refine hs.mono ?_
                  rintro e w6 ⟨rfl, K6⟩
                  clear hs y9 y10 y11 y12 y13 g0 g1 g2 g3
                  go_wp2
                  go_ret
                  exact ⟨by rw [RF_.out]; rfl, KX.trans K6⟩
                · have NXT : Hid (R = exB es ((ordOf es).drop (p + 1 + 1)) (lstA es (p + 1 + 1)) (mpF es ((ordOf es).take (p + 1 + 1)))) := by show _ = _; rw [HE2.out, HLA.out]; rfl
                  go_wp2_with fail
                  refine hs.mono ?_
                  rintro e w6 ⟨rfl, K6⟩
                  have QM2 : Hid (MpV w6 b3 m3 c3 (mpF es ((ordOf es).take (p + 1 + 1)))) := QM.out.new K6
                  have SI2 : Hid (SlI w6 bo (ordOf es)) := SI.out.new K6
                  clear hs y9 y10 y11 y12 y13 g0 g1 g2 g3
                  go_wp2
                  go_roundw
                  case rel => exact ⟨p + 1 + 1, b3, m3, c3, by omega, by go_num, rfl, QM2, (by have q := SI2; rw [e2] at q; exact q), NXT, KX.trans K6⟩
                  case measure => simp [intOf]; omega
        · have hltz : ¬ (k : Int) < (m : Int) := by omega
          have RT : Hid (R = true) := by
            show _ = _
            rw [E.out, List.drop_eq_nil_of_le (by have := HM.out; omega)]; rfl
          go_wp2
          go_ret
          exact ⟨by rw [RT.out]; rfl, K⟩
end Go.Proofs.Ytlmkcakmeldfeaa.Q
