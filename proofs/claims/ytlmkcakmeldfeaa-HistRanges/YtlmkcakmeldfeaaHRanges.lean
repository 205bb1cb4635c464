/-
  Did all Ranges tell what they might? The program's.
-/
import Derived.Test.YtlmkcakmeldfeaaHLives
import Derived.Test.YtlmkcakmeldfeaaHLegal
import Derived.WalkMore
namespace Go.Proofs.Ytlmkcakmeldfeaa.Q
set_option maxRecDepth 100000
open Go.RowKit
open Go.Deep
/-- Is k in the map while a Range goes on: at some moment, at each? -/
def dk (es : List Ev) (e : Ev) (k : Int) : Bool × Bool := dur (lfF es (ordOf es) k) e.bg e.en
def rgE (es : List Ev) (e : Ev) : Bool := !(decide (e.en < e.bg)) && (kfB e && (e.ks.all (fun k => (dk es e k).1) && (ordOf es).all (fun i => !((dk es e (evAt es i).op.k).2 && loB e (evAt es i).op.k))))
def rgO (es : List Ev) (e : Ev) : Bool := !(irB e && e.dn) || rgE es e
def rgB (es : List Ev) : Bool := es.all (rgO es)
theorem dk_key {es : List Ev} {e : Ev} {k : Int} (h : (dk es e k).2 = true) : ∃ i ∈ ordOf es, (evAt es i).op.k = k := by
  unfold dk at h
  cases hl : (ordOf es).filter (pdB es k) with
  | nil => unfold lfF at h; rw [hl] at h; cases h
  | cons i l =>
    have : i ∈ (ordOf es).filter (pdB es k) := by rw [hl]; simp
    obtain ⟨h1, h2⟩ := List.mem_filter.1 this
    unfold pdB at h2
    simp at h2
    exact ⟨i, h1, h2.2⟩
theorem rgE_lt {es : List Ev} {e : Ev} (h : e.en < e.bg) : rgE es e = false := by unfold rgE; rw [decide_eq_true h]; rfl
theorem rgE_kf {es : List Ev} {e : Ev} (h : kfB e = false) : rgE es e = false := by unfold rgE; rw [h]; simp
theorem rgE_some {es : List Ev} {e : Ev} {j : Nat} (hj : j < e.ks.length) (h : (dk es e (e.ks.getD j 0)).1 = false) : rgE es e = false := by
  unfold rgE
  rw [show e.ks.all (fun k => (dk es e k).1) = false from List.all_eq_false.2 ⟨e.ks.getD j 0, by simp [hj], by simp only [h]; simp⟩]; simp
theorem rgE_each {es : List Ev} {e : Ev} {k : Int} (h : (dk es e k).2 = true) (h2 : loB e k = true) : rgE es e = false := by
  obtain ⟨i, hi, rfl⟩ := dk_key h
  unfold rgE
  rw [show (ordOf es).all (fun i => !((dk es e (evAt es i).op.k).2 && loB e (evAt es i).op.k)) = false from List.all_eq_false.2 ⟨i, hi, by simp [h, h2]⟩]; simp
theorem rgE_yes {es : List Ev} {e : Ev} (h1 : ¬ e.en < e.bg) (h2 : kfB e = true) (h3 : ∀ j, j < e.ks.length → (dk es e (e.ks.getD j 0)).1 = true) (h4 : ∀ i ∈ ordOf es, (dk es e (evAt es i).op.k).2 = true → loB e (evAt es i).op.k = false) : rgE es e = true := by
  unfold rgE
  rw [decide_eq_false h1, h2, show e.ks.all (fun k => (dk es e k).1) = true from List.all_eq_true.2 (fun k hk => by
    obtain ⟨j, hj, rfl⟩ := List.mem_iff_getElem.1 hk
    have := h3 j hj
    rwa [show e.ks.getD j 0 = e.ks[j] by simp [hj]] at this),
    show (ordOf es).all (fun i => !((dk es e (evAt es i).op.k).2 && loB e (evAt es i).op.k)) = true from List.all_eq_true.2 (fun i hi => by
      cases h : (dk es e (evAt es i).op.k).2
      · rfl
      · rw [h4 i hi h]; rfl)]
  rfl
theorem rg_no {es : List Ev} {n k : Nat} (hn : n = es.length) (hk : k < n) (h : rgO es (evAt es k) = false) : rgB es = false := List.all_eq_false.2 ⟨evAt es k, evAt_mem (by omega), by simp [h]⟩
theorem rg_yes {es : List Ev} {n : Nat} (hn : n = es.length) (h : ∀ k, k < n → rgO es (evAt es k) = true) : rgB es = true := List.all_eq_true.2 (fun x hx => by
  obtain ⟨i, hi, e⟩ := List.mem_iff_getElem.1 hx
  have := h i (by omega)
  rwa [show evAt es i = x by unfold evAt; rw [← e]; simp [hi]] at this)
theorem isRange_at (e : Ev) (b : Bool) (hb : irB e = b) (w : World) : Calls Try.prog 36 #[.agg (evA e)] w fun o w' => o = .returned (.bool b) ∧ Kept [] w w' := by subst hb; exact isRange_any e w
theorem keysFit_at (e : Ev) (b : Bool) (hb : kfB e = b) (w : World) (hs : Sl w e.ka e.ks) (hl : e.ks.length ≤ 1000) : Calls Try.prog 37 #[.agg (evA e)] w fun o w' => o = .returned (.bool b) ∧ Kept [] w w' := by subst hb; exact keysFit_any e w hs hl
theorem leavesOut_at (e : Ev) (k : Int) (b : Bool) (hb : loB e k = b) (w : World) (hs : Sl w e.ka e.ks) (hl : e.ks.length ≤ 1000) (hk : kfB e = true) : Calls Try.prog 39 #[.agg (evA e), .int .u64 k] w fun o w' => o = .returned (.bool b) ∧ Kept [] w w' := by subst hb; exact leavesOut_any e k w hs hl hk
/-- The life of a key, asked of its slice. -/
theorem during_of {es : List Ev} {e : Ev} {w : World} {b base m : Nat} {D : DataW Value} {val : Int → Value} (h : Lvs w b base m D val (lfF es (ordOf es))) (k : Int) (hl : (ordOf es).length ≤ 1000) (r1 r2 : Bool) (h1 : (dk es e k).1 = r1) (h2 : (dk es e k).2 = r2) :
    Calls Try.prog 38 #[val k, .int .i64 e.bg, .int .i64 e.en] w fun o w' => o = .returned (.tuple #[.bool r1, .bool r2]) ∧ Kept [] w w' := by
  subst h1 h2
  obtain ⟨ao, cap, ev, S, _⟩ := (h.row k).shape chC_len
  rw [ev]
  have := lfF_len es (ordOf es) k
  exact (during_any ao (lfF es (ordOf es) k) _ cap e.bg e.en w rfl S (by omega)).mono fun _ _ h => h
/-- A key that the map has not has no life. -/
theorem Lvs.gone {w : World} {b base n : Nat} {D : DataW Value} {val : Int → Value} {L : Int → List Chg} (h : Lvs w b base n D val L) {k : Int} (hk : (Lit.int .u64 k).wf = true) (hn : Maps.has D (.int .u64 k) = false) : L k = [] := by
  have e := h.at_ k hk
  rw [Maps.atKey_of_not_has hn] at e
  have e2 : val k = .slice none 0 0 := by simpa using e.symm
  have r := h.row k
  rw [e2] at r
  obtain ⟨_, ⟨_, h0⟩ | ⟨g, cap, cur, hv, _⟩⟩ := r
  · exact List.eq_nil_of_length_eq_zero h0
  · cases hv
set_option maxHeartbeats 16000000 in
theorem ranges_any (ao : Option Addr) (es : List Ev) (n cap : Nat) (w : World) (hv : Evs w ao n es) (hl : n ≤ 1000) (hk : Ksl es) (hw : KWf es) :
    Calls Try.prog 21 #[.slice ao n cap] w fun o w' => o = .returned (.bool (rgB es)) ∧ Kept [] w w' := by
  have hc := lives_any ao es n cap w hv hl hw
  have HV : Hid (Evs w ao n es) := hv
  have HK : Hid (Ksl es) := hk
  have HW : Hid (KWf es) := hw
  have HO : Hid ((ordOf es).length ≤ 1000) := by have := ord_len es; have := hv.len; show _ ≤ _; omega
  have OUT : Hid (∀ k, k < n → rgO es (evAt es k) = false → rgB es = false) := fun k hk h => rg_no hv.len hk h
  have YES : Hid ((∀ k, k < n → rgO es (evAt es k) = true) → rgB es = true) := fun h => rg_yes hv.len h
  clear hv hk hw
  generalize rgB es = R at OUT YES ⊢
  go_enter Try.func21, Try.ntmps21
  go_wp2_with fail
  go_step3
  go_wp2_with fail
  refine hc.mono ?_
  rintro o w1 ⟨b, base, m, D, val, rfl, LV0, hm, hwb, K1⟩
  have LV : Hid (Lvs w1 b base m D val (lfF es (ordOf es))) := LV0
  clear hc LV0
  go_wp2_with fail
  go_step3
  go_wp2
  go_loopw [4, 19] (fun v4 i wr => ∃ k : Nat, k ≤ n ∧ i = .int .i64 k ∧ v4 = .bool true ∧ Hid (∀ j, j < k → rgO es (evAt es j) = true) ∧ Kept [] w1 wr) (fun _ i _ => n - (intOf i).toNat)
  case atStart => exact ⟨0, Nat.zero_le _, rfl, rfl, (fun j hj => absurd hj (by omega)), Kept.refl _ _⟩
  case round =>
    obtain ⟨k, hk, rfl, rfl, E, K⟩ := hrel
    by_cases hlt : k < n
    · obtain ⟨b1, o1, e1, lt1, r0⟩ := HV.out.at (K1.trans K) hlt
      have SX : Hid (Sl wr (evAt es k).ka (evAt es k).ks) := ((HV.out.new (K1.trans K)).key hlt)
      have LX : Hid ((evAt es k).ks.length ≤ 1000) := HK.out.at (i := k) (by rw [← HV.out.len]; exact hlt)
      have WX : Hid (∀ j, j < (evAt es k).ks.length → (Lit.int .u64 ((evAt es k).ks.getD j 0)).wf = true) := fun j hj => HW.out.ks _ (evAt_mem (by rw [← HV.out.len]; exact hlt)) _ (by simp [hj])
      have OU : Hid _ := OUT.out k hlt
      have ST : Hid (rgO es (evAt es k) = true → ∀ j, j < k + 1 → rgO es (evAt es j) = true) := fun h j hj => by
        by_cases q : j = k
        · rw [q]; exact h
        · exact E.out j (by omega)
      clear E
      generalize evAt es k = x at r0 SX LX WX OU ST
      rw [e1]
      have ZE := EB.new 53 wr x
      have KZ := (Kept.refl [] wr).alloc (.cells (evA x) 53)
      cases hb : irB x
      · have RO : Hid (rgO es x = true) := by show _ = _; unfold rgO; rw [hb]; rfl
        have hc := isRange_at x false hb
        clear hb
        go_wp2_with (first
          | ((with_reducible change wpList _ _ _ (Oper.mk _ (Op.load 53 (Operand.tmp 21)) _ _ _ _ :: _) _ _); refine wpList_load_g 53 isEv_hist rfl (.tmp 21) rfl b1 (o1 + k * 14) rfl x r0 ?_)
          | ((with_reducible change wpList _ _ _ (Oper.mk _ (Op.store 53 _ _) _ _ _ _ :: _) _ _); refine wpList_store_ev 53 isEv_hist rfl (.tmp 6) (.tmp 22) rfl _ rfl rfl x rfl ?_)
          | ((with_reducible change wpList _ _ _ (Oper.mk _ (Op.load 53 (Operand.tmp 6)) _ _ _ _ :: _) _ _); refine wpList_load_g 53 isEv_hist rfl (.tmp 6) rfl _ 0 rfl x ZE.range ?_)
          | (go_at_call 36; refine (hc _).mono ?_; rintro o w2 ⟨rfl, K2⟩))
        go_roundw
        case rel => exact ⟨k + 1, by omega, by go_num, rfl, ST.out RO.out, (K.trans KZ).trans K2⟩
        case measure => simp [intOf]; omega
      · have hc := isRange_at x true hb
        have HRO : Hid (rgO es x = (!x.dn || rgE es x)) := by show _ = _; unfold rgO; rw [hb]; simp
        clear hb
        go_upto_region 6 with (first | ((with_reducible change wpList _ _ _ (Oper.mk _ (Op.load 53 (Operand.tmp 21)) _ _ _ _ :: _) _ _); refine wpList_load_g 53 isEv_hist rfl (.tmp 21) rfl b1 (o1 + k * 14) rfl x r0 ?_) | ((with_reducible change wpList _ _ _ (Oper.mk _ (Op.store 53 _ _) _ _ _ _ :: _) _ _); refine wpList_store_ev 53 isEv_hist rfl (.tmp 6) (.tmp 22) rfl _ rfl rfl x rfl ?_))
        obtain ⟨B, hB⟩ : ∃ B, B = wr.heap.size := ⟨_, rfl⟩
        rw [← hB] at ZE
        rw [← hB]
        refine gen_world (fun W => EB 53 W B x ∧ Hid (Sl W x.ka x.ks) ∧ Kept [] w1 W) ⟨ZE, SX.out.new KZ, K.trans KZ⟩ ?_
        clear ZE SX KZ hB r0 K
        rintro W ⟨ZE, SX, K⟩
        have y9 := ZE.c9
        obtain ⟨dn, hdn⟩ : ∃ dn, x.dn = dn := ⟨_, rfl⟩
        rw [hdn] at y9 HRO
        clear hdn
        cases dn
        · have RO : Hid (rgO es x = true) := by show _ = _; rw [HRO.out]; rfl
          go_wp2_with (first
            | ((with_reducible change wpList _ _ _ (Oper.mk _ (Op.load 53 (Operand.tmp 6)) _ _ _ _ :: _) _ _); refine wpList_load_g 53 isEv_hist rfl (.tmp 6) rfl _ 0 rfl x ZE.range ?_)
            | (go_at_call 36; refine (hc _).mono ?_; rintro o w2 ⟨rfl, K2⟩; have y9' := same_at K2 y9; clear y9))
          go_roundw
          case rel => exact ⟨k + 1, by omega, by go_num, rfl, ST.out RO.out, K.trans K2⟩
          case measure => simp [intOf]; omega
        · have HRE : Hid (rgO es x = rgE es x) := by show _ = _; rw [HRO.out]; rfl
          clear HRO
          go_upto_region 7 with (first
            | ((with_reducible change wpList _ _ _ (Oper.mk _ (Op.load 53 (Operand.tmp 6)) _ _ _ _ :: _) _ _); refine wpList_load_g 53 isEv_hist rfl (.tmp 6) rfl _ 0 rfl x ZE.range ?_)
            | (go_at_call 36; refine (hc _).mono ?_; rintro o w2 ⟨rfl, K2⟩; have y9' := same_at K2 y9; clear y9))
          have ZE2 := ZE.kept K2 (by simp)
          have SX2 : Hid (Sl w2 x.ka x.ks) := SX.out.new K2
          have KC := K.trans K2
          clear ZE SX K K2 y9' hc
          have ZE := ZE2
          clear ZE2
          have y6 := ZE.c6
          have y8 := ZE.c8
          by_cases q1 : x.en < x.bg
          · have RF_ : Hid (R = false) := OU.out (by rw [HRE.out]; exact rgE_lt q1)
            have KK := K1.trans KC
            go_wp2
            try rw [Exit.noGoto_ret]
            go_ret
            exact ⟨by rw [RF_.out]; rfl, KK⟩
          · have Q1 : Hid (¬ x.en < x.bg) := q1
            cases hkf : kfB x
            · have RF_ : Hid (R = false) := OU.out (by rw [HRE.out]; exact rgE_kf hkf)
              have hf := keysFit_at x false hkf w2 SX2.out LX.out
              clear hkf
              go_wp2_with (first
                | ((with_reducible change wpList _ _ _ (Oper.mk _ (Op.load 53 (Operand.tmp 6)) _ _ _ _ :: _) _ _); refine wpList_load_g 53 isEv_hist rfl (.tmp 6) rfl _ 0 rfl x ZE.range ?_)
                | (go_at_call 37; refine hf.mono ?_; rintro o w3 ⟨rfl, K3⟩))
              try rw [Exit.noGoto_ret]
              go_ret
              exact ⟨by rw [RF_.out]; rfl, (K1.trans KC).trans K3⟩
            · have HKF : Hid (kfB x = true) := hkf
              have hf := keysFit_at x true hkf w2 SX2.out LX.out
              clear hkf
              go_wp2_with (first
                | ((with_reducible change wpList _ _ _ (Oper.mk _ (Op.load 53 (Operand.tmp 6)) _ _ _ _ :: _) _ _); refine wpList_load_g 53 isEv_hist rfl (.tmp 6) rfl _ 0 rfl x ZE.range ?_)
                | (go_at_call 37; refine hf.mono ?_; rintro o w3 ⟨rfl, K3⟩; have y13 := (ZE.kept K3 (by simp)).c13))
              have ZE3 := ZE.kept K3 (by simp)
              have SX3 : Hid (Sl w3 x.ka x.ks) := SX2.out.new K3
              have KD := KC.trans K3
              have LV3 : Hid (Lvs w3 b base m D val (lfF es (ordOf es))) := LV.out.new KD
              clear hf K3 KC ZE SX2 y6 y8 y13
              obtain ⟨len, hlen⟩ : ∃ len, len = x.ks.length := ⟨_, rfl⟩
              have HLN : Hid _ := hlen
              rw [← hlen]
              clear hlen
              have hll : len ≤ 1000 := by have := HLN.out; have := LX.out; omega
              go_loopw [4, 45] (fun v4 i wr => ∃ j : Nat, j ≤ len ∧ i = .int .i64 j ∧ v4 = .bool true ∧ Hid (∀ a, a < j → (dk es x (x.ks.getD a 0)).1 = true) ∧ Kept [] w3 wr) (fun _ i _ => len - (intOf i).toNat)
              case atStart => exact ⟨0, Nat.zero_le _, rfl, rfl, (fun j hj => absurd hj (by omega)), Kept.refl _ _⟩
              case round =>
                obtain ⟨j, hj, rfl, rfl, E, K4⟩ := hrel
                have ZE4 := ZE3.kept K4 (by simp)
                have y6 := ZE4.c6
                have y8 := ZE4.c8
                by_cases hjl : j < len
                · obtain ⟨b2, o2, e2, _, c2⟩ := (SX3.out.new K4).cell (i := j) (by have := HLN.out; omega)
                  have WFj := WX.out j (by have := HLN.out; omega)
                  have LVj : Hid (Lvs wr b base m D val (lfF es (ordOf es))) := LV3.out.new K4
                  have OS_ : Hid ((dk es x (x.ks.getD j 0)).1 = false → R = false) := fun h => OU.out (by rw [HRE.out]; exact rgE_some (by have := HLN.out; omega) h)
                  have ST2 : Hid ((dk es x (x.ks.getD j 0)).1 = true → ∀ a, a < j + 1 → (dk es x (x.ks.getD a 0)).1 = true) := fun h a ha => by
                    by_cases q : a = j
                    · rw [q]; exact h
                    · exact E.out a (by omega)
                  clear E
                  generalize x.ks.getD j 0 = kx at c2 WFj OS_ ST2
                  have LKj := LVj.out.look WFj
                  rw [e2]
                  cases hd1 : (dk es x kx).1
                  · have RF_ : Hid (R = false) := OS_.out hd1
                    have hdu := during_of (e := x) LVj.out kx HO.out false _ hd1 rfl
                    generalize (dk es x kx).2 = d2 at hdu
                    clear hd1 OS_ ST2 WFj
                    have KK := K1.trans KD
                    go_wp2_with (first
                      | (go_at_call 38; refine hdu.mono ?_; rintro o w5 ⟨rfl, K5⟩))
                    try rw [Exit.noGoto_ret]
                    go_ret
                    exact ⟨by rw [RF_.out]; rfl, (KK.trans K4).trans K5⟩
                  · have hdu := during_of (e := x) LVj.out kx HO.out true _ hd1 rfl
                    have ST3 : Hid _ := ST2.out hd1
                    generalize (dk es x kx).2 = d2 at hdu
                    clear hd1 OS_ ST2 WFj
                    go_wp2_with (first
                      | (go_at_call 38; refine hdu.mono ?_; rintro o w5 ⟨rfl, K5⟩))
                    go_roundw
                    case rel => exact ⟨j + 1, by omega, by go_num, rfl, ST3, K4.trans K5⟩
                    case measure => simp [intOf]; omega
                · have ES : Hid (∀ a, a < x.ks.length → (dk es x (x.ks.getD a 0)).1 = true) := fun a ha => E.out a (by have := HLN.out; omega)
                  have LV4 := LV3.out.new K4
                  have own4 := LV4.own
                  have HLV : Hid _ := LV4
                  clear E LV4
                  go_wp2_with (first
                    | (at_range; refine wpList_range_own wr rfl (.tmp 63) 68 rfl 41 72 key_u64 Try.underlying68 rawR b m D rfl own4 ?_; intro w6 hrg0 hg0 hs0)
                    | go_in)
                  go_frame
                  obtain ⟨r, hr⟩ : ∃ r, r = wr.heap.size := ⟨_, rfl⟩
                  have HR3 : Hid (w3.heap.size ≤ r ∧ r ≠ b) := ⟨by rw [hr]; exact K4.size, by rw [hr]; have := own4.lt; omega⟩
                  have K6 : Kept [] w3 w6 := K4.trans ⟨hg0.os, hg0.tape, hg0.output, hg0.size, fun i hi _ => hg0.block i hi (by simp)⟩
                  have RG0 : Hid (w6.ranges Try.prog 41 rawR b r m D (Maps.has D) (Maps.size D)) := by rw [hr]; exact hrg0
                  rw [← hr]
                  clear hr hrg0 hg0 hs0 own4 ZE4 y6 y8 K4
                  go_loopw [4] (fun v4 wq => ∃ (left : Lit → Bool) (cnt : Nat), v4 = .bool true ∧ Hid (wq.ranges Try.prog 41 rawR b r m D left cnt) ∧ Hid (∀ kx : Int, (Lit.int .u64 kx).wf = true → Maps.has D (.int .u64 kx) = true → left (.int .u64 kx) = false → (dk es x kx).2 = true → loB x kx = false) ∧ Kept [] w3 wq) (fun _ wq => wq.rangeLeft b r)
                  case atStart => exact ⟨_, _, rfl, RG0, (fun kx _ h1 h2 => by rw [h1] at h2; cases h2), K6⟩
                  case round =>
                    clear RG0 K6
                    obtain ⟨left, cnt, rfl, RG, C, K5⟩ := hrel
                    go_wp2_with (first
                      | (at_next; refine wpList_next_ranges wr rfl (.tmp 64) rfl 41 key_u64 rawR (Value.int .u64) (fun v : Value => v) (fun key kl h => by obtain ⟨x, rfl, _⟩ := Maps.keyOf_int_inv Try.underlying41 h; exact ⟨x, rfl⟩) (fun v _ _ => ⟨v, rfl⟩) b r m D left cnt rfl RG.out ?_ ?_)
                      | go_in)
                    · intro _ hl0
                      have RO : Hid (rgO es x = true) := by
                        show _ = _
                        rw [HRE.out]
                        refine rgE_yes (by have := Q1.out; omega) HKF.out ES.out (fun i hi h2 => ?_)
                        have wfi := HW.out.op _ (evAt_mem (ord_lt hi))
                        cases hh : Maps.has D (.int .u64 (evAt es i).op.k)
                        · have := HLV.out.gone wfi hh
                          unfold dk at h2
                          rw [this] at h2; cases h2
                        · exact C.out _ wfi hh (hl0 _) h2
                      clear hl0
                      go_wp2
                      exact ⟨⟨k + 1, by omega, by go_num, rfl, ST.out RO.out, KD.trans K5⟩, by simp [intOf]; omega⟩
                    · intro kx c kl y1 y2 w7 cnt' hkey hlk hv hat hrg hltc hgr hsz hen
                      obtain ⟨kx', ek, hkl, wfk⟩ := Maps.keyOf_int_inv Try.underlying41 hkey
                      cases ek
                      subst hkl
                      have hy : y1 = .held c := by unfold rawR at hv; simp at hv; exact hv.1.symm
                      have hcv : c = val kx := by
                        have q := HLV.out.at_ kx wfk
                        rw [hat, hy] at q
                        simpa using q
                      subst hcv
                      have K7 : Kept [] w3 w7 := K5.then (m := [r]) ⟨hgr.os, hgr.tape, hgr.output, hgr.size, fun i hi hn => hgr.block i hi (fun e => hn (by cases e; simp))⟩ (by intro z hz; right; simp at hz; have := HR3.out.1; omega)
                      have LV7 : Hid (Lvs w7 b base m D val (lfF es (ordOf es))) := LV3.out.new K7
                      have ZE7 := ZE3.kept K7 (by simp)
                      have SX7 : Hid (Sl w7 x.ka x.ks) := SX3.out.new K7
                      have y6 := ZE7.c6
                      have y8 := ZE7.c8
                      have HRG : Hid (w7.ranges Try.prog 41 rawR b r m D (fun z => left z && !z.sameKey (.int .u64 kx)) cnt') := hrg
                      have MS : Hid (∀ wq : World, wq.ranges Try.prog 41 rawR b r m D (fun z => left z && !z.sameKey (.int .u64 kx)) cnt' → wq.rangeLeft b r < wr.rangeLeft b r) := fun wq h => by rw [h.left_eq, RG.out.left_eq]; exact hltc
                      have C2 : Hid (((dk es x kx).2 = true → loB x kx = false) → ∀ kz : Int, (Lit.int .u64 kz).wf = true → Maps.has D (.int .u64 kz) = true → (left (.int .u64 kz) && !(Lit.int .u64 kz).sameKey (.int .u64 kx)) = false → (dk es x kz).2 = true → loB x kz = false) := fun h kz h1 h2 h3 h4 => by
                        by_cases e : kz = kx
                        · subst e; exact h h4
                        · refine C.out kz h1 h2 ?_ h4
                          rw [Maps.sameKey_ne (by simp [e])] at h3
                          simpa using h3
                      clear hkey hlk hv hat hrg hltc hgr hsz hy C RG
                      obtain ⟨d1, hd1⟩ : ∃ d1, (dk es x kx).1 = d1 := ⟨_, rfl⟩
                      cases hd2 : (dk es x kx).2
                      · have hdu := during_of (e := x) LV7.out kx HO.out d1 false hd1 hd2
                        have C3 : Hid _ := C2.out (fun h => by rw [hd2] at h; cases h)
                        clear hd1 hd2 C2
                        go_wp2_with (first
                          | (go_at_call 38; refine hdu.mono ?_; rintro o w8 ⟨rfl, K8⟩)
                          | go_in)
                        have RG8 := HRG.out.kept (Kept.gb K8 none) (by simp) (by simp)
                        exact ⟨⟨_, cnt', rfl, RG8, C3, K7.trans K8⟩, MS.out _ RG8⟩
                      · have hdu := during_of (e := x) LV7.out kx HO.out d1 true hd1 hd2
                        cases hlo : loB x kx
                        · have hlv := fun w8 s => leavesOut_at x kx false hlo w8 s LX.out HKF.out
                          have C3 : Hid _ := C2.out (fun _ => hlo)
                          clear hd1 hd2 C2 hlo
                          go_wp2_with (first
                            | ((with_reducible change wpList _ _ _ (Oper.mk _ (Op.load 53 (Operand.tmp 6)) _ _ _ _ :: _) _ _); refine wpList_load_g 53 isEv_hist rfl (.tmp 6) rfl _ 0 rfl x ZE8.range ?_)
                            | (go_at_call 38; refine hdu.mono ?_; rintro o w8 ⟨rfl, K8⟩; have ZE8 := ZE7.kept K8 (by simp))
                            | (go_at_call 39; refine (hlv _ (SX7.out.new K8)).mono ?_; rintro o w9 ⟨rfl, K9⟩)
                            | go_in)
                          have RG9 := (HRG.out.kept (Kept.gb K8 none) (by simp) (by simp)).kept (Kept.gb K9 none) (by simp) (by simp)
                          exact ⟨⟨_, cnt', rfl, RG9, C3, (K7.trans K8).trans K9⟩, MS.out _ RG9⟩
                        · have hlv := fun w8 s => leavesOut_at x kx true hlo w8 s LX.out HKF.out
                          have RF_ : Hid (R = false) := OU.out (by rw [HRE.out]; exact rgE_each hd2 hlo)
                          clear hd1 hd2 C2 hlo
                          go_wp2_with (first
                            | ((with_reducible change wpList _ _ _ (Oper.mk _ (Op.load 53 (Operand.tmp 6)) _ _ _ _ :: _) _ _); refine wpList_load_g 53 isEv_hist rfl (.tmp 6) rfl _ 0 rfl x ZE8.range ?_)
                            | (go_at_call 38; refine hdu.mono ?_; rintro o w8 ⟨rfl, K8⟩; have ZE8 := ZE7.kept K8 (by simp))
                            | (go_at_call 39; refine (hlv _ (SX7.out.new K8)).mono ?_; rintro o w9 ⟨rfl, K9⟩)
                            | go_in)
                          try rw [Exit.noGoto_ret]
                          go_ret
                          exact ⟨by rw [RF_.out]; rfl, (((K1.trans KD).trans K7).trans K8).trans K9⟩
    · have RR : Hid (R = true) := YES.out (fun j hj => E.out j (by omega))
      clear E
      go_wp2
      try rw [Exit.noGoto_ret]
      go_ret
      exact ⟨by rw [RR.out]; rfl, K1.trans K⟩
end Go.Proofs.Ytlmkcakmeldfeaa.Q
