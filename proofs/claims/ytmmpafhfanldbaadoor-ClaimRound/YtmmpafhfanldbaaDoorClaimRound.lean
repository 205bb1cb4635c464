/-
  In a new world, claims one behind the other, each from where the last one says, get all slots once, in order, and then none.
  Conditions: the package variable of handle that the code reads starts as the program's text lays it (the card ties it to that text).
-/
import Derived.Test.YtmmpafhfanldbaaDoorKMeta
import Derived.Test.YtmmpafhfanldbaaDoorHLaid
import Derived.Test.YtmmpafhfanldbaaDoorPArgs
import Derived.ProofKit
import Derived.SizedLaws
import Derived.Carry
namespace Go.Proofs.YtmmpafhfanldbaaDoor
open Go.ChangeShapes Go.WideShapes Go.ChangeAt Go.RowKit
open Go.Deep
open Go.Proofs.YtmmpafhfanldbaaDoor.K
set_option maxRecDepth 100000

theorem fc_wds {c : Cfg} (h : riB c = true) : Wds (fcV c) := by
  have R := riB_true.1 h
  have z : Wds (List.replicate (lnN c) 0) := fun x hx => by have := List.eq_of_mem_replicate hx; omega
  unfold fcV
  exact ((z.set _ (by omega)).set _ (by omega)).set _ (by have := R.h0; have := R.h1; omega)
theorem fc_len (c : Cfg) : ((fcV c).length : Int) = lnV c := by rw [fcV_len]; exact lnN_eq c
theorem fc_wd {c : Cfg} (h : riB c = true) {i : Int} (h0 : 1 ≤ i) (h1 : i ≤ c.c) : wdK c (fcV c) i = 0 := by
  have R := riB_true.1 h
  have hts := ts_bd R
  rw [wd_mp h (fc_len c) (by omega) h1]
  obtain ⟨a, b, d⟩ := mp_eq h (by omega : 0 ≤ i) h1
  have hm : mp c i < lnN c := by have := lnN_eq c; omega
  have hi : 6 + c.h ≤ i * (6 + c.h) := by
    have := Int.mul_le_mul_of_nonneg_right h0 (by have := R.h0; omega : 0 ≤ 6 + c.h); omega
  have e0 : clV' c 0 0 = 1 + c.t * c.s + 0 * (6 + c.h) + 0 := if_pos ⟨h, by omega, by omega, by omega, by have := R.h0; omega⟩
  have e4 : clV' c 0 4 = 1 + c.t * c.s + 0 * (6 + c.h) + 4 := if_pos ⟨h, by omega, by omega, by omega, by have := R.h0; omega⟩
  have := R.h0
  unfold fcV
  rw [getD_set _ _ _ _ (by simp; exact hm), if_neg (by omega), getD_set _ _ _ _ (by simp; exact hm), if_neg (by omega), getD_set _ _ _ _ (by simp; exact hm), if_neg (by omega)]
  simp [List.getD_eq_getElem?_getD, hm]
/-- How far a slot lies behind the first one, going round. -/
def ds (c : Cfg) (f i : Int) : Int := (i - f) % c.c
theorem ds_next {c : Cfg} (h : 1 ≤ c.c) (f : Int) {i : Int} (h0 : 1 ≤ i) (h1 : i ≤ c.c) : ds c f (bhI c i) = if ds c f i + 1 = c.c then 0 else ds c f i + 1 := by
  unfold ds
  have e : (bhI c i - f) % c.c = (i - f + 1) % c.c := by
    unfold bhI; split
    · have : i = c.c := by omega
      subst this
      rw [show c.c - f + 1 = (1 - f) + c.c by omega, Int.add_emod_right]
    · congr 1; omega
  rw [e, mod_next _ _ h]
theorem ds_inj {c : Cfg} (h : 1 ≤ c.c) {f i j : Int} (h0 : 1 ≤ i) (h1 : i ≤ c.c) (h2 : 1 ≤ j) (h3 : j ≤ c.c) (e : ds c f i = ds c f j) : i = j := by
  unfold ds at e
  have a := Int.emod_add_mul_ediv (i - f) c.c
  have b := Int.emod_add_mul_ediv (j - f) c.c
  rw [e] at a
  have d : i - j = c.c * ((i - f) / c.c - (j - f) / c.c) := by rw [Int.mul_sub]; omega
  generalize (i - f) / c.c - (j - f) / c.c = u at d
  rcases (by omega : u = 0 ∨ 1 ≤ u ∨ u ≤ -1) with q | q | q
  · rw [q] at d; omega
  · have := Int.mul_le_mul_of_nonneg_left q (by omega : 0 ≤ c.c); omega
  · have := Int.mul_le_mul_of_nonneg_left q (by omega : 0 ≤ c.c); omega
/-- So many slots are taken, from that one on; the others are as they were. -/
structure RI (c : Cfg) (cs : List Int) (f : Int) (k : Int) : Prop where
  wd : Wds cs
  len : (cs.length : Int) = lnV c
  it : ∀ i, 1 ≤ i → i ≤ c.c → wdK c cs i = if ds c f i < k then 1 else 0
theorem rnd_look {c : Cfg} {cs : List Int} {fr W : Int} (hw : bgI c fr = W) (h : wdK c cs W = 0) : stK c cs ⟨0, fr, 0, 0, 0, 0, fr⟩ = ⟨2, fr, W, c.c, 0, 0, fr⟩ := by
  show lookK c cs ⟨0, fr, bgI c fr, c.c, 0, 0, fr⟩ = _
  rw [hw]
  unfold lookK
  show (if S.stV (wdK c cs W) = 0 then (⟨2, fr, W, c.c, wdK c cs W, 0, fr⟩ : Ks) else _) = _
  rw [h]; exact if_pos rfl
theorem rnd_take {c : Cfg} {cs : List Int} {fr W : Int} (hr : riB c = true) (hl : (cs.length : Int) = lnV c) (h0 : 1 ≤ W) (h1 : W ≤ c.c) (h : wdK c cs W = 0) : stK c cs ⟨2, fr, W, c.c, 0, 0, fr⟩ = ⟨3, fr, W, c.c, 0, packV W 0 false, bhI c W⟩ := by
  show takeK c cs ⟨2, fr, W, c.c, 0, 0, fr⟩ = _
  unfold takeK
  rw [if_pos ((tk_d (s := ⟨2, fr, W, c.c, 0, 0, fr⟩) hr hl (by show 0 ≤ W; omega) h1).2 h)]
  rfl
theorem rnd_next {c : Cfg} {cs : List Int} {fr f W k : Int} (hr : riB c = true) (h : RI c cs f k) (h0 : 1 ≤ W) (h1 : W ≤ c.c) (hd : ds c f W = k) : RI c (stC c cs ⟨2, fr, W, c.c, 0, 0, fr⟩) f (k + 1) := by
  have hc : 1 ≤ c.c := by omega
  have ki : KI c ⟨2, fr, W, c.c, 0, 0, fr⟩ := ⟨fun _ _ => ⟨h0, h1, hc, Int.le_refl _⟩, by show (0 : Int) ≤ 0 ∧ (0 : Int) < 18446744073709551616; decide⟩
  refine ⟨stC_wd h.wd ki, by rw [stC_len]; exact h.len, fun i i0 i1 => ?_⟩
  rw [wd_step hr h.len ki (by omega) i1, h.it i i0 i1]
  by_cases q : i = W
  · subst q
    have e0 : (if ds c f i < k then (1 : Int) else 0) = 0 := by rw [hd]; exact if_neg (by omega)
    rw [e0, if_pos ⟨rfl, rfl, rfl⟩, hd, if_pos (by omega)]; rfl
  · rw [if_neg (fun x => q x.2.1)]
    have : ¬ ds c f i = k := fun e => q (ds_inj hc i0 i1 h0 h1 (e.trans hd.symm))
    split
    · rw [if_pos (by omega)]
    · rw [if_neg (by omega)]
theorem ds_bd {c : Cfg} (h : 1 ≤ c.c) (f i : Int) : 0 ≤ ds c f i ∧ ds c f i < c.c := ⟨Int.emod_nonneg _ (by omega), Int.emod_lt_of_pos _ (by omega)⟩
theorem all_taken {c : Cfg} {cs : List Int} {f : Int} (hc : 1 ≤ c.c) (h : RI c cs f c.c) {i : Int} (h0 : 1 ≤ i) (h1 : i ≤ c.c) : S.stV (wdK c cs i) = 1 := by
  rw [h.it i h0 h1, if_pos (ds_bd hc f i).2]; rfl
/-- A claim that looks at slots that are all taken. -/
structure LI (c : Cfg) (nf : Int) (j : Int) (s : Ks) : Prop where
  ki : KI c s
  gt : s.gt = 0
  nx : s.nx = nf
  fr : s.fr = nf
  p0 : j = 0 → s.ph = 0
  p1 : 0 < j → j < c.c → s.ph = 1 ∧ s.lf = c.c - j
  p3 : 0 < j → j = c.c → s.ph = 3
theorem LI.start (c : Cfg) (nf : Int) : LI c nf 0 ⟨0, nf, 0, 0, 0, 0, nf⟩ := ⟨KI.start c nf, rfl, rfl, rfl, fun _ => rfl, fun h => by omega, fun h => by omega⟩
theorem look_taken {c : Cfg} {cs : List Int} {s : Ks} (h : S.stV (wdK c cs s.ix) = 1) : lookK c cs s = passK c ⟨1, s.fr, s.ix, s.lf, wdK c cs s.ix, s.gt, s.nx⟩ := by
  unfold lookK; rw [if_neg (by rw [h]; decide)]
theorem LI.step {c : Cfg} {cs : List Int} {f nf j : Int} {s : Ks} (hc : 1 ≤ c.c) (hR : RI c cs f c.c) (h : LI c nf j s) (j0 : 0 ≤ j) (j1 : j < c.c) : LI c nf (j + 1) (stK c cs s) ∧ stC c cs s = cs := by
  have hk := stK_ki (cs := cs) hR.wd hc h.ki
  by_cases q : j = 0
  · have e : s.ph = 0 := h.p0 q
    have e2 : stK c cs s = passK c ⟨1, s.fr, bgI c s.fr, c.c, wdK c cs (bgI c s.fr), s.gt, s.nx⟩ := by
      unfold stK; rw [if_pos e]
      have bb := bgI_bd (c := c) s.fr hc
      exact look_taken (s := ⟨0, s.fr, bgI c s.fr, c.c, s.lk, s.gt, s.nx⟩) (all_taken hc hR bb.1 bb.2)
    refine ⟨⟨hk, ?_, ?_, ?_, fun x => by omega, fun _ y => ?_, fun _ y => ?_⟩, by unfold stC; rw [if_neg (by omega)]⟩
    · rw [e2, (pass_gt _ _).1]; exact h.gt
    · rw [e2]; unfold passK; split <;> exact h.nx
    · rw [e2]; unfold passK; split <;> exact h.fr
    · rw [e2]; unfold passK; rw [if_neg (by show ¬ c.c = 1; omega)]; exact ⟨rfl, by show c.c - 1 = c.c - (j + 1); omega⟩
    · rw [e2]; unfold passK; rw [if_pos (by show c.c = 1; omega)]
  · obtain ⟨e, el⟩ := h.p1 (by omega) j1
    obtain ⟨a, b, d, g⟩ := h.ki.pos (by omega) (by omega)
    have e2 : stK c cs s = passK c ⟨1, s.fr, s.ix, s.lf, wdK c cs s.ix, s.gt, s.nx⟩ := by
      unfold stK; rw [if_neg (by omega), if_pos e]
      exact look_taken (all_taken hc hR a b)
    refine ⟨⟨hk, ?_, ?_, ?_, fun x => by omega, fun _ y => ?_, fun _ y => ?_⟩, by unfold stC; rw [if_neg (by omega)]⟩
    · rw [e2, (pass_gt _ _).1]; exact h.gt
    · rw [e2]; unfold passK; split <;> exact h.nx
    · rw [e2]; unfold passK; split <;> exact h.fr
    · rw [e2]; unfold passK; rw [if_neg (by show ¬ s.lf = 1; omega)]; exact ⟨rfl, by show s.lf - 1 = c.c - (j + 1); omega⟩
    · rw [e2]; unfold passK; rw [if_pos (by show s.lf = 1; omega)]
theorem bh_mod {c : Cfg} {W : Int} (h0 : 1 ≤ W) (h1 : W ≤ c.c) : bhI c W = W % c.c + 1 := by
  unfold bhI; split
  · rw [show W = c.c by omega, Int.emod_self]; omega
  · rw [Int.emod_eq_of_lt (by omega) (by omega)]
theorem bg_in {c : Cfg} {W : Int} (h0 : 1 ≤ W) (h1 : W ≤ c.c) : bgI c W = W := by unfold bgI; rw [if_neg (by omega)]
set_option maxRecDepth 100000 in
set_option maxHeartbeats 8000000 in
theorem claimRound_walk (w : World) (c : Cfg) (_g : c.wf) (fr : Int) (_hw : (Lit.int .i64 fr).wf = true) (hT : Tab w) :
    Calls Tryd.prog 8 #[c.val, .int .i64 fr] w fun e w' => e = .returned (.bool true) ∧ Kept [] w w' := by
  simp only [Cfg.val]
  have HT := hidOf hT
  clear hT
  obtain ⟨q, hq⟩ : ∃ q, q = w.heap.size := ⟨_, rfl⟩
  have BX : Hid (RW 23 (w.alloc (.cells #[.int .i64 c.t, .int .i64 c.s, .int .i64 c.c, .int .i64 c.h, .int .i64 c.k, .int .i64 c.e, .int .i64 c.l] 23)) q #[.int .i64 c.t, .int .i64 c.s, .int .i64 c.c, .int .i64 c.h, .int .i64 c.k, .int .i64 c.e, .int .i64 c.l] ∧ Kept [] w (w.alloc (.cells #[.int .i64 c.t, .int .i64 c.s, .int .i64 c.c, .int .i64 c.h, .int .i64 c.k, .int .i64 c.e, .int .i64 c.l] 23))) := by rw [hq]; exact ⟨RW.new _ _ _, (Kept.refl [] w).alloc _⟩
  by_cases hri : riB c = true
  · have RT := riB_true.1 hri
    have n0 := RT.c0
    have n64 := RT.c1
    clear RT
    by_cases hf1 : fr < 1
    · have HBG : Hid (bgI c fr = 1) := if_pos (Or.inl hf1)
      go_enter Tryd.func8, Tryd.ntmps8
      go_upto_region 1 with (fail)
      rw [← hq]
      refine gen_world (fun W => RW 23 W q #[.int .i64 c.t, .int .i64 c.s, .int .i64 c.c, .int .i64 c.h, .int .i64 c.k, .int .i64 c.e, .int .i64 c.l] ∧ Kept [] w W) BX.out ?_
      have hqw : w.heap.size ≤ q := by omega
      clear BX hq
      rintro W ⟨CB, K0⟩
      have szb := CB.lt
      have OF := hidOf (mnew_yes c W (HT.out.kept K0) hri)
      go_wp2_with (first | ((with_reducible change wpList _ _ _ (Oper.mk _ (Op.load 23 _) _ _ _ _ :: _) _ _); refine wpList_load_rw 23 isT_cf rfl (.tmp 2) rfl q rfl #[.int .i64 c.t, .int .i64 c.s, .int .i64 c.c, .int .i64 c.h, .int .i64 c.k, .int .i64 c.e, .int .i64 c.l] rfl CB ?_))
      refine OF.out.mono ?_
      rintro e w1 ⟨m, p, r, rfl, ⟨hm, hp, hr⟩, M, K1⟩
      have CB1 := CB.kept K1 (by simp)
      have K2 := K0.trans K1
      have sz0 := K0.size
      clear OF CB
      obtain ⟨F0, hF0⟩ : ∃ F0, bgI c fr = F0 := ⟨_, rfl⟩
      have fb := bgI_bd (c := c) fr n0
      rw [hF0] at fb
      have q2 := cell_of_blk CB1 (i := 2) (v := .int .i64 c.c) rfl
      have F1 : Hid (RI c (fcV c) F0 0) := ⟨fc_wds hri, fc_len c, fun i i0 i1 => by rw [fc_wd hri i0 i1, if_neg (by have := (ds_bd n0 F0 i).1; omega)]⟩
      have HMM := hidOf (And.intro M (And.intro CB1 K2))
      clear M CB1 K2
      have hFe : Hid (F0 = 1) := hF0.symm.trans HBG.out
      go_wp2
      go_loopw [1, 7, 33] (fun v1 v7 i wr => ∃ (j : Nat) (f1 Wn : Int) (cs : List Int) (cnt : Int) (x : Acc), (j : Int) ≤ c.c ∧ v1 = .int .i64 f1 ∧ v7 = .int .i64 Wn ∧ i = .int .i64 j ∧ 0 ≤ cnt ∧ cnt ≤ 2 * j ∧ (Mm wr m p r c cs cnt x ∧ RW 23 wr q #[.int .i64 c.t, .int .i64 c.s, .int .i64 c.c, .int .i64 c.h, .int .i64 c.k, .int .i64 c.e, .int .i64 c.l] ∧ Kept [] w wr ∧ Hid (RI c cs F0 j ∧ bgI c f1 = Wn ∧ (1 ≤ Wn ∧ Wn ≤ c.c) ∧ ((j : Int) < c.c → ds c F0 Wn = j)))) (fun _ _ i _ => (c.c - intOf i).toNat)
      case atStart => exact ⟨0, fr, _, fcV c, 0, Acc.zero, by omega, rfl, rfl, rfl, Int.le_refl _, Int.le_refl _, HMM.out.1, HMM.out.2.1, HMM.out.2.2, ⟨F1.out, by first | exact hF0 | (rw [HBG.out]), by first | exact fb | omega, fun _ => by unfold ds; first | (rw [hFe.out]; simp) | simp⟩⟩
      case round =>
        clear F1 HMM
        obtain ⟨j, f1, Wn, cs, cnt, x, hj, rfl, rfl, rfl, c0, c1, M, CB, K, HR⟩ := hrel
        have HM := hidOf M
        clear M
        by_cases hlt : (j : Int) < c.c
        · have wb := HR.out.2.2.1
          have dd := HR.out.2.2.2 hlt
          have hz : wdK c cs Wn = 0 := by rw [HR.out.1.it Wn wb.1 wb.2, dd, if_neg (by omega)]
          have EL := hidOf (rnd_look HR.out.2.1 hz)
          have ET := hidOf (rnd_take (fr := f1) hri HR.out.1.len wb.1 wb.2 hz)
          have RN := hidOf (rnd_next (fr := f1) hri HR.out.1 wb.1 wb.2 dd)
          have BM := hidOf (bh_mod wb.1 wb.2)
          have DN := hidOf (ds_next n0 F0 wb.1 wb.2)
          rw [dd] at DN
          have BB := hidOf (bhI_bd (c := c) n0 wb.1)
          clear dd hz
          go_wp2_with fail
          refine (knew_any f1 _).mono ?_
          rintro e w3 ⟨a, rfl, ha, A, K3⟩
          have aw : w.heap.size ≤ a := by have := K.size; omega
          have cbl := CB.lt
          have aq : ¬ q = a := by omega
          replace HM := hidOf (HM.out.new K3)
          have HA := hidOf A
          replace K := K.trans K3
          replace CB := CB.kept K3 (by simp)
          clear A K3
          have ST := hidOf (step_any a m p r c cs cnt _ ⟨0, f1, 0, 0, 0, 0, f1⟩ _ HA.out HM.out (HT.out.kept K) (KI.start c f1) HR.out.1.wd n0 n64 (by omega) (by omega))
          rw [EL.out, show stC c cs ⟨0, f1, 0, 0, 0, 0, f1⟩ = cs from rfl, show stN cnt ⟨0, f1, 0, 0, 0, 0, f1⟩ = cnt + 1 from rfl] at ST
          go_wp2_with fail
          refine ST.out.mono ?_
          rintro e w4 ⟨rfl, A9, M9, K9⟩
          obtain ⟨na1, na2, na3⟩ := A9.nm M9
          replace K := K.then K9 (by simp; omega)
          replace CB := CB.kept K9 (by simp; omega)
          clear ST HM HA K9
          have HM := hidOf M9
          have HA := hidOf A9
          clear M9 A9
          have ST := hidOf (step_any a m p r c cs (cnt + 1) _ ⟨2, f1, Wn, c.c, 0, 0, f1⟩ _ HA.out HM.out (HT.out.kept K) ⟨fun _ _ => ⟨wb.1, wb.2, n0, Int.le_refl _⟩, by show (0 : Int) ≤ 0 ∧ (0 : Int) < 18446744073709551616; decide⟩ HR.out.1.wd n0 n64 (by omega) (by omega))
          rw [ET.out, show stN (cnt + 1) ⟨2, f1, Wn, c.c, 0, 0, f1⟩ = cnt + 1 + 1 from rfl] at ST
          go_wp2_with fail
          refine ST.out.mono ?_
          rintro e w5 ⟨rfl, A9, M9, K9⟩
          obtain ⟨na1, na2, na3⟩ := A9.nm M9
          replace K := K.then K9 (by simp; omega)
          replace CB := CB.kept K9 (by simp; omega)
          clear ST HM HA K9
          have HM := hidOf M9
          have HA := hidOf A9
          clear M9 A9
          obtain ⟨P, hP⟩ : ∃ P, packV Wn 0 false = P := ⟨_, rfl⟩
          obtain ⟨NX, hNX⟩ : ∃ NX, bhI c Wn = NX := ⟨_, rfl⟩
          have pb := pack_bd Wn 0 (by omega) (by omega) (by decide) (by decide)
          have IX := hidOf (ix_pack Wn 0 (by omega) (by omega))
          rw [hP] at pb IX HA
          rw [hNX] at HA BM DN BB
          clear hP hNX EL ET
          have FN : Hid (∀ V, Kept [] w5.drew V → Mm V m p r c (stC c cs ⟨2, f1, Wn, c.c, 0, 0, f1⟩) (cnt + 1 + 1) (stA c cs (stA c cs x ⟨0, f1, 0, 0, 0, 0, f1⟩) ⟨2, f1, Wn, c.c, 0, 0, f1⟩) ∧ RW 23 V q #[.int .i64 c.t, .int .i64 c.s, .int .i64 c.c, .int .i64 c.h, .int .i64 c.k, .int .i64 c.e, .int .i64 c.l] ∧ Kept [] w V ∧ Hid (RI c (stC c cs ⟨2, f1, Wn, c.c, 0, 0, f1⟩) F0 ((j + 1 : Nat) : Int) ∧ bgI c NX = NX ∧ (1 ≤ NX ∧ NX ≤ c.c) ∧ ((((j + 1 : Nat) : Int) < c.c) → ds c F0 NX = ((j + 1 : Nat) : Int)))) := by
            intro V kv
            have k0 : Kept [] w5 V := (Kept.refl [] w5).drew.trans kv
            exact ⟨HM.out.new k0, CB.kept k0 (by simp), K.trans k0, ⟨RN.out, bg_in BB.out.1 BB.out.2, BB.out, fun hh => by rw [DN.out, if_neg (by omega)]; rfl⟩⟩
          have HDN : Hid (∀ W, Kept [] w5.drew W → Calls Tryd.prog 16 #[.pointer (some ⟨a, 0, none⟩)] W fun e w' => e = .returned (.bool true) ∧ Kept [] W w') := fun W kk => (kdone_any a _ W (HA.out.kept ((Kept.refl [] w5).drew.trans kk) (by simp))).mono fun e w' hh => ⟨hh.1, by rw [hh.2]; exact Kept.refl _ _⟩
          have HGT : Hid (∀ W, Kept [] w5.drew W → Calls Tryd.prog 17 #[.pointer (some ⟨a, 0, none⟩)] W fun e w' => e = .returned (.int .u64 P) ∧ Kept [] W w') := fun W kk => (kgot_any a _ W (HA.out.kept ((Kept.refl [] w5).drew.trans kk) (by simp))).mono fun e w' hh => ⟨hh.1, by rw [hh.2]; exact Kept.refl _ _⟩
          have HNX : Hid (∀ W, Kept [] w5.drew W → Calls Tryd.prog 18 #[.pointer (some ⟨a, 0, none⟩)] W fun e w' => e = .returned (.int .i64 NX) ∧ Kept [] W w') := fun W kk => (knext_any a _ W (HA.out.kept ((Kept.refl [] w5).drew.trans kk) (by simp))).mono fun e w' hh => ⟨hh.1, by rw [hh.2]; exact Kept.refl _ _⟩
          have HIX : Hid (∀ W, Kept [] w5.drew W → Calls Tryd.prog 29 #[.int .u64 P] W fun e w' => e = .returned (.int .i64 Wn) ∧ Kept [] W w') := fun W kk => IX.out ▸ index_any P W (HT.out.kept (K.trans ((Kept.refl [] w5).drew.trans kk))) (by omega) pb.2
          have HNW : Hid (IntKind.i64.wrap (Wn % c.c + 1) = NX) := by
            have m0 := Int.emod_nonneg Wn (by omega : c.c ≠ 0)
            have m1 := Int.emod_lt_of_pos Wn (by omega : 0 < c.c)
            show IntKind.i64.wrap (Wn % c.c + 1) = NX
            rw [IntKind.wrap_i64, BM.out]; omega
          have F5 : RW 23 w5.drew q #[.int .i64 c.t, .int .i64 c.s, .int .i64 c.c, .int .i64 c.h, .int .i64 c.k, .int .i64 c.e, .int .i64 c.l] := CB
          have md : ¬ c.c = 0 := by omega
          have wn0 : 0 ≤ Wn := by omega
          clear HA HM CB K RN BM DN IX
          go_upto_region 14 with (fail)
          refine wp_region_held_drew (S := fun w' => RW 23 w' q #[.int .i64 c.t, .int .i64 c.s, .int .i64 c.c, .int .i64 c.h, .int .i64 c.k, .int .i64 c.e, .int .i64 c.l]) (by kernel_rfl) F5 (fun hS => ?_)
          generalize w5.drew = V5 at F5 HDN HGT HNX HIX FN hS ⊢
          refine wpAnyH_take (i := 0) (oi := { dst := some 45, op := Op.move (Operand.tmp 8), type := 38, pos := "law.go:195", after := #[], guard := none }) (v := Value.pointer (some ⟨a, 0, none⟩)) rfl (by kernel_rfl) (by kernel_rfl) (by kernel_rfl) (fun _ _ _ h => h) (Or.inl ⟨rfl, fun _ _ => by kernel_rfl⟩) hS ?_
          try simp only [Act.put, List.setIfInBounds_toArray, List.set_cons_zero, List.set_cons_succ]
          refine wpAnyH_ready (rs := [1]) (by kernel_rfl) (by simp) ?_
          refine AllReadyH.cons (o := { dst := some 46, op := Op.call { callee := Callee.value (Operand.func 16), args := #[Operand.tmp 45], argTypes := #[38] }, type := 4, pos := "law.go:195", after := #[{ on := 0, ground := Ground.data }], guard := none }) rfl (fun K hK => ?_) AllReadyH.nil
          rw [if_pos (by rfl)]
          refine wp_calls 16 #[.pointer (some ⟨a, 0, none⟩)] (by kernel_rfl) (fun v U => v = .bool true ∧ Kept [] V5 U) ((HDN.out _ (Kept.refl [] V5)).mono (fun e w' hh => ⟨_, hh.1, rfl, hh.2⟩)) ?_
          rintro _ u1 ⟨rfl, J1⟩
          have j1 := (Kept.refl [] V5).trans J1
          have f1 := F5.kept J1 (by simp)
          try simp only [Act.put, List.setIfInBounds_toArray, List.set_cons_zero, List.set_cons_succ]
          refine hK.out _ _ (f1) (fun hS => ?_)
          clear hK K
          refine wpAnyH_take (i := 2) (oi := { dst := some 47, op := Op.unOp UnOp.not 4 (Operand.tmp 46), type := 4, pos := "law.go:195", after := #[{ on := 1, ground := Ground.data }], guard := none }) (v := Value.bool false) rfl (by kernel_rfl) (by kernel_rfl) (by kernel_rfl) (fun _ _ _ h => h) (Or.inl ⟨rfl, fun _ _ => by kernel_rfl⟩) hS ?_
          try simp only [Act.put, List.setIfInBounds_toArray, List.set_cons_zero, List.set_cons_succ]
          refine wpAnyH_take (i := 3) (oi := { dst := some 48, op := Op.move (Operand.tmp 47), type := 4, pos := "law.go:195", after := #[{ on := 2, ground := Ground.data }, { on := 1, ground := Ground.chain }], guard := none }) (v := Value.bool false) rfl (by kernel_rfl) (by kernel_rfl) (by kernel_rfl) (fun _ _ _ h => h) (Or.inl ⟨rfl, fun _ _ => by kernel_rfl⟩) hS ?_
          try simp only [Act.put, List.setIfInBounds_toArray, List.set_cons_zero, List.set_cons_succ]
          refine wpAnyH_take (i := 4) (oi := { dst := some 49, op := Op.move (Operand.tmp 8), type := 38, pos := "law.go:195", after := #[{ on := 3, ground := Ground.guard }], guard := some (3, false) }) (v := Value.pointer (some ⟨a, 0, none⟩)) rfl (by kernel_rfl) (by kernel_rfl) (by kernel_rfl) (fun _ _ _ h => h) (Or.inl ⟨rfl, fun _ _ => by kernel_rfl⟩) hS ?_
          try simp only [Act.put, List.setIfInBounds_toArray, List.set_cons_zero, List.set_cons_succ]
          refine wpAnyH_take (i := 7) (oi := { dst := some 52, op := Op.move (Operand.tmp 7), type := 3, pos := "law.go:195", after := #[{ on := 3, ground := Ground.guard }], guard := some (3, false) }) (v := Value.int .i64 Wn) rfl (by kernel_rfl) (by kernel_rfl) (by kernel_rfl) (fun _ _ _ h => h) (Or.inl ⟨rfl, fun _ _ => by kernel_rfl⟩) hS ?_
          try simp only [Act.put, List.setIfInBounds_toArray, List.set_cons_zero, List.set_cons_succ]
          refine wpAnyH_ready (rs := [5]) (by kernel_rfl) (by simp) ?_
          refine AllReadyH.cons (o := { dst := some 50, op := Op.call { callee := Callee.value (Operand.func 17), args := #[Operand.tmp 49], argTypes := #[38] }, type := 29, pos := "law.go:195", after := #[{ on := 4, ground := Ground.data }, { on := 3, ground := Ground.chain }, { on := 3, ground := Ground.guard }], guard := some (3, false) }) rfl (fun K hK => ?_) AllReadyH.nil
          rw [if_pos (by rfl)]
          refine wp_calls 17 #[.pointer (some ⟨a, 0, none⟩)] (by kernel_rfl) (fun v U => v = .int .u64 P ∧ Kept [] u1 U) ((HGT.out _ j1).mono (fun e w' hh => ⟨_, hh.1, rfl, hh.2⟩)) ?_
          rintro _ u5 ⟨rfl, J5⟩
          have j5 := j1.trans J5
          have f5 := f1.kept J5 (by simp)
          try simp only [Act.put, List.setIfInBounds_toArray, List.set_cons_zero, List.set_cons_succ]
          refine hK.out _ _ (f5) (fun hS => ?_)
          clear hK K
          refine wpAnyH_ready (rs := [6]) (by kernel_rfl) (by simp) ?_
          refine AllReadyH.cons (o := { dst := some 51, op := Op.call { callee := Callee.value (Operand.func 29), args := #[Operand.tmp 50], argTypes := #[29] }, type := 3, pos := "law.go:195", after := #[{ on := 5, ground := Ground.data }, { on := 5, ground := Ground.chain }, { on := 3, ground := Ground.guard }], guard := some (3, false) }) rfl (fun K hK => ?_) AllReadyH.nil
          rw [if_pos (by rfl)]
          refine wp_calls 29 #[.int .u64 P] (by kernel_rfl) (fun v U => v = .int .i64 Wn ∧ Kept [] u5 U) ((HIX.out _ j5).mono (fun e w' hh => ⟨_, hh.1, rfl, hh.2⟩)) ?_
          rintro _ u6 ⟨rfl, J6⟩
          have j6 := j5.trans J6
          have f6 := f5.kept J6 (by simp)
          try simp only [Act.put, List.setIfInBounds_toArray, List.set_cons_zero, List.set_cons_succ]
          refine hK.out _ _ (f6) (fun hS => ?_)
          clear hK K
          refine wpAnyH_take (i := 8) (oi := { dst := some 53, op := Op.binOp BinOp.neq 3 (Operand.tmp 51) (Operand.tmp 52) 3, type := 4, pos := "law.go:195", after := #[{ on := 6, ground := Ground.data }, { on := 7, ground := Ground.data }, { on := 3, ground := Ground.guard }], guard := some (3, false) }) (v := Value.bool false) rfl (by kernel_rfl) (by kernel_rfl) (by kernel_rfl) (fun _ _ _ h => h) (Or.inl ⟨rfl, fun _ _ => by go_simp⟩) hS ?_
          try simp only [Act.put, List.setIfInBounds_toArray, List.set_cons_zero, List.set_cons_succ]
          refine wpAnyH_take (i := 9) (oi := { dst := some 54, op := Op.pick (Operand.tmp 48) (Operand.const (Value.bool true)) (Operand.tmp 53), type := 4, pos := "law.go:195", after := #[{ on := 3, ground := Ground.data }, { on := 8, ground := Ground.data }], guard := none }) (v := Value.bool false) rfl (by kernel_rfl) (by kernel_rfl) (by kernel_rfl) (fun _ _ _ h => h) (Or.inl ⟨rfl, fun _ _ => by kernel_rfl⟩) hS ?_
          try simp only [Act.put, List.setIfInBounds_toArray, List.set_cons_zero, List.set_cons_succ]
          refine wpAnyH_take (i := 10) (oi := { dst := some 55, op := Op.move (Operand.tmp 54), type := 4, pos := "law.go:195", after := #[{ on := 9, ground := Ground.data }, { on := 6, ground := Ground.chain }], guard := none }) (v := Value.bool false) rfl (by kernel_rfl) (by kernel_rfl) (by kernel_rfl) (fun _ _ _ h => h) (Or.inl ⟨rfl, fun _ _ => by kernel_rfl⟩) hS ?_
          try simp only [Act.put, List.setIfInBounds_toArray, List.set_cons_zero, List.set_cons_succ]
          refine wpAnyH_take (i := 11) (oi := { dst := some 56, op := Op.move (Operand.tmp 8), type := 38, pos := "law.go:195", after := #[{ on := 10, ground := Ground.guard }], guard := some (10, false) }) (v := Value.pointer (some ⟨a, 0, none⟩)) rfl (by kernel_rfl) (by kernel_rfl) (by kernel_rfl) (fun _ _ _ h => h) (Or.inl ⟨rfl, fun _ _ => by kernel_rfl⟩) hS ?_
          try simp only [Act.put, List.setIfInBounds_toArray, List.set_cons_zero, List.set_cons_succ]
          refine wpAnyH_take (i := 13) (oi := { dst := some 58, op := Op.move (Operand.tmp 7), type := 3, pos := "law.go:195", after := #[{ on := 10, ground := Ground.guard }], guard := some (10, false) }) (v := Value.int .i64 Wn) rfl (by kernel_rfl) (by kernel_rfl) (by kernel_rfl) (fun _ _ _ h => h) (Or.inl ⟨rfl, fun _ _ => by kernel_rfl⟩) hS ?_
          try simp only [Act.put, List.setIfInBounds_toArray, List.set_cons_zero, List.set_cons_succ]
          refine wpAnyH_take (i := 14) (oi := { dst := some 59, op := Op.fieldAddr 23 (Operand.tmp 2) 2, type := 0, pos := "law.go:195", after := #[{ on := 10, ground := Ground.guard }], guard := some (10, false) }) (v := Value.pointer (some ⟨q, 2, none⟩)) rfl (by kernel_rfl) (by kernel_rfl) (by kernel_rfl) (fun _ _ _ h => h) (Or.inl ⟨rfl, fun _ _ => by kernel_rfl⟩) hS ?_
          try simp only [Act.put, List.setIfInBounds_toArray, List.set_cons_zero, List.set_cons_succ]
          refine wpAnyH_take (i := 15) (oi := { dst := some 60, op := Op.load 3 (Operand.tmp 59), type := 3, pos := "law.go:195", after := #[{ on := 14, ground := Ground.data }, { on := 10, ground := Ground.guard }], guard := some (10, false) }) (v := Value.int .i64 c.c) rfl (by kernel_rfl) (by kernel_rfl) (by kernel_rfl) (fun _ _ _ h => h) (Or.inl ⟨rfl, fun w hSw => by have z := cell_of_blk hSw (i := 2) (v := .int .i64 c.c) rfl; go_simp⟩) hS ?_
          try simp only [Act.put, List.setIfInBounds_toArray, List.set_cons_zero, List.set_cons_succ]
          refine wpAnyH_take (i := 16) (oi := { dst := some 61, op := Op.binOp BinOp.rem 3 (Operand.tmp 58) (Operand.tmp 60) 3, type := 3, pos := "law.go:195", after := #[{ on := 13, ground := Ground.data }, { on := 15, ground := Ground.data }, { on := 10, ground := Ground.guard }], guard := some (10, false) }) (v := Value.int .i64 (Wn % c.c)) rfl (by kernel_rfl) (by kernel_rfl) (by kernel_rfl) (fun _ _ _ h => h) (Or.inl ⟨rfl, fun _ _ => by go_simp; exact Int.tmod_eq_emod_of_nonneg wn0⟩) hS ?_
          try simp only [Act.put, List.setIfInBounds_toArray, List.set_cons_zero, List.set_cons_succ]
          refine wpAnyH_take (i := 17) (oi := { dst := some 62, op := Op.binOp BinOp.add 3 (Operand.tmp 61) (Operand.const (Value.int IntKind.i64 1)) 3, type := 3, pos := "law.go:195", after := #[{ on := 16, ground := Ground.data }, { on := 10, ground := Ground.guard }], guard := some (10, false) }) (v := Value.int .i64 NX) rfl (by kernel_rfl) (by kernel_rfl) (by kernel_rfl) (fun _ _ _ h => h) (Or.inl ⟨rfl, fun _ _ => by go_simp; exact HNW.out⟩) hS ?_
          try simp only [Act.put, List.setIfInBounds_toArray, List.set_cons_zero, List.set_cons_succ]
          refine wpAnyH_ready (rs := [12]) (by kernel_rfl) (by simp) ?_
          refine AllReadyH.cons (o := { dst := some 57, op := Op.call { callee := Callee.value (Operand.func 18), args := #[Operand.tmp 56], argTypes := #[38] }, type := 3, pos := "law.go:195", after := #[{ on := 11, ground := Ground.data }, { on := 10, ground := Ground.chain }, { on := 10, ground := Ground.guard }], guard := some (10, false) }) rfl (fun K hK => ?_) AllReadyH.nil
          rw [if_pos (by rfl)]
          refine wp_calls 18 #[.pointer (some ⟨a, 0, none⟩)] (by kernel_rfl) (fun v U => v = .int .i64 NX ∧ Kept [] u6 U) ((HNX.out _ j6).mono (fun e w' hh => ⟨_, hh.1, rfl, hh.2⟩)) ?_
          rintro _ u12 ⟨rfl, J12⟩
          have j12 := j6.trans J12
          have f12 := f6.kept J12 (by simp)
          try simp only [Act.put, List.setIfInBounds_toArray, List.set_cons_zero, List.set_cons_succ]
          refine hK.out _ _ (f12) (fun hS => ?_)
          clear hK K
          refine wpAnyH_take (i := 18) (oi := { dst := some 63, op := Op.binOp BinOp.neq 3 (Operand.tmp 57) (Operand.tmp 62) 3, type := 4, pos := "law.go:195", after := #[{ on := 12, ground := Ground.data }, { on := 17, ground := Ground.data }, { on := 10, ground := Ground.guard }], guard := some (10, false) }) (v := Value.bool false) rfl (by kernel_rfl) (by kernel_rfl) (by kernel_rfl) (fun _ _ _ h => h) (Or.inl ⟨rfl, fun _ _ => by go_simp⟩) hS ?_
          try simp only [Act.put, List.setIfInBounds_toArray, List.set_cons_zero, List.set_cons_succ]
          refine wpAnyH_take (i := 19) (oi := { dst := some 64, op := Op.pick (Operand.tmp 55) (Operand.const (Value.bool true)) (Operand.tmp 63), type := 4, pos := "law.go:195", after := #[{ on := 10, ground := Ground.data }, { on := 18, ground := Ground.data }], guard := none }) (v := Value.bool false) rfl (by kernel_rfl) (by kernel_rfl) (by kernel_rfl) (fun _ _ _ h => h) (Or.inl ⟨rfl, fun _ _ => by kernel_rfl⟩) hS ?_
          try simp only [Act.put, List.setIfInBounds_toArray, List.set_cons_zero, List.set_cons_succ]
          refine wpAnyH_done (by kernel_rfl) ?_ _
          have KF := j12
          have NN := hidOf (HNX.out _ KF)
          clear hS HDN HGT HNX HIX f1 f5 f6 f12
          go_wp2_with fail
          refine NN.out.mono ?_
          rintro e w9 ⟨rfl, K9⟩
          have FY := hidOf (FN.out _ (KF.trans K9))
          clear FN NN
          go_wp2
          go_roundw
          case rel => exact ⟨j + 1, NX, NX, _, _, _, by omega, rfl, rfl, by go_num, by omega, by omega, FY.out⟩
          case measure => simp [intOf]; omega
        · have hje : (j : Int) = c.c := by omega
          rw [hje] at HR
          go_wp2_with fail
          refine (knew_any f1 _).mono ?_
          rintro e w3 ⟨a, rfl, ha, A, K3⟩
          have aw : w.heap.size ≤ a := by have := K.size; omega
          have cbl := CB.lt
          have aq : ¬ q = a := by omega
          have F2 : Hid (Mm w3 m p r c cs cnt x ∧ RW 23 w3 q #[.int .i64 c.t, .int .i64 c.s, .int .i64 c.c, .int .i64 c.h, .int .i64 c.k, .int .i64 c.e, .int .i64 c.l] ∧ Kept [] w w3 ∧ KS w3 a ⟨0, f1, 0, 0, 0, 0, f1⟩) := ⟨HM.out.new K3, CB.kept K3 (by simp), K.trans K3, A⟩
          clear HM CB K A K3
          have q2 := cell_of_blk F2.out.2.1 (i := 2) (v := .int .i64 c.c) rfl
          go_wp2
          go_loopw [75] (fun i wr => ∃ (l : Nat) (s : Ks) (cnt : Int) (x : Acc), (l : Int) ≤ c.c ∧ i = .int .i64 l ∧ 0 ≤ cnt ∧ cnt ≤ 200 + l ∧ Mm wr m p r c cs cnt x ∧ KS wr a s ∧ Kept [] w wr ∧ Hid (LI c f1 l s)) (fun i _ => (c.c - intOf i).toNat)
          case atStart => exact ⟨0, _, cnt, x, by omega, rfl, c0, by omega, F2.out.1, F2.out.2.2.2, F2.out.2.2.1, LI.start c f1⟩
          case round =>
            clear F2
            obtain ⟨l, s, cnt, x, hl, rfl, c0, c1, M, A, K, HL⟩ := hrel
            have HM := hidOf M
            have HA := hidOf A
            clear M A
            by_cases hlt : (l : Int) < c.c
            · have ST := hidOf (step_any a m p r c cs cnt x s _ HA.out HM.out (HT.out.kept K) HL.out.ki HR.out.1.wd n0 n64 (by omega) (by omega))
              have LS := hidOf (LI.step n0 HR.out.1 HL.out (by omega) hlt)
              have nb := stN_bd cnt s
              rw [LS.out.2] at ST
              go_wp2_with fail
              refine ST.out.mono ?_
              rintro e w4 ⟨rfl, A9, M9, K9⟩
              obtain ⟨na1, na2, na3⟩ := A9.nm M9
              replace K := K.then K9 (by simp; omega)
              clear ST HM HA K9
              have HM := hidOf M9
              have HA := hidOf A9
              clear M9 A9
              go_wp2
              go_roundw
              case rel => exact ⟨l + 1, _, _, _, by omega, by go_num, by omega, by omega, HM.out, HA.out, K, LS.out.1⟩
              case measure => simp [intOf]; omega
            · have d3 : s.ph = 3 := HL.out.p3 (by omega) (by omega)
              have AL := hidOf (alive_any _ (HT.out.kept K))
              go_wp2_with fail
              refine AL.out.mono ?_
              rintro e w6 ⟨rfl, K6⟩
              have DA := hidOf (kdone_any a _ w6 (HA.out.kept K6 (by simp)))
              have GA := hidOf (kgot_any a _ w6 (HA.out.kept K6 (by simp)))
              have NA := hidOf (knext_any a _ w6 (HA.out.kept K6 (by simp)))
              rw [d3] at DA
              rw [HL.out.gt] at GA
              rw [HL.out.nx] at NA
              clear AL HA HM d3
              go_wp2_with (first
                | (go_at_call 16; refine DA.out.mono ?_; rintro e w9 ⟨rfl, rfl⟩)
                | (go_at_call 17; refine GA.out.mono ?_; rintro e w9 ⟨rfl, rfl⟩)
                | (go_at_call 18; refine NA.out.mono ?_; rintro e w9 ⟨rfl, rfl⟩))
              go_ret
              exact ⟨rfl, K.trans K6⟩
    · by_cases hf2 : c.c < fr
      · have HBG : Hid (bgI c fr = 1) := if_pos (Or.inr hf2)
        go_enter Tryd.func8, Tryd.ntmps8
        go_upto_region 1 with (fail)
        rw [← hq]
        refine gen_world (fun W => RW 23 W q #[.int .i64 c.t, .int .i64 c.s, .int .i64 c.c, .int .i64 c.h, .int .i64 c.k, .int .i64 c.e, .int .i64 c.l] ∧ Kept [] w W) BX.out ?_
        have hqw : w.heap.size ≤ q := by omega
        clear BX hq
        rintro W ⟨CB, K0⟩
        have szb := CB.lt
        have OF := hidOf (mnew_yes c W (HT.out.kept K0) hri)
        go_wp2_with (first | ((with_reducible change wpList _ _ _ (Oper.mk _ (Op.load 23 _) _ _ _ _ :: _) _ _); refine wpList_load_rw 23 isT_cf rfl (.tmp 2) rfl q rfl #[.int .i64 c.t, .int .i64 c.s, .int .i64 c.c, .int .i64 c.h, .int .i64 c.k, .int .i64 c.e, .int .i64 c.l] rfl CB ?_))
        refine OF.out.mono ?_
        rintro e w1 ⟨m, p, r, rfl, ⟨hm, hp, hr⟩, M, K1⟩
        have CB1 := CB.kept K1 (by simp)
        have K2 := K0.trans K1
        have sz0 := K0.size
        clear OF CB
        obtain ⟨F0, hF0⟩ : ∃ F0, bgI c fr = F0 := ⟨_, rfl⟩
        have fb := bgI_bd (c := c) fr n0
        rw [hF0] at fb
        have q2 := cell_of_blk CB1 (i := 2) (v := .int .i64 c.c) rfl
        have F1 : Hid (RI c (fcV c) F0 0) := ⟨fc_wds hri, fc_len c, fun i i0 i1 => by rw [fc_wd hri i0 i1, if_neg (by have := (ds_bd n0 F0 i).1; omega)]⟩
        have HMM := hidOf (And.intro M (And.intro CB1 K2))
        clear M CB1 K2
        have hFe : Hid (F0 = 1) := hF0.symm.trans HBG.out
        go_wp2
        go_loopw [1, 7, 33] (fun v1 v7 i wr => ∃ (j : Nat) (f1 Wn : Int) (cs : List Int) (cnt : Int) (x : Acc), (j : Int) ≤ c.c ∧ v1 = .int .i64 f1 ∧ v7 = .int .i64 Wn ∧ i = .int .i64 j ∧ 0 ≤ cnt ∧ cnt ≤ 2 * j ∧ (Mm wr m p r c cs cnt x ∧ RW 23 wr q #[.int .i64 c.t, .int .i64 c.s, .int .i64 c.c, .int .i64 c.h, .int .i64 c.k, .int .i64 c.e, .int .i64 c.l] ∧ Kept [] w wr ∧ Hid (RI c cs F0 j ∧ bgI c f1 = Wn ∧ (1 ≤ Wn ∧ Wn ≤ c.c) ∧ ((j : Int) < c.c → ds c F0 Wn = j)))) (fun _ _ i _ => (c.c - intOf i).toNat)
        case atStart => exact ⟨0, fr, _, fcV c, 0, Acc.zero, by omega, rfl, rfl, rfl, Int.le_refl _, Int.le_refl _, HMM.out.1, HMM.out.2.1, HMM.out.2.2, ⟨F1.out, by first | exact hF0 | (rw [HBG.out]), by first | exact fb | omega, fun _ => by unfold ds; first | (rw [hFe.out]; simp) | simp⟩⟩
        case round =>
          clear F1 HMM
          obtain ⟨j, f1, Wn, cs, cnt, x, hj, rfl, rfl, rfl, c0, c1, M, CB, K, HR⟩ := hrel
          have HM := hidOf M
          clear M
          by_cases hlt : (j : Int) < c.c
          · have wb := HR.out.2.2.1
            have dd := HR.out.2.2.2 hlt
            have hz : wdK c cs Wn = 0 := by rw [HR.out.1.it Wn wb.1 wb.2, dd, if_neg (by omega)]
            have EL := hidOf (rnd_look HR.out.2.1 hz)
            have ET := hidOf (rnd_take (fr := f1) hri HR.out.1.len wb.1 wb.2 hz)
            have RN := hidOf (rnd_next (fr := f1) hri HR.out.1 wb.1 wb.2 dd)
            have BM := hidOf (bh_mod wb.1 wb.2)
            have DN := hidOf (ds_next n0 F0 wb.1 wb.2)
            rw [dd] at DN
            have BB := hidOf (bhI_bd (c := c) n0 wb.1)
            clear dd hz
            go_wp2_with fail
            refine (knew_any f1 _).mono ?_
            rintro e w3 ⟨a, rfl, ha, A, K3⟩
            have aw : w.heap.size ≤ a := by have := K.size; omega
            have cbl := CB.lt
            have aq : ¬ q = a := by omega
            replace HM := hidOf (HM.out.new K3)
            have HA := hidOf A
            replace K := K.trans K3
            replace CB := CB.kept K3 (by simp)
            clear A K3
            have ST := hidOf (step_any a m p r c cs cnt _ ⟨0, f1, 0, 0, 0, 0, f1⟩ _ HA.out HM.out (HT.out.kept K) (KI.start c f1) HR.out.1.wd n0 n64 (by omega) (by omega))
            rw [EL.out, show stC c cs ⟨0, f1, 0, 0, 0, 0, f1⟩ = cs from rfl, show stN cnt ⟨0, f1, 0, 0, 0, 0, f1⟩ = cnt + 1 from rfl] at ST
            go_wp2_with fail
            refine ST.out.mono ?_
            rintro e w4 ⟨rfl, A9, M9, K9⟩
            obtain ⟨na1, na2, na3⟩ := A9.nm M9
            replace K := K.then K9 (by simp; omega)
            replace CB := CB.kept K9 (by simp; omega)
            clear ST HM HA K9
            have HM := hidOf M9
            have HA := hidOf A9
            clear M9 A9
            have ST := hidOf (step_any a m p r c cs (cnt + 1) _ ⟨2, f1, Wn, c.c, 0, 0, f1⟩ _ HA.out HM.out (HT.out.kept K) ⟨fun _ _ => ⟨wb.1, wb.2, n0, Int.le_refl _⟩, by show (0 : Int) ≤ 0 ∧ (0 : Int) < 18446744073709551616; decide⟩ HR.out.1.wd n0 n64 (by omega) (by omega))
            rw [ET.out, show stN (cnt + 1) ⟨2, f1, Wn, c.c, 0, 0, f1⟩ = cnt + 1 + 1 from rfl] at ST
            go_wp2_with fail
            refine ST.out.mono ?_
            rintro e w5 ⟨rfl, A9, M9, K9⟩
            obtain ⟨na1, na2, na3⟩ := A9.nm M9
            replace K := K.then K9 (by simp; omega)
            replace CB := CB.kept K9 (by simp; omega)
            clear ST HM HA K9
            have HM := hidOf M9
            have HA := hidOf A9
            clear M9 A9
            obtain ⟨P, hP⟩ : ∃ P, packV Wn 0 false = P := ⟨_, rfl⟩
            obtain ⟨NX, hNX⟩ : ∃ NX, bhI c Wn = NX := ⟨_, rfl⟩
            have pb := pack_bd Wn 0 (by omega) (by omega) (by decide) (by decide)
            have IX := hidOf (ix_pack Wn 0 (by omega) (by omega))
            rw [hP] at pb IX HA
            rw [hNX] at HA BM DN BB
            clear hP hNX EL ET
            have FN : Hid (∀ V, Kept [] w5.drew V → Mm V m p r c (stC c cs ⟨2, f1, Wn, c.c, 0, 0, f1⟩) (cnt + 1 + 1) (stA c cs (stA c cs x ⟨0, f1, 0, 0, 0, 0, f1⟩) ⟨2, f1, Wn, c.c, 0, 0, f1⟩) ∧ RW 23 V q #[.int .i64 c.t, .int .i64 c.s, .int .i64 c.c, .int .i64 c.h, .int .i64 c.k, .int .i64 c.e, .int .i64 c.l] ∧ Kept [] w V ∧ Hid (RI c (stC c cs ⟨2, f1, Wn, c.c, 0, 0, f1⟩) F0 ((j + 1 : Nat) : Int) ∧ bgI c NX = NX ∧ (1 ≤ NX ∧ NX ≤ c.c) ∧ ((((j + 1 : Nat) : Int) < c.c) → ds c F0 NX = ((j + 1 : Nat) : Int)))) := by
              intro V kv
              have k0 : Kept [] w5 V := (Kept.refl [] w5).drew.trans kv
              exact ⟨HM.out.new k0, CB.kept k0 (by simp), K.trans k0, ⟨RN.out, bg_in BB.out.1 BB.out.2, BB.out, fun hh => by rw [DN.out, if_neg (by omega)]; rfl⟩⟩
            have HDN : Hid (∀ W, Kept [] w5.drew W → Calls Tryd.prog 16 #[.pointer (some ⟨a, 0, none⟩)] W fun e w' => e = .returned (.bool true) ∧ Kept [] W w') := fun W kk => (kdone_any a _ W (HA.out.kept ((Kept.refl [] w5).drew.trans kk) (by simp))).mono fun e w' hh => ⟨hh.1, by rw [hh.2]; exact Kept.refl _ _⟩
            have HGT : Hid (∀ W, Kept [] w5.drew W → Calls Tryd.prog 17 #[.pointer (some ⟨a, 0, none⟩)] W fun e w' => e = .returned (.int .u64 P) ∧ Kept [] W w') := fun W kk => (kgot_any a _ W (HA.out.kept ((Kept.refl [] w5).drew.trans kk) (by simp))).mono fun e w' hh => ⟨hh.1, by rw [hh.2]; exact Kept.refl _ _⟩
            have HNX : Hid (∀ W, Kept [] w5.drew W → Calls Tryd.prog 18 #[.pointer (some ⟨a, 0, none⟩)] W fun e w' => e = .returned (.int .i64 NX) ∧ Kept [] W w') := fun W kk => (knext_any a _ W (HA.out.kept ((Kept.refl [] w5).drew.trans kk) (by simp))).mono fun e w' hh => ⟨hh.1, by rw [hh.2]; exact Kept.refl _ _⟩
            have HIX : Hid (∀ W, Kept [] w5.drew W → Calls Tryd.prog 29 #[.int .u64 P] W fun e w' => e = .returned (.int .i64 Wn) ∧ Kept [] W w') := fun W kk => IX.out ▸ index_any P W (HT.out.kept (K.trans ((Kept.refl [] w5).drew.trans kk))) (by omega) pb.2
            have HNW : Hid (IntKind.i64.wrap (Wn % c.c + 1) = NX) := by
              have m0 := Int.emod_nonneg Wn (by omega : c.c ≠ 0)
              have m1 := Int.emod_lt_of_pos Wn (by omega : 0 < c.c)
              show IntKind.i64.wrap (Wn % c.c + 1) = NX
              rw [IntKind.wrap_i64, BM.out]; omega
            have F5 : RW 23 w5.drew q #[.int .i64 c.t, .int .i64 c.s, .int .i64 c.c, .int .i64 c.h, .int .i64 c.k, .int .i64 c.e, .int .i64 c.l] := CB
            have md : ¬ c.c = 0 := by omega
            have wn0 : 0 ≤ Wn := by omega
            clear HA HM CB K RN BM DN IX
            go_upto_region 14 with (fail)
            refine wp_region_held_drew (S := fun w' => RW 23 w' q #[.int .i64 c.t, .int .i64 c.s, .int .i64 c.c, .int .i64 c.h, .int .i64 c.k, .int .i64 c.e, .int .i64 c.l]) (by kernel_rfl) F5 (fun hS => ?_)
            generalize w5.drew = V5 at F5 HDN HGT HNX HIX FN hS ⊢
            refine wpAnyH_take (i := 0) (oi := { dst := some 45, op := Op.move (Operand.tmp 8), type := 38, pos := "law.go:195", after := #[], guard := none }) (v := Value.pointer (some ⟨a, 0, none⟩)) rfl (by kernel_rfl) (by kernel_rfl) (by kernel_rfl) (fun _ _ _ h => h) (Or.inl ⟨rfl, fun _ _ => by kernel_rfl⟩) hS ?_
            try simp only [Act.put, List.setIfInBounds_toArray, List.set_cons_zero, List.set_cons_succ]
            refine wpAnyH_ready (rs := [1]) (by kernel_rfl) (by simp) ?_
            refine AllReadyH.cons (o := { dst := some 46, op := Op.call { callee := Callee.value (Operand.func 16), args := #[Operand.tmp 45], argTypes := #[38] }, type := 4, pos := "law.go:195", after := #[{ on := 0, ground := Ground.data }], guard := none }) rfl (fun K hK => ?_) AllReadyH.nil
            rw [if_pos (by rfl)]
            refine wp_calls 16 #[.pointer (some ⟨a, 0, none⟩)] (by kernel_rfl) (fun v U => v = .bool true ∧ Kept [] V5 U) ((HDN.out _ (Kept.refl [] V5)).mono (fun e w' hh => ⟨_, hh.1, rfl, hh.2⟩)) ?_
            rintro _ u1 ⟨rfl, J1⟩
            have j1 := (Kept.refl [] V5).trans J1
            have f1 := F5.kept J1 (by simp)
            try simp only [Act.put, List.setIfInBounds_toArray, List.set_cons_zero, List.set_cons_succ]
            refine hK.out _ _ (f1) (fun hS => ?_)
            clear hK K
            refine wpAnyH_take (i := 2) (oi := { dst := some 47, op := Op.unOp UnOp.not 4 (Operand.tmp 46), type := 4, pos := "law.go:195", after := #[{ on := 1, ground := Ground.data }], guard := none }) (v := Value.bool false) rfl (by kernel_rfl) (by kernel_rfl) (by kernel_rfl) (fun _ _ _ h => h) (Or.inl ⟨rfl, fun _ _ => by kernel_rfl⟩) hS ?_
            try simp only [Act.put, List.setIfInBounds_toArray, List.set_cons_zero, List.set_cons_succ]
            refine wpAnyH_take (i := 3) (oi := { dst := some 48, op := Op.move (Operand.tmp 47), type := 4, pos := "law.go:195", after := #[{ on := 2, ground := Ground.data }, { on := 1, ground := Ground.chain }], guard := none }) (v := Value.bool false) rfl (by kernel_rfl) (by kernel_rfl) (by kernel_rfl) (fun _ _ _ h => h) (Or.inl ⟨rfl, fun _ _ => by kernel_rfl⟩) hS ?_
            try simp only [Act.put, List.setIfInBounds_toArray, List.set_cons_zero, List.set_cons_succ]
            refine wpAnyH_take (i := 4) (oi := { dst := some 49, op := Op.move (Operand.tmp 8), type := 38, pos := "law.go:195", after := #[{ on := 3, ground := Ground.guard }], guard := some (3, false) }) (v := Value.pointer (some ⟨a, 0, none⟩)) rfl (by kernel_rfl) (by kernel_rfl) (by kernel_rfl) (fun _ _ _ h => h) (Or.inl ⟨rfl, fun _ _ => by kernel_rfl⟩) hS ?_
            try simp only [Act.put, List.setIfInBounds_toArray, List.set_cons_zero, List.set_cons_succ]
            refine wpAnyH_take (i := 7) (oi := { dst := some 52, op := Op.move (Operand.tmp 7), type := 3, pos := "law.go:195", after := #[{ on := 3, ground := Ground.guard }], guard := some (3, false) }) (v := Value.int .i64 Wn) rfl (by kernel_rfl) (by kernel_rfl) (by kernel_rfl) (fun _ _ _ h => h) (Or.inl ⟨rfl, fun _ _ => by kernel_rfl⟩) hS ?_
            try simp only [Act.put, List.setIfInBounds_toArray, List.set_cons_zero, List.set_cons_succ]
            refine wpAnyH_ready (rs := [5]) (by kernel_rfl) (by simp) ?_
            refine AllReadyH.cons (o := { dst := some 50, op := Op.call { callee := Callee.value (Operand.func 17), args := #[Operand.tmp 49], argTypes := #[38] }, type := 29, pos := "law.go:195", after := #[{ on := 4, ground := Ground.data }, { on := 3, ground := Ground.chain }, { on := 3, ground := Ground.guard }], guard := some (3, false) }) rfl (fun K hK => ?_) AllReadyH.nil
            rw [if_pos (by rfl)]
            refine wp_calls 17 #[.pointer (some ⟨a, 0, none⟩)] (by kernel_rfl) (fun v U => v = .int .u64 P ∧ Kept [] u1 U) ((HGT.out _ j1).mono (fun e w' hh => ⟨_, hh.1, rfl, hh.2⟩)) ?_
            rintro _ u5 ⟨rfl, J5⟩
            have j5 := j1.trans J5
            have f5 := f1.kept J5 (by simp)
            try simp only [Act.put, List.setIfInBounds_toArray, List.set_cons_zero, List.set_cons_succ]
            refine hK.out _ _ (f5) (fun hS => ?_)
            clear hK K
            refine wpAnyH_ready (rs := [6]) (by kernel_rfl) (by simp) ?_
            refine AllReadyH.cons (o := { dst := some 51, op := Op.call { callee := Callee.value (Operand.func 29), args := #[Operand.tmp 50], argTypes := #[29] }, type := 3, pos := "law.go:195", after := #[{ on := 5, ground := Ground.data }, { on := 5, ground := Ground.chain }, { on := 3, ground := Ground.guard }], guard := some (3, false) }) rfl (fun K hK => ?_) AllReadyH.nil
            rw [if_pos (by rfl)]
            refine wp_calls 29 #[.int .u64 P] (by kernel_rfl) (fun v U => v = .int .i64 Wn ∧ Kept [] u5 U) ((HIX.out _ j5).mono (fun e w' hh => ⟨_, hh.1, rfl, hh.2⟩)) ?_
            rintro _ u6 ⟨rfl, J6⟩
            have j6 := j5.trans J6
            have f6 := f5.kept J6 (by simp)
            try simp only [Act.put, List.setIfInBounds_toArray, List.set_cons_zero, List.set_cons_succ]
            refine hK.out _ _ (f6) (fun hS => ?_)
            clear hK K
            refine wpAnyH_take (i := 8) (oi := { dst := some 53, op := Op.binOp BinOp.neq 3 (Operand.tmp 51) (Operand.tmp 52) 3, type := 4, pos := "law.go:195", after := #[{ on := 6, ground := Ground.data }, { on := 7, ground := Ground.data }, { on := 3, ground := Ground.guard }], guard := some (3, false) }) (v := Value.bool false) rfl (by kernel_rfl) (by kernel_rfl) (by kernel_rfl) (fun _ _ _ h => h) (Or.inl ⟨rfl, fun _ _ => by go_simp⟩) hS ?_
            try simp only [Act.put, List.setIfInBounds_toArray, List.set_cons_zero, List.set_cons_succ]
            refine wpAnyH_take (i := 9) (oi := { dst := some 54, op := Op.pick (Operand.tmp 48) (Operand.const (Value.bool true)) (Operand.tmp 53), type := 4, pos := "law.go:195", after := #[{ on := 3, ground := Ground.data }, { on := 8, ground := Ground.data }], guard := none }) (v := Value.bool false) rfl (by kernel_rfl) (by kernel_rfl) (by kernel_rfl) (fun _ _ _ h => h) (Or.inl ⟨rfl, fun _ _ => by kernel_rfl⟩) hS ?_
            try simp only [Act.put, List.setIfInBounds_toArray, List.set_cons_zero, List.set_cons_succ]
            refine wpAnyH_take (i := 10) (oi := { dst := some 55, op := Op.move (Operand.tmp 54), type := 4, pos := "law.go:195", after := #[{ on := 9, ground := Ground.data }, { on := 6, ground := Ground.chain }], guard := none }) (v := Value.bool false) rfl (by kernel_rfl) (by kernel_rfl) (by kernel_rfl) (fun _ _ _ h => h) (Or.inl ⟨rfl, fun _ _ => by kernel_rfl⟩) hS ?_
            try simp only [Act.put, List.setIfInBounds_toArray, List.set_cons_zero, List.set_cons_succ]
            refine wpAnyH_take (i := 11) (oi := { dst := some 56, op := Op.move (Operand.tmp 8), type := 38, pos := "law.go:195", after := #[{ on := 10, ground := Ground.guard }], guard := some (10, false) }) (v := Value.pointer (some ⟨a, 0, none⟩)) rfl (by kernel_rfl) (by kernel_rfl) (by kernel_rfl) (fun _ _ _ h => h) (Or.inl ⟨rfl, fun _ _ => by kernel_rfl⟩) hS ?_
            try simp only [Act.put, List.setIfInBounds_toArray, List.set_cons_zero, List.set_cons_succ]
            refine wpAnyH_take (i := 13) (oi := { dst := some 58, op := Op.move (Operand.tmp 7), type := 3, pos := "law.go:195", after := #[{ on := 10, ground := Ground.guard }], guard := some (10, false) }) (v := Value.int .i64 Wn) rfl (by kernel_rfl) (by kernel_rfl) (by kernel_rfl) (fun _ _ _ h => h) (Or.inl ⟨rfl, fun _ _ => by kernel_rfl⟩) hS ?_
            try simp only [Act.put, List.setIfInBounds_toArray, List.set_cons_zero, List.set_cons_succ]
            refine wpAnyH_take (i := 14) (oi := { dst := some 59, op := Op.fieldAddr 23 (Operand.tmp 2) 2, type := 0, pos := "law.go:195", after := #[{ on := 10, ground := Ground.guard }], guard := some (10, false) }) (v := Value.pointer (some ⟨q, 2, none⟩)) rfl (by kernel_rfl) (by kernel_rfl) (by kernel_rfl) (fun _ _ _ h => h) (Or.inl ⟨rfl, fun _ _ => by kernel_rfl⟩) hS ?_
            try simp only [Act.put, List.setIfInBounds_toArray, List.set_cons_zero, List.set_cons_succ]
            refine wpAnyH_take (i := 15) (oi := { dst := some 60, op := Op.load 3 (Operand.tmp 59), type := 3, pos := "law.go:195", after := #[{ on := 14, ground := Ground.data }, { on := 10, ground := Ground.guard }], guard := some (10, false) }) (v := Value.int .i64 c.c) rfl (by kernel_rfl) (by kernel_rfl) (by kernel_rfl) (fun _ _ _ h => h) (Or.inl ⟨rfl, fun w hSw => by have z := cell_of_blk hSw (i := 2) (v := .int .i64 c.c) rfl; go_simp⟩) hS ?_
            try simp only [Act.put, List.setIfInBounds_toArray, List.set_cons_zero, List.set_cons_succ]
            refine wpAnyH_take (i := 16) (oi := { dst := some 61, op := Op.binOp BinOp.rem 3 (Operand.tmp 58) (Operand.tmp 60) 3, type := 3, pos := "law.go:195", after := #[{ on := 13, ground := Ground.data }, { on := 15, ground := Ground.data }, { on := 10, ground := Ground.guard }], guard := some (10, false) }) (v := Value.int .i64 (Wn % c.c)) rfl (by kernel_rfl) (by kernel_rfl) (by kernel_rfl) (fun _ _ _ h => h) (Or.inl ⟨rfl, fun _ _ => by go_simp; exact Int.tmod_eq_emod_of_nonneg wn0⟩) hS ?_
            try simp only [Act.put, List.setIfInBounds_toArray, List.set_cons_zero, List.set_cons_succ]
            refine wpAnyH_take (i := 17) (oi := { dst := some 62, op := Op.binOp BinOp.add 3 (Operand.tmp 61) (Operand.const (Value.int IntKind.i64 1)) 3, type := 3, pos := "law.go:195", after := #[{ on := 16, ground := Ground.data }, { on := 10, ground := Ground.guard }], guard := some (10, false) }) (v := Value.int .i64 NX) rfl (by kernel_rfl) (by kernel_rfl) (by kernel_rfl) (fun _ _ _ h => h) (Or.inl ⟨rfl, fun _ _ => by go_simp; exact HNW.out⟩) hS ?_
            try simp only [Act.put, List.setIfInBounds_toArray, List.set_cons_zero, List.set_cons_succ]
            refine wpAnyH_ready (rs := [12]) (by kernel_rfl) (by simp) ?_
            refine AllReadyH.cons (o := { dst := some 57, op := Op.call { callee := Callee.value (Operand.func 18), args := #[Operand.tmp 56], argTypes := #[38] }, type := 3, pos := "law.go:195", after := #[{ on := 11, ground := Ground.data }, { on := 10, ground := Ground.chain }, { on := 10, ground := Ground.guard }], guard := some (10, false) }) rfl (fun K hK => ?_) AllReadyH.nil
            rw [if_pos (by rfl)]
            refine wp_calls 18 #[.pointer (some ⟨a, 0, none⟩)] (by kernel_rfl) (fun v U => v = .int .i64 NX ∧ Kept [] u6 U) ((HNX.out _ j6).mono (fun e w' hh => ⟨_, hh.1, rfl, hh.2⟩)) ?_
            rintro _ u12 ⟨rfl, J12⟩
            have j12 := j6.trans J12
            have f12 := f6.kept J12 (by simp)
            try simp only [Act.put, List.setIfInBounds_toArray, List.set_cons_zero, List.set_cons_succ]
            refine hK.out _ _ (f12) (fun hS => ?_)
            clear hK K
            refine wpAnyH_take (i := 18) (oi := { dst := some 63, op := Op.binOp BinOp.neq 3 (Operand.tmp 57) (Operand.tmp 62) 3, type := 4, pos := "law.go:195", after := #[{ on := 12, ground := Ground.data }, { on := 17, ground := Ground.data }, { on := 10, ground := Ground.guard }], guard := some (10, false) }) (v := Value.bool false) rfl (by kernel_rfl) (by kernel_rfl) (by kernel_rfl) (fun _ _ _ h => h) (Or.inl ⟨rfl, fun _ _ => by go_simp⟩) hS ?_
            try simp only [Act.put, List.setIfInBounds_toArray, List.set_cons_zero, List.set_cons_succ]
            refine wpAnyH_take (i := 19) (oi := { dst := some 64, op := Op.pick (Operand.tmp 55) (Operand.const (Value.bool true)) (Operand.tmp 63), type := 4, pos := "law.go:195", after := #[{ on := 10, ground := Ground.data }, { on := 18, ground := Ground.data }], guard := none }) (v := Value.bool false) rfl (by kernel_rfl) (by kernel_rfl) (by kernel_rfl) (fun _ _ _ h => h) (Or.inl ⟨rfl, fun _ _ => by kernel_rfl⟩) hS ?_
            try simp only [Act.put, List.setIfInBounds_toArray, List.set_cons_zero, List.set_cons_succ]
            refine wpAnyH_done (by kernel_rfl) ?_ _
            have KF := j12
            have NN := hidOf (HNX.out _ KF)
            clear hS HDN HGT HNX HIX f1 f5 f6 f12
            go_wp2_with fail
            refine NN.out.mono ?_
            rintro e w9 ⟨rfl, K9⟩
            have FY := hidOf (FN.out _ (KF.trans K9))
            clear FN NN
            go_wp2
            go_roundw
            case rel => exact ⟨j + 1, NX, NX, _, _, _, by omega, rfl, rfl, by go_num, by omega, by omega, FY.out⟩
            case measure => simp [intOf]; omega
          · have hje : (j : Int) = c.c := by omega
            rw [hje] at HR
            go_wp2_with fail
            refine (knew_any f1 _).mono ?_
            rintro e w3 ⟨a, rfl, ha, A, K3⟩
            have aw : w.heap.size ≤ a := by have := K.size; omega
            have cbl := CB.lt
            have aq : ¬ q = a := by omega
            have F2 : Hid (Mm w3 m p r c cs cnt x ∧ RW 23 w3 q #[.int .i64 c.t, .int .i64 c.s, .int .i64 c.c, .int .i64 c.h, .int .i64 c.k, .int .i64 c.e, .int .i64 c.l] ∧ Kept [] w w3 ∧ KS w3 a ⟨0, f1, 0, 0, 0, 0, f1⟩) := ⟨HM.out.new K3, CB.kept K3 (by simp), K.trans K3, A⟩
            clear HM CB K A K3
            have q2 := cell_of_blk F2.out.2.1 (i := 2) (v := .int .i64 c.c) rfl
            go_wp2
            go_loopw [75] (fun i wr => ∃ (l : Nat) (s : Ks) (cnt : Int) (x : Acc), (l : Int) ≤ c.c ∧ i = .int .i64 l ∧ 0 ≤ cnt ∧ cnt ≤ 200 + l ∧ Mm wr m p r c cs cnt x ∧ KS wr a s ∧ Kept [] w wr ∧ Hid (LI c f1 l s)) (fun i _ => (c.c - intOf i).toNat)
            case atStart => exact ⟨0, _, cnt, x, by omega, rfl, c0, by omega, F2.out.1, F2.out.2.2.2, F2.out.2.2.1, LI.start c f1⟩
            case round =>
              clear F2
              obtain ⟨l, s, cnt, x, hl, rfl, c0, c1, M, A, K, HL⟩ := hrel
              have HM := hidOf M
              have HA := hidOf A
              clear M A
              by_cases hlt : (l : Int) < c.c
              · have ST := hidOf (step_any a m p r c cs cnt x s _ HA.out HM.out (HT.out.kept K) HL.out.ki HR.out.1.wd n0 n64 (by omega) (by omega))
                have LS := hidOf (LI.step n0 HR.out.1 HL.out (by omega) hlt)
                have nb := stN_bd cnt s
                rw [LS.out.2] at ST
                go_wp2_with fail
                refine ST.out.mono ?_
                rintro e w4 ⟨rfl, A9, M9, K9⟩
                obtain ⟨na1, na2, na3⟩ := A9.nm M9
                replace K := K.then K9 (by simp; omega)
                clear ST HM HA K9
                have HM := hidOf M9
                have HA := hidOf A9
                clear M9 A9
                go_wp2
                go_roundw
                case rel => exact ⟨l + 1, _, _, _, by omega, by go_num, by omega, by omega, HM.out, HA.out, K, LS.out.1⟩
                case measure => simp [intOf]; omega
              · have d3 : s.ph = 3 := HL.out.p3 (by omega) (by omega)
                have AL := hidOf (alive_any _ (HT.out.kept K))
                go_wp2_with fail
                refine AL.out.mono ?_
                rintro e w6 ⟨rfl, K6⟩
                have DA := hidOf (kdone_any a _ w6 (HA.out.kept K6 (by simp)))
                have GA := hidOf (kgot_any a _ w6 (HA.out.kept K6 (by simp)))
                have NA := hidOf (knext_any a _ w6 (HA.out.kept K6 (by simp)))
                rw [d3] at DA
                rw [HL.out.gt] at GA
                rw [HL.out.nx] at NA
                clear AL HA HM d3
                go_wp2_with (first
                  | (go_at_call 16; refine DA.out.mono ?_; rintro e w9 ⟨rfl, rfl⟩)
                  | (go_at_call 17; refine GA.out.mono ?_; rintro e w9 ⟨rfl, rfl⟩)
                  | (go_at_call 18; refine NA.out.mono ?_; rintro e w9 ⟨rfl, rfl⟩))
                go_ret
                exact ⟨rfl, K.trans K6⟩
      · have HBG : Hid (bgI c fr = fr) := if_neg (by omega)
        go_enter Tryd.func8, Tryd.ntmps8
        go_upto_region 1 with (fail)
        rw [← hq]
        refine gen_world (fun W => RW 23 W q #[.int .i64 c.t, .int .i64 c.s, .int .i64 c.c, .int .i64 c.h, .int .i64 c.k, .int .i64 c.e, .int .i64 c.l] ∧ Kept [] w W) BX.out ?_
        have hqw : w.heap.size ≤ q := by omega
        clear BX hq
        rintro W ⟨CB, K0⟩
        have szb := CB.lt
        have OF := hidOf (mnew_yes c W (HT.out.kept K0) hri)
        go_wp2_with (first | ((with_reducible change wpList _ _ _ (Oper.mk _ (Op.load 23 _) _ _ _ _ :: _) _ _); refine wpList_load_rw 23 isT_cf rfl (.tmp 2) rfl q rfl #[.int .i64 c.t, .int .i64 c.s, .int .i64 c.c, .int .i64 c.h, .int .i64 c.k, .int .i64 c.e, .int .i64 c.l] rfl CB ?_))
        refine OF.out.mono ?_
        rintro e w1 ⟨m, p, r, rfl, ⟨hm, hp, hr⟩, M, K1⟩
        have CB1 := CB.kept K1 (by simp)
        have K2 := K0.trans K1
        have sz0 := K0.size
        clear OF CB
        obtain ⟨F0, hF0⟩ : ∃ F0, bgI c fr = F0 := ⟨_, rfl⟩
        have fb := bgI_bd (c := c) fr n0
        rw [hF0] at fb
        have q2 := cell_of_blk CB1 (i := 2) (v := .int .i64 c.c) rfl
        have F1 : Hid (RI c (fcV c) F0 0) := ⟨fc_wds hri, fc_len c, fun i i0 i1 => by rw [fc_wd hri i0 i1, if_neg (by have := (ds_bd n0 F0 i).1; omega)]⟩
        have HMM := hidOf (And.intro M (And.intro CB1 K2))
        clear M CB1 K2
        have hFe : Hid (F0 = fr) := hF0.symm.trans HBG.out
        go_wp2
        go_loopw [1, 7, 33] (fun v1 v7 i wr => ∃ (j : Nat) (f1 Wn : Int) (cs : List Int) (cnt : Int) (x : Acc), (j : Int) ≤ c.c ∧ v1 = .int .i64 f1 ∧ v7 = .int .i64 Wn ∧ i = .int .i64 j ∧ 0 ≤ cnt ∧ cnt ≤ 2 * j ∧ (Mm wr m p r c cs cnt x ∧ RW 23 wr q #[.int .i64 c.t, .int .i64 c.s, .int .i64 c.c, .int .i64 c.h, .int .i64 c.k, .int .i64 c.e, .int .i64 c.l] ∧ Kept [] w wr ∧ Hid (RI c cs F0 j ∧ bgI c f1 = Wn ∧ (1 ≤ Wn ∧ Wn ≤ c.c) ∧ ((j : Int) < c.c → ds c F0 Wn = j)))) (fun _ _ i _ => (c.c - intOf i).toNat)
        case atStart => exact ⟨0, fr, _, fcV c, 0, Acc.zero, by omega, rfl, rfl, rfl, Int.le_refl _, Int.le_refl _, HMM.out.1, HMM.out.2.1, HMM.out.2.2, ⟨F1.out, by first | exact hF0 | (rw [HBG.out]), by first | exact fb | omega, fun _ => by unfold ds; first | (rw [hFe.out]; simp) | simp⟩⟩
        case round =>
          clear F1 HMM
          obtain ⟨j, f1, Wn, cs, cnt, x, hj, rfl, rfl, rfl, c0, c1, M, CB, K, HR⟩ := hrel
          have HM := hidOf M
          clear M
          by_cases hlt : (j : Int) < c.c
          · have wb := HR.out.2.2.1
            have dd := HR.out.2.2.2 hlt
            have hz : wdK c cs Wn = 0 := by rw [HR.out.1.it Wn wb.1 wb.2, dd, if_neg (by omega)]
            have EL := hidOf (rnd_look HR.out.2.1 hz)
            have ET := hidOf (rnd_take (fr := f1) hri HR.out.1.len wb.1 wb.2 hz)
            have RN := hidOf (rnd_next (fr := f1) hri HR.out.1 wb.1 wb.2 dd)
            have BM := hidOf (bh_mod wb.1 wb.2)
            have DN := hidOf (ds_next n0 F0 wb.1 wb.2)
            rw [dd] at DN
            have BB := hidOf (bhI_bd (c := c) n0 wb.1)
            clear dd hz
            go_wp2_with fail
            refine (knew_any f1 _).mono ?_
            rintro e w3 ⟨a, rfl, ha, A, K3⟩
            have aw : w.heap.size ≤ a := by have := K.size; omega
            have cbl := CB.lt
            have aq : ¬ q = a := by omega
            replace HM := hidOf (HM.out.new K3)
            have HA := hidOf A
            replace K := K.trans K3
            replace CB := CB.kept K3 (by simp)
            clear A K3
            have ST := hidOf (step_any a m p r c cs cnt _ ⟨0, f1, 0, 0, 0, 0, f1⟩ _ HA.out HM.out (HT.out.kept K) (KI.start c f1) HR.out.1.wd n0 n64 (by omega) (by omega))
            rw [EL.out, show stC c cs ⟨0, f1, 0, 0, 0, 0, f1⟩ = cs from rfl, show stN cnt ⟨0, f1, 0, 0, 0, 0, f1⟩ = cnt + 1 from rfl] at ST
            go_wp2_with fail
            refine ST.out.mono ?_
            rintro e w4 ⟨rfl, A9, M9, K9⟩
            obtain ⟨na1, na2, na3⟩ := A9.nm M9
            replace K := K.then K9 (by simp; omega)
            replace CB := CB.kept K9 (by simp; omega)
            clear ST HM HA K9
            have HM := hidOf M9
            have HA := hidOf A9
            clear M9 A9
            have ST := hidOf (step_any a m p r c cs (cnt + 1) _ ⟨2, f1, Wn, c.c, 0, 0, f1⟩ _ HA.out HM.out (HT.out.kept K) ⟨fun _ _ => ⟨wb.1, wb.2, n0, Int.le_refl _⟩, by show (0 : Int) ≤ 0 ∧ (0 : Int) < 18446744073709551616; decide⟩ HR.out.1.wd n0 n64 (by omega) (by omega))
            rw [ET.out, show stN (cnt + 1) ⟨2, f1, Wn, c.c, 0, 0, f1⟩ = cnt + 1 + 1 from rfl] at ST
            go_wp2_with fail
            refine ST.out.mono ?_
            rintro e w5 ⟨rfl, A9, M9, K9⟩
            obtain ⟨na1, na2, na3⟩ := A9.nm M9
            replace K := K.then K9 (by simp; omega)
            replace CB := CB.kept K9 (by simp; omega)
            clear ST HM HA K9
            have HM := hidOf M9
            have HA := hidOf A9
            clear M9 A9
            obtain ⟨P, hP⟩ : ∃ P, packV Wn 0 false = P := ⟨_, rfl⟩
            obtain ⟨NX, hNX⟩ : ∃ NX, bhI c Wn = NX := ⟨_, rfl⟩
            have pb := pack_bd Wn 0 (by omega) (by omega) (by decide) (by decide)
            have IX := hidOf (ix_pack Wn 0 (by omega) (by omega))
            rw [hP] at pb IX HA
            rw [hNX] at HA BM DN BB
            clear hP hNX EL ET
            have FN : Hid (∀ V, Kept [] w5.drew V → Mm V m p r c (stC c cs ⟨2, f1, Wn, c.c, 0, 0, f1⟩) (cnt + 1 + 1) (stA c cs (stA c cs x ⟨0, f1, 0, 0, 0, 0, f1⟩) ⟨2, f1, Wn, c.c, 0, 0, f1⟩) ∧ RW 23 V q #[.int .i64 c.t, .int .i64 c.s, .int .i64 c.c, .int .i64 c.h, .int .i64 c.k, .int .i64 c.e, .int .i64 c.l] ∧ Kept [] w V ∧ Hid (RI c (stC c cs ⟨2, f1, Wn, c.c, 0, 0, f1⟩) F0 ((j + 1 : Nat) : Int) ∧ bgI c NX = NX ∧ (1 ≤ NX ∧ NX ≤ c.c) ∧ ((((j + 1 : Nat) : Int) < c.c) → ds c F0 NX = ((j + 1 : Nat) : Int)))) := by
              intro V kv
              have k0 : Kept [] w5 V := (Kept.refl [] w5).drew.trans kv
              exact ⟨HM.out.new k0, CB.kept k0 (by simp), K.trans k0, ⟨RN.out, bg_in BB.out.1 BB.out.2, BB.out, fun hh => by rw [DN.out, if_neg (by omega)]; rfl⟩⟩
            have HDN : Hid (∀ W, Kept [] w5.drew W → Calls Tryd.prog 16 #[.pointer (some ⟨a, 0, none⟩)] W fun e w' => e = .returned (.bool true) ∧ Kept [] W w') := fun W kk => (kdone_any a _ W (HA.out.kept ((Kept.refl [] w5).drew.trans kk) (by simp))).mono fun e w' hh => ⟨hh.1, by rw [hh.2]; exact Kept.refl _ _⟩
            have HGT : Hid (∀ W, Kept [] w5.drew W → Calls Tryd.prog 17 #[.pointer (some ⟨a, 0, none⟩)] W fun e w' => e = .returned (.int .u64 P) ∧ Kept [] W w') := fun W kk => (kgot_any a _ W (HA.out.kept ((Kept.refl [] w5).drew.trans kk) (by simp))).mono fun e w' hh => ⟨hh.1, by rw [hh.2]; exact Kept.refl _ _⟩
            have HNX : Hid (∀ W, Kept [] w5.drew W → Calls Tryd.prog 18 #[.pointer (some ⟨a, 0, none⟩)] W fun e w' => e = .returned (.int .i64 NX) ∧ Kept [] W w') := fun W kk => (knext_any a _ W (HA.out.kept ((Kept.refl [] w5).drew.trans kk) (by simp))).mono fun e w' hh => ⟨hh.1, by rw [hh.2]; exact Kept.refl _ _⟩
            have HIX : Hid (∀ W, Kept [] w5.drew W → Calls Tryd.prog 29 #[.int .u64 P] W fun e w' => e = .returned (.int .i64 Wn) ∧ Kept [] W w') := fun W kk => IX.out ▸ index_any P W (HT.out.kept (K.trans ((Kept.refl [] w5).drew.trans kk))) (by omega) pb.2
            have HNW : Hid (IntKind.i64.wrap (Wn % c.c + 1) = NX) := by
              have m0 := Int.emod_nonneg Wn (by omega : c.c ≠ 0)
              have m1 := Int.emod_lt_of_pos Wn (by omega : 0 < c.c)
              show IntKind.i64.wrap (Wn % c.c + 1) = NX
              rw [IntKind.wrap_i64, BM.out]; omega
            have F5 : RW 23 w5.drew q #[.int .i64 c.t, .int .i64 c.s, .int .i64 c.c, .int .i64 c.h, .int .i64 c.k, .int .i64 c.e, .int .i64 c.l] := CB
            have md : ¬ c.c = 0 := by omega
            have wn0 : 0 ≤ Wn := by omega
            clear HA HM CB K RN BM DN IX
            go_upto_region 14 with (fail)
            refine wp_region_held_drew (S := fun w' => RW 23 w' q #[.int .i64 c.t, .int .i64 c.s, .int .i64 c.c, .int .i64 c.h, .int .i64 c.k, .int .i64 c.e, .int .i64 c.l]) (by kernel_rfl) F5 (fun hS => ?_)
            generalize w5.drew = V5 at F5 HDN HGT HNX HIX FN hS ⊢
            refine wpAnyH_take (i := 0) (oi := { dst := some 45, op := Op.move (Operand.tmp 8), type := 38, pos := "law.go:195", after := #[], guard := none }) (v := Value.pointer (some ⟨a, 0, none⟩)) rfl (by kernel_rfl) (by kernel_rfl) (by kernel_rfl) (fun _ _ _ h => h) (Or.inl ⟨rfl, fun _ _ => by kernel_rfl⟩) hS ?_
            try simp only [Act.put, List.setIfInBounds_toArray, List.set_cons_zero, List.set_cons_succ]
            refine wpAnyH_ready (rs := [1]) (by kernel_rfl) (by simp) ?_
            refine AllReadyH.cons (o := { dst := some 46, op := Op.call { callee := Callee.value (Operand.func 16), args := #[Operand.tmp 45], argTypes := #[38] }, type := 4, pos := "law.go:195", after := #[{ on := 0, ground := Ground.data }], guard := none }) rfl (fun K hK => ?_) AllReadyH.nil
            rw [if_pos (by rfl)]
            refine wp_calls 16 #[.pointer (some ⟨a, 0, none⟩)] (by kernel_rfl) (fun v U => v = .bool true ∧ Kept [] V5 U) ((HDN.out _ (Kept.refl [] V5)).mono (fun e w' hh => ⟨_, hh.1, rfl, hh.2⟩)) ?_
            rintro _ u1 ⟨rfl, J1⟩
            have j1 := (Kept.refl [] V5).trans J1
            have f1 := F5.kept J1 (by simp)
            try simp only [Act.put, List.setIfInBounds_toArray, List.set_cons_zero, List.set_cons_succ]
            refine hK.out _ _ (f1) (fun hS => ?_)
            clear hK K
            refine wpAnyH_take (i := 2) (oi := { dst := some 47, op := Op.unOp UnOp.not 4 (Operand.tmp 46), type := 4, pos := "law.go:195", after := #[{ on := 1, ground := Ground.data }], guard := none }) (v := Value.bool false) rfl (by kernel_rfl) (by kernel_rfl) (by kernel_rfl) (fun _ _ _ h => h) (Or.inl ⟨rfl, fun _ _ => by kernel_rfl⟩) hS ?_
            try simp only [Act.put, List.setIfInBounds_toArray, List.set_cons_zero, List.set_cons_succ]
            refine wpAnyH_take (i := 3) (oi := { dst := some 48, op := Op.move (Operand.tmp 47), type := 4, pos := "law.go:195", after := #[{ on := 2, ground := Ground.data }, { on := 1, ground := Ground.chain }], guard := none }) (v := Value.bool false) rfl (by kernel_rfl) (by kernel_rfl) (by kernel_rfl) (fun _ _ _ h => h) (Or.inl ⟨rfl, fun _ _ => by kernel_rfl⟩) hS ?_
            try simp only [Act.put, List.setIfInBounds_toArray, List.set_cons_zero, List.set_cons_succ]
            refine wpAnyH_take (i := 4) (oi := { dst := some 49, op := Op.move (Operand.tmp 8), type := 38, pos := "law.go:195", after := #[{ on := 3, ground := Ground.guard }], guard := some (3, false) }) (v := Value.pointer (some ⟨a, 0, none⟩)) rfl (by kernel_rfl) (by kernel_rfl) (by kernel_rfl) (fun _ _ _ h => h) (Or.inl ⟨rfl, fun _ _ => by kernel_rfl⟩) hS ?_
            try simp only [Act.put, List.setIfInBounds_toArray, List.set_cons_zero, List.set_cons_succ]
            refine wpAnyH_take (i := 7) (oi := { dst := some 52, op := Op.move (Operand.tmp 7), type := 3, pos := "law.go:195", after := #[{ on := 3, ground := Ground.guard }], guard := some (3, false) }) (v := Value.int .i64 Wn) rfl (by kernel_rfl) (by kernel_rfl) (by kernel_rfl) (fun _ _ _ h => h) (Or.inl ⟨rfl, fun _ _ => by kernel_rfl⟩) hS ?_
            try simp only [Act.put, List.setIfInBounds_toArray, List.set_cons_zero, List.set_cons_succ]
            refine wpAnyH_ready (rs := [5]) (by kernel_rfl) (by simp) ?_
            refine AllReadyH.cons (o := { dst := some 50, op := Op.call { callee := Callee.value (Operand.func 17), args := #[Operand.tmp 49], argTypes := #[38] }, type := 29, pos := "law.go:195", after := #[{ on := 4, ground := Ground.data }, { on := 3, ground := Ground.chain }, { on := 3, ground := Ground.guard }], guard := some (3, false) }) rfl (fun K hK => ?_) AllReadyH.nil
            rw [if_pos (by rfl)]
            refine wp_calls 17 #[.pointer (some ⟨a, 0, none⟩)] (by kernel_rfl) (fun v U => v = .int .u64 P ∧ Kept [] u1 U) ((HGT.out _ j1).mono (fun e w' hh => ⟨_, hh.1, rfl, hh.2⟩)) ?_
            rintro _ u5 ⟨rfl, J5⟩
            have j5 := j1.trans J5
            have f5 := f1.kept J5 (by simp)
            try simp only [Act.put, List.setIfInBounds_toArray, List.set_cons_zero, List.set_cons_succ]
            refine hK.out _ _ (f5) (fun hS => ?_)
            clear hK K
            refine wpAnyH_ready (rs := [6]) (by kernel_rfl) (by simp) ?_
            refine AllReadyH.cons (o := { dst := some 51, op := Op.call { callee := Callee.value (Operand.func 29), args := #[Operand.tmp 50], argTypes := #[29] }, type := 3, pos := "law.go:195", after := #[{ on := 5, ground := Ground.data }, { on := 5, ground := Ground.chain }, { on := 3, ground := Ground.guard }], guard := some (3, false) }) rfl (fun K hK => ?_) AllReadyH.nil
            rw [if_pos (by rfl)]
            refine wp_calls 29 #[.int .u64 P] (by kernel_rfl) (fun v U => v = .int .i64 Wn ∧ Kept [] u5 U) ((HIX.out _ j5).mono (fun e w' hh => ⟨_, hh.1, rfl, hh.2⟩)) ?_
            rintro _ u6 ⟨rfl, J6⟩
            have j6 := j5.trans J6
            have f6 := f5.kept J6 (by simp)
            try simp only [Act.put, List.setIfInBounds_toArray, List.set_cons_zero, List.set_cons_succ]
            refine hK.out _ _ (f6) (fun hS => ?_)
            clear hK K
            refine wpAnyH_take (i := 8) (oi := { dst := some 53, op := Op.binOp BinOp.neq 3 (Operand.tmp 51) (Operand.tmp 52) 3, type := 4, pos := "law.go:195", after := #[{ on := 6, ground := Ground.data }, { on := 7, ground := Ground.data }, { on := 3, ground := Ground.guard }], guard := some (3, false) }) (v := Value.bool false) rfl (by kernel_rfl) (by kernel_rfl) (by kernel_rfl) (fun _ _ _ h => h) (Or.inl ⟨rfl, fun _ _ => by go_simp⟩) hS ?_
            try simp only [Act.put, List.setIfInBounds_toArray, List.set_cons_zero, List.set_cons_succ]
            refine wpAnyH_take (i := 9) (oi := { dst := some 54, op := Op.pick (Operand.tmp 48) (Operand.const (Value.bool true)) (Operand.tmp 53), type := 4, pos := "law.go:195", after := #[{ on := 3, ground := Ground.data }, { on := 8, ground := Ground.data }], guard := none }) (v := Value.bool false) rfl (by kernel_rfl) (by kernel_rfl) (by kernel_rfl) (fun _ _ _ h => h) (Or.inl ⟨rfl, fun _ _ => by kernel_rfl⟩) hS ?_
            try simp only [Act.put, List.setIfInBounds_toArray, List.set_cons_zero, List.set_cons_succ]
            refine wpAnyH_take (i := 10) (oi := { dst := some 55, op := Op.move (Operand.tmp 54), type := 4, pos := "law.go:195", after := #[{ on := 9, ground := Ground.data }, { on := 6, ground := Ground.chain }], guard := none }) (v := Value.bool false) rfl (by kernel_rfl) (by kernel_rfl) (by kernel_rfl) (fun _ _ _ h => h) (Or.inl ⟨rfl, fun _ _ => by kernel_rfl⟩) hS ?_
            try simp only [Act.put, List.setIfInBounds_toArray, List.set_cons_zero, List.set_cons_succ]
            refine wpAnyH_take (i := 11) (oi := { dst := some 56, op := Op.move (Operand.tmp 8), type := 38, pos := "law.go:195", after := #[{ on := 10, ground := Ground.guard }], guard := some (10, false) }) (v := Value.pointer (some ⟨a, 0, none⟩)) rfl (by kernel_rfl) (by kernel_rfl) (by kernel_rfl) (fun _ _ _ h => h) (Or.inl ⟨rfl, fun _ _ => by kernel_rfl⟩) hS ?_
            try simp only [Act.put, List.setIfInBounds_toArray, List.set_cons_zero, List.set_cons_succ]
            refine wpAnyH_take (i := 13) (oi := { dst := some 58, op := Op.move (Operand.tmp 7), type := 3, pos := "law.go:195", after := #[{ on := 10, ground := Ground.guard }], guard := some (10, false) }) (v := Value.int .i64 Wn) rfl (by kernel_rfl) (by kernel_rfl) (by kernel_rfl) (fun _ _ _ h => h) (Or.inl ⟨rfl, fun _ _ => by kernel_rfl⟩) hS ?_
            try simp only [Act.put, List.setIfInBounds_toArray, List.set_cons_zero, List.set_cons_succ]
            refine wpAnyH_take (i := 14) (oi := { dst := some 59, op := Op.fieldAddr 23 (Operand.tmp 2) 2, type := 0, pos := "law.go:195", after := #[{ on := 10, ground := Ground.guard }], guard := some (10, false) }) (v := Value.pointer (some ⟨q, 2, none⟩)) rfl (by kernel_rfl) (by kernel_rfl) (by kernel_rfl) (fun _ _ _ h => h) (Or.inl ⟨rfl, fun _ _ => by kernel_rfl⟩) hS ?_
            try simp only [Act.put, List.setIfInBounds_toArray, List.set_cons_zero, List.set_cons_succ]
            refine wpAnyH_take (i := 15) (oi := { dst := some 60, op := Op.load 3 (Operand.tmp 59), type := 3, pos := "law.go:195", after := #[{ on := 14, ground := Ground.data }, { on := 10, ground := Ground.guard }], guard := some (10, false) }) (v := Value.int .i64 c.c) rfl (by kernel_rfl) (by kernel_rfl) (by kernel_rfl) (fun _ _ _ h => h) (Or.inl ⟨rfl, fun w hSw => by have z := cell_of_blk hSw (i := 2) (v := .int .i64 c.c) rfl; go_simp⟩) hS ?_
            try simp only [Act.put, List.setIfInBounds_toArray, List.set_cons_zero, List.set_cons_succ]
            refine wpAnyH_take (i := 16) (oi := { dst := some 61, op := Op.binOp BinOp.rem 3 (Operand.tmp 58) (Operand.tmp 60) 3, type := 3, pos := "law.go:195", after := #[{ on := 13, ground := Ground.data }, { on := 15, ground := Ground.data }, { on := 10, ground := Ground.guard }], guard := some (10, false) }) (v := Value.int .i64 (Wn % c.c)) rfl (by kernel_rfl) (by kernel_rfl) (by kernel_rfl) (fun _ _ _ h => h) (Or.inl ⟨rfl, fun _ _ => by go_simp; exact Int.tmod_eq_emod_of_nonneg wn0⟩) hS ?_
            try simp only [Act.put, List.setIfInBounds_toArray, List.set_cons_zero, List.set_cons_succ]
            refine wpAnyH_take (i := 17) (oi := { dst := some 62, op := Op.binOp BinOp.add 3 (Operand.tmp 61) (Operand.const (Value.int IntKind.i64 1)) 3, type := 3, pos := "law.go:195", after := #[{ on := 16, ground := Ground.data }, { on := 10, ground := Ground.guard }], guard := some (10, false) }) (v := Value.int .i64 NX) rfl (by kernel_rfl) (by kernel_rfl) (by kernel_rfl) (fun _ _ _ h => h) (Or.inl ⟨rfl, fun _ _ => by go_simp; exact HNW.out⟩) hS ?_
            try simp only [Act.put, List.setIfInBounds_toArray, List.set_cons_zero, List.set_cons_succ]
            refine wpAnyH_ready (rs := [12]) (by kernel_rfl) (by simp) ?_
            refine AllReadyH.cons (o := { dst := some 57, op := Op.call { callee := Callee.value (Operand.func 18), args := #[Operand.tmp 56], argTypes := #[38] }, type := 3, pos := "law.go:195", after := #[{ on := 11, ground := Ground.data }, { on := 10, ground := Ground.chain }, { on := 10, ground := Ground.guard }], guard := some (10, false) }) rfl (fun K hK => ?_) AllReadyH.nil
            rw [if_pos (by rfl)]
            refine wp_calls 18 #[.pointer (some ⟨a, 0, none⟩)] (by kernel_rfl) (fun v U => v = .int .i64 NX ∧ Kept [] u6 U) ((HNX.out _ j6).mono (fun e w' hh => ⟨_, hh.1, rfl, hh.2⟩)) ?_
            rintro _ u12 ⟨rfl, J12⟩
            have j12 := j6.trans J12
            have f12 := f6.kept J12 (by simp)
            try simp only [Act.put, List.setIfInBounds_toArray, List.set_cons_zero, List.set_cons_succ]
            refine hK.out _ _ (f12) (fun hS => ?_)
            clear hK K
            refine wpAnyH_take (i := 18) (oi := { dst := some 63, op := Op.binOp BinOp.neq 3 (Operand.tmp 57) (Operand.tmp 62) 3, type := 4, pos := "law.go:195", after := #[{ on := 12, ground := Ground.data }, { on := 17, ground := Ground.data }, { on := 10, ground := Ground.guard }], guard := some (10, false) }) (v := Value.bool false) rfl (by kernel_rfl) (by kernel_rfl) (by kernel_rfl) (fun _ _ _ h => h) (Or.inl ⟨rfl, fun _ _ => by go_simp⟩) hS ?_
            try simp only [Act.put, List.setIfInBounds_toArray, List.set_cons_zero, List.set_cons_succ]
            refine wpAnyH_take (i := 19) (oi := { dst := some 64, op := Op.pick (Operand.tmp 55) (Operand.const (Value.bool true)) (Operand.tmp 63), type := 4, pos := "law.go:195", after := #[{ on := 10, ground := Ground.data }, { on := 18, ground := Ground.data }], guard := none }) (v := Value.bool false) rfl (by kernel_rfl) (by kernel_rfl) (by kernel_rfl) (fun _ _ _ h => h) (Or.inl ⟨rfl, fun _ _ => by kernel_rfl⟩) hS ?_
            try simp only [Act.put, List.setIfInBounds_toArray, List.set_cons_zero, List.set_cons_succ]
            refine wpAnyH_done (by kernel_rfl) ?_ _
            have KF := j12
            have NN := hidOf (HNX.out _ KF)
            clear hS HDN HGT HNX HIX f1 f5 f6 f12
            go_wp2_with fail
            refine NN.out.mono ?_
            rintro e w9 ⟨rfl, K9⟩
            have FY := hidOf (FN.out _ (KF.trans K9))
            clear FN NN
            go_wp2
            go_roundw
            case rel => exact ⟨j + 1, NX, NX, _, _, _, by omega, rfl, rfl, by go_num, by omega, by omega, FY.out⟩
            case measure => simp [intOf]; omega
          · have hje : (j : Int) = c.c := by omega
            rw [hje] at HR
            go_wp2_with fail
            refine (knew_any f1 _).mono ?_
            rintro e w3 ⟨a, rfl, ha, A, K3⟩
            have aw : w.heap.size ≤ a := by have := K.size; omega
            have cbl := CB.lt
            have aq : ¬ q = a := by omega
            have F2 : Hid (Mm w3 m p r c cs cnt x ∧ RW 23 w3 q #[.int .i64 c.t, .int .i64 c.s, .int .i64 c.c, .int .i64 c.h, .int .i64 c.k, .int .i64 c.e, .int .i64 c.l] ∧ Kept [] w w3 ∧ KS w3 a ⟨0, f1, 0, 0, 0, 0, f1⟩) := ⟨HM.out.new K3, CB.kept K3 (by simp), K.trans K3, A⟩
            clear HM CB K A K3
            have q2 := cell_of_blk F2.out.2.1 (i := 2) (v := .int .i64 c.c) rfl
            go_wp2
            go_loopw [75] (fun i wr => ∃ (l : Nat) (s : Ks) (cnt : Int) (x : Acc), (l : Int) ≤ c.c ∧ i = .int .i64 l ∧ 0 ≤ cnt ∧ cnt ≤ 200 + l ∧ Mm wr m p r c cs cnt x ∧ KS wr a s ∧ Kept [] w wr ∧ Hid (LI c f1 l s)) (fun i _ => (c.c - intOf i).toNat)
            case atStart => exact ⟨0, _, cnt, x, by omega, rfl, c0, by omega, F2.out.1, F2.out.2.2.2, F2.out.2.2.1, LI.start c f1⟩
            case round =>
              clear F2
              obtain ⟨l, s, cnt, x, hl, rfl, c0, c1, M, A, K, HL⟩ := hrel
              have HM := hidOf M
              have HA := hidOf A
              clear M A
              by_cases hlt : (l : Int) < c.c
              · have ST := hidOf (step_any a m p r c cs cnt x s _ HA.out HM.out (HT.out.kept K) HL.out.ki HR.out.1.wd n0 n64 (by omega) (by omega))
                have LS := hidOf (LI.step n0 HR.out.1 HL.out (by omega) hlt)
                have nb := stN_bd cnt s
                rw [LS.out.2] at ST
                go_wp2_with fail
                refine ST.out.mono ?_
                rintro e w4 ⟨rfl, A9, M9, K9⟩
                obtain ⟨na1, na2, na3⟩ := A9.nm M9
                replace K := K.then K9 (by simp; omega)
                clear ST HM HA K9
                have HM := hidOf M9
                have HA := hidOf A9
                clear M9 A9
                go_wp2
                go_roundw
                case rel => exact ⟨l + 1, _, _, _, by omega, by go_num, by omega, by omega, HM.out, HA.out, K, LS.out.1⟩
                case measure => simp [intOf]; omega
              · have d3 : s.ph = 3 := HL.out.p3 (by omega) (by omega)
                have AL := hidOf (alive_any _ (HT.out.kept K))
                go_wp2_with fail
                refine AL.out.mono ?_
                rintro e w6 ⟨rfl, K6⟩
                have DA := hidOf (kdone_any a _ w6 (HA.out.kept K6 (by simp)))
                have GA := hidOf (kgot_any a _ w6 (HA.out.kept K6 (by simp)))
                have NA := hidOf (knext_any a _ w6 (HA.out.kept K6 (by simp)))
                rw [d3] at DA
                rw [HL.out.gt] at GA
                rw [HL.out.nx] at NA
                clear AL HA HM d3
                go_wp2_with (first
                  | (go_at_call 16; refine DA.out.mono ?_; rintro e w9 ⟨rfl, rfl⟩)
                  | (go_at_call 17; refine GA.out.mono ?_; rintro e w9 ⟨rfl, rfl⟩)
                  | (go_at_call 18; refine NA.out.mono ?_; rintro e w9 ⟨rfl, rfl⟩))
                go_ret
                exact ⟨rfl, K.trans K6⟩
  · have hrf : riB c = false := by simpa using hri
    go_enter Tryd.func8, Tryd.ntmps8
    go_upto_region 1 with (fail)
    rw [← hq]
    refine gen_world (fun W => RW 23 W q #[.int .i64 c.t, .int .i64 c.s, .int .i64 c.c, .int .i64 c.h, .int .i64 c.k, .int .i64 c.e, .int .i64 c.l] ∧ Kept [] w W) BX.out ?_
    have hqw : w.heap.size ≤ q := by omega
    clear BX hq
    rintro W ⟨CB, K0⟩
    have szb := CB.lt
    have OF := hidOf (mnew_wrong c W hrf)
    go_wp2_with (first | ((with_reducible change wpList _ _ _ (Oper.mk _ (Op.load 23 _) _ _ _ _ :: _) _ _); refine wpList_load_rw 23 isT_cf rfl (.tmp 2) rfl q rfl #[.int .i64 c.t, .int .i64 c.s, .int .i64 c.c, .int .i64 c.h, .int .i64 c.k, .int .i64 c.e, .int .i64 c.l] rfl CB ?_))
    refine OF.out.mono ?_
    rintro e w1 ⟨rfl, K1⟩
    have CB1 := CB.kept K1 (by simp)
    have K2 := K0.trans K1
    have sz0 := K0.size
    clear OF CB
    have AL := hidOf (alive_any _ (HT.out.kept K2))
    go_wp2_with fail
    refine AL.out.mono ?_
    rintro e WA ⟨rfl, KA⟩
    go_wp2
    go_ret
    exact ⟨rfl, K2.trans KA⟩

set_option maxRecDepth 100000 in
theorem claimRound_lifted (os : Os) (started : os.Started) (H : Type) (enc : TypeId × Value → H) :
    ReturnsInHanded {} Tryd.checked os 8 .any (fun w args => (Rows.claimRoundSpec.pre enc Tryd.prog Tryd.f8 [] false w args ∧ laidMetH Tryd.prog laid1 w) ∧ sizedMet enc Tryd.prog Tryd.f8 (OpenSpec.ofChange Rows.claimRoundSpec) false w args)
      (Rows.claimRoundSpec.post enc Tryd.prog Tryd.f8 false true false false) := by
  refine returnsInHanded_of_change_and (C := Tryd.checked) (X := fun w _ => laidMetH Tryd.prog laid1 w) (fun _ _ _ hh h => h.of_heap hh) own started (by kernel_rfl) Tryd.func8
    (ChangeSpec.witness_shaped (enc := enc) (C := Tryd.checked) (os := os) (X := fun w _ => laidMetH Tryd.prog laid1 w) false (World.doorLaid Tryd.prog 400 os) #[.agg #[.int .i64 0, .int .i64 0, .int .i64 0, .int .i64 0, .int .i64 0, .int .i64 0, .int .i64 0], .int .i64 0] 8 rfl (World.shaped_of_RefB (by kernel_rfl) (by kernel_rfl)) (by kernel_rfl) (by kernel_rfl) (by kernel_rfl) (door_met os _)) ?_
  intro W base args ds gs before hval0 hW _ _ hL _
  have hval : ∀ (j : Nat) t v, Tryd.f8.params[j]? = some t → args[j]? = some v → Value.okWide Tryd.prog W .any base t v := hval0
  have hW' := hW
  obtain ⟨p, q, hA0, hV, rfl, _, _⟩ := hW
  have hA : DataW.TrodAll enc Tryd.prog W 0 (fun _ => true) true Tryd.f8.params.toList args.toList ds p := hA0
  rw [Tryd.params8] at hA hval
  clear hA0 hval0
  obtain ⟨v0, vs0, d0, ds0, p0, q0, hargs, rfl, rfl, h0, r0⟩ := trodAll_cons hA
  obtain ⟨v1, vs1, d1, ds1, p1, q1, rfl, rfl, rfl, h1, r1⟩ := trodAll_cons r0
  obtain ⟨rfl, rfl, rfl⟩ := trodAll_nil r1
  obtain rfl : args = #[v0, v1] := by cases args; simp_all
  obtain ⟨rfl, rfl⟩ := trodVars_none hV
  have k0 := h0
  have k1 := h1
  simp only [List.append_nil] at hW'
  have hlt0 : ∀ x ∈ p0, x.block < W.heap.size := fun x hx => hW'.lt x (by simp [hx])
  have hlt1 : ∀ x ∈ p1, x.block < W.heap.size := fun x hx => hW'.lt x (by simp [hx])
  obtain ⟨c0, rfl, g0⟩ := open_cfg (hval 0 23 v0 rfl rfl) h0
  obtain ⟨a1, rfl, rfl, rfl, w1⟩ := open_int Tryd.underlying3 (hval 1 3 v1 rfl rfl) h1
  refine (claimRound_walk W c0 g0 a1 w1 (tab_of_laid hL)).mono fun e W' ⟨he, hg⟩ => ?_
  subst he
  have hb := hg.below (by simp)
  exact ⟨_, rfl, _, _, _, [], _, [], hW', (trodAll_cons_mk (shut_bool Tryd.underlying4 _) trodAll_mk0), (trodAll_cons_mk (Below.trod laidOut (by kernel_rfl) (of_decide_eq_true (by kernel_rfl)) k0 hb hlt0) (trodAll_cons_mk (Below.trod laidOut (by kernel_rfl) (of_decide_eq_true (by kernel_rfl)) k1 hb hlt1) trodAll_mk0)), rfl, hb.frame _, fun h => by cases h⟩

theorem claimRound_over : Rows.ClaimRoundSaid :=
  OpenClaim.holds_of_wide 8 Tryd.f8 rfl rfl rfl rfl rfl rfl rfl ⟨rfl, rfl, rfl, rfl, rfl⟩ rfl rfl rfl rfl rfl (by kernel_rfl) Tryd.func8 (by kernel_rfl)
    (of_decide_eq_true (by kernel_rfl)) (by unfold Func.isWrapper; first | (rw [if_pos (by decide +kernel)]; kernel_rfl) | (rw [if_neg (by decide +kernel)]; exact ⟨rfl, rfl⟩))
    (fun os started H enc _ => claimRound_lifted os started H enc)

theorem claimRound_holds : Rows.ClaimRoundCardSaid :=
  Claim7.holds_tied_plain_at .later [] [.data] true (true, "16d24a33fc2aa0e14e1eec150c167cb59402c41f178cda57adfd34c93caf4e6b") false
    claimRound_over (fun _ h => by cases h) (by kernel_rfl) (fun _ h => by cases h) claimRound_row_tie rfl ⟨rfl, rfl⟩ (by kernel_rfl) rfl
    (fun f fn hf hfn => by
      obtain rfl : f = 8 := Option.some.inj ((show Tryd.prog.funcNamed "stepstone/stepstonelaw09.ClaimRound" = some 8 by kernel_rfl).symm.trans hf) |>.symm
      obtain rfl : fn = Tryd.f8 := (Option.some.inj (Tryd.func8.symm.trans hfn)).symm
      exact ⟨by kernel_rfl, fun j t ht => by
          rw [Tryd.params8] at ht
          rcases j with _ | j
          · have : t = 23 := by simpa using ht.symm
            subst this; exact (show Tryd.prog.wantsStandIn 23 = false by kernel_rfl)
          rcases j with _ | j
          · have : t = 3 := by simpa using ht.symm
            subst this; exact (show Tryd.prog.wantsStandIn 3 = false by kernel_rfl)
          simp at ht⟩)
    (by kernel_rfl)
#print axioms claimRound_holds
end Go.Proofs.YtmmpafhfanldbaaDoor
