/-
  Alone a help ends, in two steps a level and one; each level of the node has the mark then, and names what it named; nothing else is changed.
  Conditions: the package variable of handle that the code reads starts as the program's text lays it (the card ties it to that text).
-/
import Derived.Test.YtjbdaejkofkcpaaDoorJAlive
import Derived.Test.YtjbdaejkofkcpaaDoorHLaid
import Derived.Test.YtjbdaejkofkcpaaDoorPArgs
import Derived.Deep.CutRange
import Derived.ProofKit
import Derived.SizedLaws
import Derived.Carry
namespace Go.Proofs.YtjbdaejkofkcpaaDoor
open Go.ChangeShapes Go.WideShapes Go.ChangeAt Go.RowKit
open Go.Deep
open Go.Proofs.YtjbdaejkofkcpaaDoor.K
set_option maxRecDepth 100000

theorem fin_at {c : Cfg} {T X : Int} {os ds : List Int} {s : Hm} (E : En c T X os) (h : HU c T X ds s) (h3 : s.ph = 3) (I : CI c T X os ds) {k : Nat} (hk : k < os.length) :
    (∃ f, whV c k = ⟨3, X, f⟩ ∧ 6 ≤ f ∧ f < 6 + T ∧ ds.getD k 0 = markV (os.getD k 0)) ∨ (ds.getD k 0 = os.getD k 0 ∧ ¬ ((whV c k).k = 3 ∧ (whV c k).a = X ∧ 6 ≤ (whV c k).b ∧ (whV c k).b < 6 + T)) := by
  have e1 : rdG ds (k : Int) = ds.getD k 0 := by rw [rdG_eq, if_pos (by unfold hasC; have := I.ln; omega)]; rfl
  have e2 : rdG os (k : Int) = os.getD k 0 := by rw [rdG_eq, if_pos (by unfold hasC; omega)]; rfl
  rcases CI.fin h h3 I (k : Int) with ⟨⟨L, l0, l1, eL⟩, e⟩ | ⟨no, e⟩
  · have hf := E.has l0 l1
    have ec : clV' c X (6 + L) = 1 + c.t * c.s + X * (6 + c.h) + (6 + L) := if_pos hf
    refine Or.inl ⟨6 + L, ?_, by omega, by omega, by rw [← e1, ← e2]; exact e⟩
    rw [eL, ec]; exact (fld_wh hf).1
  · refine Or.inr ⟨by rw [← e1, ← e2]; exact e, ?_⟩
    rintro ⟨a, b, d0, d1⟩
    obtain ⟨hf, ek⟩ := wh_fld a
    rw [b] at hf ek
    have ec : clV' c X (whV c k).b = 1 + c.t * c.s + X * (6 + c.h) + (whV c k).b := if_pos hf
    exact no ⟨(whV c k).b - 6, by omega, by omega, by rw [show 6 + ((whV c k).b - 6) = (whV c k).b by omega, ec]; exact ek⟩
set_option maxRecDepth 100000 in
set_option maxHeartbeats 8000000 in
theorem helpAlone_walk (w : World) (c : Cfg) (_g : c.wf) (ao : Option Addr) (xs : List Int) (cap : Nat) (hs : Sl w ao xs) (hg : ∀ x ∈ xs, isWord x) (hc : ao = none → cap = 0) (h : Int) (hh : (Lit.int .u64 h).wf = true) (hT : Tab w) :
    Calls Tryd.prog 4 #[c.val, .slice ao xs.length cap, .int .u64 h] w fun e w' => e = .returned (.bool true) ∧ Kept [] w w' := by
  have hb := bounds_u64 hh
  have wh : isW h := by unfold isW; omega
  clear hh
  simp only [Cfg.val]
  obtain ⟨n, hn⟩ : ∃ n, n = xs.length := ⟨_, rfl⟩
  rw [← hn]
  have HN := hidOf hn
  have HS := hidOf hs
  have HC := hidOf hc
  have HW := hidOf (wds_of hg)
  have HT := hidOf hT
  clear hn hs hc hg hT
  obtain ⟨q, hq⟩ : ∃ q, q = w.heap.size := ⟨_, rfl⟩
  have BX : Hid (RW 23 (w.alloc (.cells #[.int .i64 c.t, .int .i64 c.s, .int .i64 c.c, .int .i64 c.h, .int .i64 c.k, .int .i64 c.e, .int .i64 c.l] 23)) q #[.int .i64 c.t, .int .i64 c.s, .int .i64 c.c, .int .i64 c.h, .int .i64 c.k, .int .i64 c.e, .int .i64 c.l] ∧ Kept [] w (w.alloc (.cells #[.int .i64 c.t, .int .i64 c.s, .int .i64 c.c, .int .i64 c.h, .int .i64 c.k, .int .i64 c.e, .int .i64 c.l] 23))) := by rw [hq]; exact ⟨RW.new _ _ _, (Kept.refl [] w).alloc _⟩
  by_cases hW : IsW c n
  · have HI := hidOf hW
    have n4 := hW.2.2
    clear hW
    have hpos : 0 < xs.length := by have := HI.out.2.1; have := HN.out; have := cf_bd (riB_true.1 HI.out.1); have := ts_bd (riB_true.1 HI.out.1); have := ln_yes HI.out.1; omega
    obtain ⟨b0, o0, eao, -, -⟩ := HS.out.cell hpos
    subst eao
    have CL : Hid (∀ Y : World, Kept [] w Y → ∀ k, k < n → Y.cell? ⟨b0, o0 + k, none⟩ = some (.int .u64 (xs.getD k 0)) ∧ b0 < Y.heap.size) := hidOf (by
      intro Y k i hi
      obtain ⟨b, o, e, l, z⟩ := (HS.out.new k).cell (i := i) (by rw [← HN.out]; exact hi)
      cases e
      exact ⟨z, l⟩)
    clear hpos
    go_enter Tryd.func4, Tryd.ntmps4
    go_upto_region 1 with (fail)
    rw [← hq]
    refine gen_world (fun W => RW 23 W q #[.int .i64 c.t, .int .i64 c.s, .int .i64 c.c, .int .i64 c.h, .int .i64 c.k, .int .i64 c.e, .int .i64 c.l] ∧ Kept [] w W) BX.out ?_
    have hqw : w.heap.size ≤ q := by omega
    clear BX hq
    rintro W ⟨CB, K0⟩
    have HX := hidOf (And.intro CB K0)
    clear CB K0
    have OF := hidOf (kof_yes c (some ⟨b0, o0, none⟩) xs n cap W HI.out HN.out (HS.out.new HX.out.2) HC.out)
    go_wp2_with (first | ((with_reducible change wpList _ _ _ (Oper.mk _ (Op.load 23 (Operand.tmp 3)) _ _ _ _ :: _) _ _); refine wpList_load_rw 23 isT_cf rfl (.tmp 3) rfl q rfl #[.int .i64 c.t, .int .i64 c.s, .int .i64 c.c, .int .i64 c.h, .int .i64 c.k, .int .i64 c.e, .int .i64 c.l] rfl HX.out.1 ?_))
    refine OF.out.mono ?_
    rintro e w1 ⟨m, p, r, g, c', rfl, ⟨a1, a2, a3, a4, a5⟩, M, R, K1⟩
    have HX1 := hidOf (And.intro (HX.out.1.kept K1 (by simp)) (show Jm w w1 m p r c xs 0 Acc.zero from ⟨M, HX.out.2.trans K1, HT.out, by have := HX.out.2.size; omega, by have := HX.out.2.size; omega, by have := HX.out.2.size; omega, riB_true.1 HI.out.1, HW.out, Int.le_refl _⟩))
    clear M R K1 OF HX a1 a2 a3 a4 a5
    go_upto_region 2 with (first | ((with_reducible change wpList _ _ _ (Oper.mk _ (Op.store 35 (Operand.tmp 8) _) _ _ _ _ :: _) _ _); refine wpList_store_rw 35 isT_rm rfl (.tmp 8) (.tmp 23) rfl w1.heap.size (rmA c (some ⟨g, 0, none⟩) n c' 0 Acc.zero) rfl rfl rfl (rm_one _ _ _ _ _ _) rmZ (RW.new 35 w1 rmZ) rfl ?_))
    refine gen_world (fun V => RW 23 V q #[.int .i64 c.t, .int .i64 c.s, .int .i64 c.c, .int .i64 c.h, .int .i64 c.k, .int .i64 c.e, .int .i64 c.l] ∧ Jm w V m p r c xs 0 Acc.zero) ?_ ?_
    · have KV : Kept [] w1 ((w1.alloc (.cells rmZ 35)).setRow w1.heap.size (rmA c (some ⟨g, 0, none⟩) n c' 0 Acc.zero)) := ((Kept.refl [] w1).alloc _).setRow (Or.inr (Nat.le_refl _)) _
      exact ⟨HX1.out.1.kept KV (by simp), HX1.out.2.new KV⟩
    clear HX1
    rintro V ⟨CB, J⟩
    have HX := hidOf (And.intro CB J)
    clear CB J
    go_wp2_with fail
    refine (hnew_any h _).mono ?_
    rintro e w2 ⟨b1, rfl, hb1, B1, K2⟩
    have HY := hidOf (And.intro (HX.out.1.kept K2 (by simp)) (And.intro (HX.out.2.new K2) (And.intro B1 (show w.heap.size ≤ b1 by have := HX.out.2.kp.size; omega))))
    clear hb1 B1 K2 HX
    have HX := HY
    clear HY
    have IX := hidOf (index_any h w2 HX.out.2.1.tab wh.1 wh.2)
    have hX0 : 0 ≤ ixV h := by unfold ixV; omega
    obtain ⟨X, hX⟩ : ∃ X, X = ixV h := ⟨_, rfl⟩
    rw [← hX] at IX hX0
    have HXX := hidOf hX
    clear hX
    go_wp2_with fail
    refine IX.out.mono ?_
    rintro e w3 ⟨rfl, K3⟩
    have HY := hidOf (And.intro (HX.out.1.kept K3 (by simp)) (And.intro (HX.out.2.1.new K3) (And.intro (HX.out.2.2.1.kept K3 (by simp)) HX.out.2.2.2)))
    clear K3 HX IX
    have HX := HY
    clear HY
    have y2 := cell_of_blk HX.out.1 (i := 2) (v := .int .i64 c.c) rfl
    by_cases hcx : c.c < X
    · go_wp2_with fail
      have AL := hidOf (alive_any _ (HT.out.kept HX.out.2.1.kp))
      go_wp2_with fail
      refine AL.out.mono ?_
      rintro e WA ⟨rfl, KA⟩
      have KF := hidOf ((HX.out.2.1.kp).trans KA)
      clear KA
      go_wp2
      go_ret
      exact ⟨rfl, KF.out⟩
    · have HE := hidOf (En.of (i := X) HI.out.1 (by rw [← HN.out]; exact HI.out.2.1) hX0 (by omega : X ≤ c.c))
      obtain ⟨T, hT2⟩ : ∃ T, T = tlV c (fd c xs X 4) + 1 := ⟨_, rfl⟩
      rw [← hT2] at HE
      clear hT2
      obtain ⟨K4, hK4, lK4⟩ := cell_at (c := c) (i := X) (f := 4) HE.out.in4
      have nL : n = lnN c := by have := HI.out.2.1; have := lnN_eq c; omega
      have e4 : xs.getD K4 0 = fd c xs X 4 := by unfold fd; rw [hK4, rdG_eq, if_pos (by unfold hasC; have := HN.out; omega)]; rfl
      have hT4 := HE.out.tl
      have RR := riB_true.1 HI.out.1
      obtain ⟨V4, hV4⟩ : ∃ V, V = fd c xs X 4 := ⟨_, rfl⟩
      rw [← hV4] at hT4
      have SX : Hid (∀ W' : World, Kept [] w3 W' → (W'.cell? ⟨q, 0, none⟩ = some (.int .i64 c.t) ∧ W'.cell? ⟨q, 1, none⟩ = some (.int .i64 c.s) ∧ W'.cell? ⟨q, 2, none⟩ = some (.int .i64 c.c) ∧ W'.cell? ⟨q, 3, none⟩ = some (.int .i64 c.h) ∧ W'.cell? ⟨q, 4, none⟩ = some (.int .i64 c.k) ∧ W'.cell? ⟨q, 5, none⟩ = some (.int .i64 c.e) ∧ W'.cell? ⟨q, 6, none⟩ = some (.int .i64 c.l)) ∧ W'.cell? ⟨b0, o0 + K4, none⟩ = some (.int .u64 V4)) := hidOf (by
        intro W' kk
        have y := HX.out.1.kept kk (by simp)
        have z := (CL.out W' (HX.out.2.1.kp.trans kk) K4 (by omega)).1
        rw [e4, ← hV4] at z
        exact ⟨⟨cell_of_blk y (i := 0) rfl, cell_of_blk y (i := 1) rfl, cell_of_blk y (i := 2) rfl, cell_of_blk y (i := 3) rfl, cell_of_blk y (i := 4) rfl, cell_of_blk y (i := 5) rfl, cell_of_blk y (i := 6) rfl⟩, z⟩)
      have CE := hidOf (fun (Y : World) (k : Kept [] w3 Y) => (cell_is hK4 Y).mono fun _ _ z => And.intro z.1 (k.trans z.2))
      have hK : (K4 : Int) < n := by omega
      have HTV := hidOf (tl_val RR hT4)
      clear e4 hV4 lK4 nL hK4 RR hT4
      clear y2
      have y2 := cell_of_blk HX.out.1 (i := 2) (v := .int .i64 c.c) rfl
      go_wp2_with fail
      go_region_held3 (fun W' => (W'.cell? ⟨q, 0, none⟩ = some (.int .i64 c.t) ∧ W'.cell? ⟨q, 1, none⟩ = some (.int .i64 c.s) ∧ W'.cell? ⟨q, 2, none⟩ = some (.int .i64 c.c) ∧ W'.cell? ⟨q, 3, none⟩ = some (.int .i64 c.h) ∧ W'.cell? ⟨q, 4, none⟩ = some (.int .i64 c.k) ∧ W'.cell? ⟨q, 5, none⟩ = some (.int .i64 c.e) ∧ W'.cell? ⟨q, 6, none⟩ = some (.int .i64 c.l)) ∧ W'.cell? ⟨b0, o0 + K4, none⟩ = some (.int .u64 V4))
        (exact SX.out _ (by first | assumption | exact (Kept.refl _ _).drew | exact Kept.refl _ _))
        (first
          | (go_at_call 18; with_reducible refine (CE.out _ (by first | assumption | exact (Kept.refl _ _).drew)).mono ?_; rintro e w4 ⟨rfl, K4'⟩))
      rw [HTV.out]
      generalize (if V4 < 1 then (1 : Int) else V4) = M1
      generalize (if IntKind.u64.wrap c.h < M1 then IntKind.u64.wrap c.h else M1) = M2
      have HY := hidOf (And.intro (HX.out.1.kept K4' (by simp)) (And.intro (HX.out.2.1.new K4') (And.intro (HX.out.2.2.1.kept K4' (by simp)) HX.out.2.2.2)))
      clear K4' SX CE HTV HX y2
      have HX := HY
      clear HY
      have EA := hidOf (ends_any w _ b1 m p r c ⟨h, 0, 0, 0⟩ xs 0 Acc.zero 100 HX.out.2.1 HX.out.2.2.1 HX.out.2.2.2 (Go.Proofs.YtjbdaejkofkcpaaDoor.K.HI.start wh) (by omega) (by omega))
      go_wp2_with fail
      refine EA.out.mono ?_
      rintro e w6 ⟨n1, rfl, e1, -, Z⟩
      have HU0 : HU c T X xs ⟨h, 0, 0, 0⟩ := by rw [HXX.out]; exact Go.Proofs.YtjbdaejkofkcpaaDoor.K.HU.start c T xs h
      have CI0 := (hx_ci HE.out HU0 (CI.refl c T X xs) (Go.Proofs.YtjbdaejkofkcpaaDoor.K.HS.start c X xs h) n1).1
      obtain ⟨t1, ds, et, t3, mb, -, E1, U1, ⟨a1, J1⟩, B1, dl⟩ := Z.fin HE.out HU0 e1
      rw [et] at CI0
      have HF := hidOf (fun (k : Nat) (hk : k < xs.length) => fin_at HE.out U1 t3 CI0 hk)
      have n13 : (n1 : Int) ≤ 2 * T + 1 := mb
      have HY := hidOf (And.intro (cf_far HX.out.1 HX.out.2.2.1 HX.out.2.1.mm Z.kp) (And.intro J1 (And.intro B1 t3)))
      have HDL : Hid (ds.length = n) := hidOf (by rw [HN.out]; exact dl)
      clear HX EA Z e1 HU0 E1 U1 J1 dl t3 mb CI0 B1 et
      go_wp2_with fail
      refine HY.out.2.1.bank.mono ?_
      rintro e w7 ⟨rfl, rfl⟩
      go_wp2_with fail
      refine HY.out.2.1.cells.mono ?_
      rintro e w8 ⟨qs, rfl, hqs, QS, K8⟩
      have HZ := hidOf (And.intro (HY.out.2.1.new K8) (And.intro (HY.out.1.kept K8 (by simp)) (And.intro QS (And.intro (HY.out.2.2.1.kept K8 (by simp)) HY.out.2.2.2))))
      clear HY K8 QS hqs
      rw [HDL.out]
      have t0 := HE.out.t0
      have t6 : T ≤ 6 := by have := HE.out.t1; have := (riB_true.1 HI.out.1).h1; omega
      have w6 : RowKit.wrap64 (6 + T) = 6 + T := wrap_id (by omega) (by omega)
      go_wp2
      go_loopw [65] (fun s65 wr => ∃ i : Nat, i ≤ n ∧ s65 = .int .i64 i ∧ Jm w wr m p r c ds (0 + n1) a1 ∧ RW 23 wr q #[.int .i64 c.t, .int .i64 c.s, .int .i64 c.c, .int .i64 c.h, .int .i64 c.k, .int .i64 c.e, .int .i64 c.l] ∧ Row wr qs ds ∧ HB wr b1 t1 ∧ t1.ph = 3) (fun s65 _ => n - (intOf s65).toNat)
      case atStart => exact ⟨0, by omega, by first | rfl | go_num, HZ.out⟩
      case round =>
        clear HZ
        obtain ⟨i, hi, rfl, Z⟩ := hrel
        have HZ := hidOf Z
        clear Z
        by_cases hlt : i < n
        · have hltz : (i : Int) < n := by omega
          have z2 := HZ.out.2.2.1.cell (i := i) (by rw [HDL.out]; exact hlt)
          have z4 := HZ.out.2.2.1.lt
          have FA := HF.out i (by rw [← HN.out]; exact hlt)
          have ev : ds[i]'(by rw [HDL.out]; exact hlt) = ds.getD i 0 := by rw [List.getD_eq_getElem?_getD, List.getElem?_eq_getElem (by rw [HDL.out]; exact hlt)]; rfl
          rw [ev] at z2
          clear ev
          obtain ⟨V, hV⟩ : ∃ V, V = ds.getD i 0 := ⟨_, rfl⟩
          obtain ⟨V0, hV0⟩ : ∃ V, V = xs.getD i 0 := ⟨_, rfl⟩
          have wV0 := wd_getD HW.out i
          rw [← hV] at z2 FA
          rw [← hV0] at FA wV0
          have HV0 := hidOf hV0
          clear hV hV0
          obtain ⟨⟨pk, pa, pb⟩, hP⟩ : ∃ P, whV c i = P := ⟨_, rfl⟩
          have WH := hidOf (fun (Y : World) => where_is hP Y)
          rw [hP] at FA
          clear hP
          have HFA : Hid ((⟨pk, pa, pb⟩ : Plc) = ⟨3, X, pb⟩ ∧ 6 ≤ pb ∧ pb < 6 + T ∧ V = markV V0 ∨ V = V0 ∧ ¬ (pk = 3 ∧ pa = X ∧ 6 ≤ pb ∧ pb < 6 + T)) := hidOf (by
            rcases FA with ⟨f, e, f0, f1, f2⟩ | FA
            · cases e
              exact Or.inl ⟨rfl, f0, f1, f2⟩
            · exact Or.inr FA)
          clear FA
          go_wp2_with (first | ((with_reducible change wpList _ _ _ (Oper.mk _ (Op.load 23 (Operand.tmp 3)) _ _ _ _ :: _) _ _); refine wpList_load_rw 23 isT_cf rfl (.tmp 3) rfl q rfl #[.int .i64 c.t, .int .i64 c.s, .int .i64 c.c, .int .i64 c.h, .int .i64 c.k, .int .i64 c.e, .int .i64 c.l] rfl HZ.out.2.1 ?_))
          refine (WH.out _).mono ?_
          rintro e w9 ⟨rfl, K9⟩
          obtain ⟨nb, hnb⟩ : ∃ nb, nb = w9.heap.size := ⟨_, rfl⟩
          go_upto_region 12 with (fail)
          rw [← hnb]
          refine gen_world (fun U => RW 56 U nb #[.int .i64 pk, .int .i64 pa, .int .i64 pb] ∧ Jm w U m p r c ds (0 + n1) a1 ∧ RW 23 U q #[.int .i64 c.t, .int .i64 c.s, .int .i64 c.c, .int .i64 c.h, .int .i64 c.k, .int .i64 c.e, .int .i64 c.l] ∧ Row U qs ds ∧ HB U b1 t1 ∧ t1.ph = 3) ?_ ?_
          · rw [hnb]
            have ka := (Kept.refl [] w9).alloc (.cells #[.int .i64 pk, .int .i64 pa, .int .i64 pb] 56)
            have kb := K9.trans ka
            exact ⟨RW.new _ _ _, HZ.out.1.new kb, HZ.out.2.1.kept kb (by simp), HZ.out.2.2.1.kept kb (by simp), HZ.out.2.2.2.1.kept kb (by simp), HZ.out.2.2.2.2⟩
          clear hnb HZ K9 z2 z4 WH
          rintro U ⟨PB, HU1⟩
          have HU2 := hidOf HU1
          clear HU1
          have p0 := cell_of_blk PB (i := 0) (v := .int .i64 pk) rfl
          have p1 := cell_of_blk PB (i := 1) (v := .int .i64 pa) rfl
          have p2 := cell_of_blk PB (i := 2) (v := .int .i64 pb) rfl
          have zc := (CL.out U HU2.out.1.kp i hlt).1
          rw [← HV0.out] at zc
          clear PB
          go_upto_region 13 with (fail)
          clear zc
          have MK := hidOf (mark_any V0 U HU2.out.1.tab wV0.1 wV0.2)
          rcases HFA.out with ⟨eP, f0, f1, f2⟩ | ⟨eV, no⟩
          · cases eP
            subst f2
            obtain ⟨M, hM⟩ : ∃ M, M = markV V0 := ⟨_, rfl⟩
            rw [← hM] at MK ⊢
            clear hM HFA
            go_wp2_with fail
            refine MK.out.mono ?_
            rintro e w10 ⟨rfl, K10⟩
            have HU3 : Hid (Jm w w10 m p r c ds (0 + n1) a1 ∧ RW 23 w10 q #[.int .i64 c.t, .int .i64 c.s, .int .i64 c.c, .int .i64 c.h, .int .i64 c.k, .int .i64 c.e, .int .i64 c.l] ∧ Row w10 qs ds ∧ HB w10 b1 t1 ∧ t1.ph = 3) := hidOf ⟨HU2.out.1.new K10, HU2.out.2.1.kept K10 (by simp), HU2.out.2.2.1.kept K10 (by simp), HU2.out.2.2.2.1.kept K10 (by simp), HU2.out.2.2.2.2⟩
            clear HU2 K10 MK p0 p1 p2
            go_wp2
            go_roundw
            case rel => exact ⟨i + 1, by omega, by go_num, HU3.out⟩
            case measure => simp [intOf]; omega
          · subst eV
            clear HFA MK
            by_cases c1 : pk = 3
            · subst c1
              by_cases c2 : pa = X
              · subst c2
                by_cases c3 : 6 ≤ pb
                · have c4 : ¬ pb < 6 + T := fun z => no ⟨rfl, rfl, c3, z⟩
                  clear no
                  go_wp2
                  go_roundw
                  case rel => exact ⟨i + 1, by omega, by go_num, HU2.out⟩
                  case measure => simp [intOf]; omega
                · have c4 : pb < 6 := by omega
                  clear no
                  go_wp2
                  go_roundw
                  case rel => exact ⟨i + 1, by omega, by go_num, HU2.out⟩
                  case measure => simp [intOf]; omega
              · have c4 : (pa == X) = false := by simp [c2]
                clear no
                go_wp2
                go_roundw
                case rel => exact ⟨i + 1, by omega, by go_num, HU2.out⟩
                case measure => simp [intOf]; omega
            · have c4 : (pk == 3) = false := by simp [c1]
              clear no
              go_wp2
              go_roundw
              case rel => exact ⟨i + 1, by omega, by go_num, HU2.out⟩
              case measure => simp [intOf]; omega
        · have hie : i = n := by omega
          have hltz : ¬ (i : Int) < n := by omega
          have AL := hidOf (alive_any _ (HT.out.kept HZ.out.1.kp))
          go_wp2_with fail
          refine AL.out.mono ?_
          rintro e WA ⟨rfl, KA⟩
          have DN := hidOf (hdone_any b1 t1 WA (HZ.out.2.2.2.1.kept KA (by simp)) (by have := HZ.out.2.2.2.2; omega))
          rw [show decide (t1.ph = 3) = true from decide_eq_true HZ.out.2.2.2.2] at DN
          have HJ := hidOf (HZ.out.1.new KA)
          clear HZ KA AL
          go_wp2_with fail
          refine DN.out.mono ?_
          rintro e wB ⟨rfl, rfl⟩
          have CT := hidOf HJ.out.count
          rw [show (0 : Int) + n1 = n1 by omega] at CT
          go_wp2_with fail
          refine HJ.out.bank.mono ?_
          rintro e wC ⟨rfl, rfl⟩
          go_wp2_with fail
          refine CT.out.mono ?_
          rintro e wD ⟨rfl, rfl⟩
          go_wp2
          go_ret
          exact ⟨by simp, HJ.out.kp⟩
  · have HI := hidOf hW
    clear hW
    go_enter Tryd.func4, Tryd.ntmps4
    go_upto_region 1 with (fail)
    rw [← hq]
    refine gen_world (fun W => RW 23 W q #[.int .i64 c.t, .int .i64 c.s, .int .i64 c.c, .int .i64 c.h, .int .i64 c.k, .int .i64 c.e, .int .i64 c.l] ∧ Kept [] w W) BX.out ?_
    have hqw : w.heap.size ≤ q := by omega
    clear BX hq
    rintro W ⟨CB, K0⟩
    have HX := hidOf (And.intro CB K0)
    clear CB K0
    have OF := hidOf (kof_no c ao n cap W HI.out)
    go_wp2_with (first | ((with_reducible change wpList _ _ _ (Oper.mk _ (Op.load 23 (Operand.tmp 3)) _ _ _ _ :: _) _ _); refine wpList_load_rw 23 isT_cf rfl (.tmp 3) rfl q rfl #[.int .i64 c.t, .int .i64 c.s, .int .i64 c.c, .int .i64 c.h, .int .i64 c.k, .int .i64 c.e, .int .i64 c.l] rfl HX.out.1 ?_))
    refine OF.out.mono ?_
    rintro e w1 ⟨rfl, K1⟩
    have HX1 := hidOf (And.intro (HX.out.1.kept K1 (by simp)) (HX.out.2.trans K1))
    clear K1 OF HX
    go_upto_region 2 with (first | ((with_reducible change wpList _ _ _ (Oper.mk _ (Op.store 35 (Operand.tmp 8) _) _ _ _ _ :: _) _ _); refine wpList_store_rw 35 isT_rm rfl (.tmp 8) (.tmp 23) rfl w1.heap.size rmZ rfl rfl rfl rmZ_one rmZ (RW.new 35 w1 rmZ) rfl ?_))
    refine gen_world (fun V => RW 23 V q #[.int .i64 c.t, .int .i64 c.s, .int .i64 c.c, .int .i64 c.h, .int .i64 c.k, .int .i64 c.e, .int .i64 c.l] ∧ Kept [] w V) ?_ ?_
    · have KV : Kept [] w1 ((w1.alloc (.cells rmZ 35)).setRow w1.heap.size rmZ) := ((Kept.refl [] w1).alloc _).setRow (Or.inr (Nat.le_refl _)) _
      exact ⟨HX1.out.1.kept KV (by simp), HX1.out.2.trans KV⟩
    clear HX1
    rintro V ⟨CB, J⟩
    have HX := hidOf (And.intro CB J)
    clear CB J
    go_wp2_with fail
    refine (hnew_any h _).mono ?_
    rintro e wn0 ⟨bn0, rfl, -, -, KN0⟩
    have HY := hidOf (And.intro (HX.out.1.kept KN0 (by simp)) (HX.out.2.trans KN0))
    clear HX KN0
    have HX := HY
    clear HY
    have IX := hidOf (index_any h wn0 (HT.out.kept HX.out.2) wh.1 wh.2)
    go_wp2_with fail
    refine IX.out.mono ?_
    rintro e w3 ⟨rfl, K3⟩
    have HY := hidOf (HX.out.2.trans K3)
    clear HX K3 IX
    have AL := hidOf (alive_any _ (HT.out.kept HY.out))
    go_wp2_with fail
    refine AL.out.mono ?_
    rintro e WA ⟨rfl, KA⟩
    have KF := hidOf ((HY.out).trans KA)
    clear KA
    go_wp2
    go_ret
    exact ⟨rfl, KF.out⟩

set_option maxRecDepth 100000 in
theorem helpAlone_lifted (os : Os) (started : os.Started) (H : Type) (enc : TypeId × Value → H) :
    ReturnsInHanded {} Tryd.checked os 4 .any (fun w args => (Rows.helpAloneSpec.pre enc Tryd.prog Tryd.f4 [] false w args ∧ laidMetH Tryd.prog laid1 w) ∧ sizedMet enc Tryd.prog Tryd.f4 (OpenSpec.ofChange Rows.helpAloneSpec) false w args)
      (Rows.helpAloneSpec.post enc Tryd.prog Tryd.f4 false true false false) := by
  refine returnsInHanded_of_change_and (C := Tryd.checked) (X := fun w _ => laidMetH Tryd.prog laid1 w) (fun _ _ _ hh h => h.of_heap hh) own started (by kernel_rfl) Tryd.func4
    (ChangeSpec.witness_shaped (enc := enc) (C := Tryd.checked) (os := os) (X := fun w _ => laidMetH Tryd.prog laid1 w) false (World.doorLaid Tryd.prog 400 os) #[.agg #[.int .i64 0, .int .i64 0, .int .i64 0, .int .i64 0, .int .i64 0, .int .i64 0, .int .i64 0], .slice none 0 0, .int .u64 0] 8 rfl (World.shaped_of_RefB (by kernel_rfl) (by kernel_rfl)) (by kernel_rfl) (by kernel_rfl) (by kernel_rfl) (door_met os _)) ?_
  intro W base args ds gs before hval0 hW _ _ hL _
  have hval : ∀ (j : Nat) t v, Tryd.f4.params[j]? = some t → args[j]? = some v → Value.okWide Tryd.prog W .any base t v := hval0
  have hW' := hW
  obtain ⟨p, q, hA0, hV, rfl, _, _⟩ := hW
  have hA : DataW.TrodAll enc Tryd.prog W 0 (fun _ => true) true Tryd.f4.params.toList args.toList ds p := hA0
  rw [Tryd.params4] at hA hval
  clear hA0 hval0
  obtain ⟨v0, vs0, d0, ds0, p0, q0, hargs, rfl, rfl, h0, r0⟩ := trodAll_cons hA
  obtain ⟨v1, vs1, d1, ds1, p1, q1, rfl, rfl, rfl, h1, r1⟩ := trodAll_cons r0
  obtain ⟨v2, vs2, d2, ds2, p2, q2, rfl, rfl, rfl, h2, r2⟩ := trodAll_cons r1
  obtain ⟨rfl, rfl, rfl⟩ := trodAll_nil r2
  obtain rfl : args = #[v0, v1, v2] := by cases args; simp_all
  obtain ⟨rfl, rfl⟩ := trodVars_none hV
  have k0 := h0
  have k1 := h1
  have k2 := h2
  simp only [List.append_nil] at hW'
  have hlt0 : ∀ x ∈ p0, x.block < W.heap.size := fun x hx => hW'.lt x (by simp [hx])
  have hlt1 : ∀ x ∈ p1, x.block < W.heap.size := fun x hx => hW'.lt x (by simp [hx])
  have hlt2 : ∀ x ∈ p2, x.block < W.heap.size := fun x hx => hW'.lt x (by simp [hx])
  obtain ⟨c0, rfl, g0⟩ := open_cfg (hval 0 23 v0 rfl rfl) h0
  obtain ⟨ao1, cap1, xs1, rfl, s1, g1, z1, n1⟩ := open_words (hval 1 24 v1 rfl rfl) h1
  obtain ⟨a2, rfl, rfl, rfl, w2⟩ := open_int Tryd.underlying25 (hval 2 25 v2 rfl rfl) h2
  refine (helpAlone_walk W c0 g0 ao1 xs1 cap1 s1 g1 n1 a2 w2 (tab_of_laid hL)).mono fun e W' ⟨he, hg⟩ => ?_
  subst he
  have hb := hg.below (by simp)
  exact ⟨_, rfl, _, _, _, [], _, [], hW', (trodAll_cons_mk (shut_bool Tryd.underlying4 _) trodAll_mk0), (trodAll_cons_mk (Below.trod laidOut (by kernel_rfl) (of_decide_eq_true (by kernel_rfl)) k0 hb hlt0) (trodAll_cons_mk (Below.trod laidOut (by kernel_rfl) (of_decide_eq_true (by kernel_rfl)) k1 hb hlt1) (trodAll_cons_mk (Below.trod laidOut (by kernel_rfl) (of_decide_eq_true (by kernel_rfl)) k2 hb hlt2) trodAll_mk0))), rfl, hb.frame _, fun h => by cases h⟩

theorem helpAlone_over : Rows.HelpAloneSaid :=
  OpenClaim.holds_of_wide 4 Tryd.f4 rfl rfl rfl rfl rfl rfl rfl ⟨rfl, rfl, rfl, rfl, rfl⟩ rfl rfl rfl rfl rfl (by kernel_rfl) Tryd.func4 (by kernel_rfl)
    (of_decide_eq_true (by kernel_rfl)) (by unfold Func.isWrapper; first | (rw [if_pos (by decide +kernel)]; kernel_rfl) | (rw [if_neg (by decide +kernel)]; exact ⟨rfl, rfl⟩))
    (fun os started H enc _ => helpAlone_lifted os started H enc)

theorem helpAlone_holds : Rows.HelpAloneCardSaid :=
  Claim7.holds_tied_plain_at .later [] [.data] true (true, "8da01a15b0ed21f15b06d493984036c42457dccc076fb2a2ce17b33141c9b120") false
    helpAlone_over (fun _ h => by cases h) (by kernel_rfl) (fun _ h => by cases h) helpAlone_row_tie rfl ⟨rfl, rfl⟩ (by kernel_rfl) rfl
    (fun f fn hf hfn => by
      obtain rfl : f = 4 := Option.some.inj ((show Tryd.prog.funcNamed "stepstone/stepstonelaw12.HelpAlone" = some 4 by kernel_rfl).symm.trans hf) |>.symm
      obtain rfl : fn = Tryd.f4 := (Option.some.inj (Tryd.func4.symm.trans hfn)).symm
      exact ⟨by kernel_rfl, fun j t ht => by
          rw [Tryd.params4] at ht
          rcases j with _ | j
          · have : t = 23 := by simpa using ht.symm
            subst this; exact (show Tryd.prog.wantsStandIn 23 = false by kernel_rfl)
          rcases j with _ | j
          · have : t = 24 := by simpa using ht.symm
            subst this; exact (show Tryd.prog.wantsStandIn 24 = false by kernel_rfl)
          rcases j with _ | j
          · have : t = 25 := by simpa using ht.symm
            subst this; exact (show Tryd.prog.wantsStandIn 25 = false by kernel_rfl)
          simp at ht⟩)
    (by kernel_rfl)
#print axioms helpAlone_holds
end Go.Proofs.YtjbdaejkofkcpaaDoor
