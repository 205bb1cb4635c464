/-
  A node that is linked on all its levels, built again, alone, is left as it is: it ends at level 1: the law BuildAgain is true for every input.
  Conditions: the package variable of handle that the code reads starts as the program's text lays it (the card ties it to that text).
-/
import Derived.Test.YtkjjieklccbmoaaDoorBLaws
import Derived.Test.YtkjjieklccbmoaaDoorHLaid
import Derived.Test.YtkjjieklccbmoaaDoorPArgs
import Derived.Deep.CutRange
import Derived.ProofKit
import Derived.SizedLaws
import Derived.Carry
namespace Go.Proofs.YtkjjieklccbmoaaDoor
open Go.ChangeShapes Go.WideShapes Go.ChangeAt Go.RowKit
open Go.Deep
open Go.Proofs.YtkjjieklccbmoaaDoor.K
set_option maxRecDepth 100000

set_option maxRecDepth 100000 in
set_option maxHeartbeats 8000000 in
theorem buildAgain_walk (w : World) (c : Cfg) (_hg : c.wf) (ao : Option Addr) (ns : List Nn) (cap : Nat) (hs : SlOf 5 nnL w ao ns) (hw : ∀ x ∈ ns, x.wf) (hc : ao = none → cap = 0) (kz : Int) (_hk : (Lit.int .i64 kz).wf = true) (hT : Tab w) :
    Calls Tryd.prog 7 #[c.val, .slice ao ns.length cap, .int .i64 kz] w fun e w' => e = .returned (.bool true) ∧ Kept [] w w' := by
  simp only [Cfg.val]
  obtain ⟨n, hn⟩ : ∃ n, n = ns.length := ⟨_, rfl⟩
  rw [← hn]
  have HNN := hidOf hn
  have HS := hidOf hs
  have HW := hidOf hw
  have HCP := hidOf hc
  have HT := hidOf hT
  clear hn hs hw hT hc
  obtain ⟨q, hq⟩ : ∃ q, q = w.heap.size := ⟨_, rfl⟩
  have BX : Hid (RW 23 (w.alloc (.cells #[.int .i64 c.t, .int .i64 c.s, .int .i64 c.c, .int .i64 c.h, .int .i64 c.k, .int .i64 c.e, .int .i64 c.l] 23)) q #[.int .i64 c.t, .int .i64 c.s, .int .i64 c.c, .int .i64 c.h, .int .i64 c.k, .int .i64 c.e, .int .i64 c.l] ∧ Kept [] w (w.alloc (.cells #[.int .i64 c.t, .int .i64 c.s, .int .i64 c.c, .int .i64 c.h, .int .i64 c.k, .int .i64 c.e, .int .i64 c.l] 23))) := by rw [hq]; exact ⟨RW.new _ _ _, (Kept.refl [] w).alloc _⟩
  go_enter Tryd.func7, Tryd.ntmps7
  go_upto_region 1 with (fail)
  rw [← hq]
  refine gen_world (fun W => RW 23 W q #[.int .i64 c.t, .int .i64 c.s, .int .i64 c.c, .int .i64 c.h, .int .i64 c.k, .int .i64 c.e, .int .i64 c.l] ∧ Kept [] w W) BX.out ?_
  have hqw : w.heap.size ≤ q := by omega
  clear BX hq
  rintro W ⟨CB0, K0⟩
  have HX := hidOf (And.intro CB0 K0)
  clear CB0 K0
  go_wp2_with (first | ((with_reducible change wpList _ _ _ (Oper.mk _ (Op.load 23 (Operand.tmp 3)) _ _ _ _ :: _) _ _); refine wpList_load_rw 23 isT_cf rfl (.tmp 3) rfl q rfl #[.int .i64 c.t, .int .i64 c.s, .int .i64 c.c, .int .i64 c.h, .int .i64 c.k, .int .i64 c.e, .int .i64 c.l] rfl HX.out.1 ?_))
  refine (right11_any c ns ao n cap W (HS.out.new HX.out.2) HNN.out).mono ?_
  rintro e w1 ⟨B, rfl, hB, K1⟩
  have HX1 := hidOf (And.intro (HX.out.1.kept K1 (by simp)) (HX.out.2.trans K1))
  clear HX K1
  have HX := HX1
  clear HX1
  cases B with
  | false =>
    have AL := hidOf (alive_any _ (HT.out.kept (HX.out.2)))
    have KF := hidOf (HX.out.2)
    go_wp2_with fail
    refine AL.out.mono ?_
    rintro e WA ⟨rfl, KA⟩
    have KG := hidOf (KF.out.trans KA)
    clear KA
    go_wp2
    go_ret
    exact ⟨rfl, KG.out⟩
  | true =>
    have HR := hidOf (hB.1 rfl)
    have RR := hidOf (riB_true.1 HR.out.r)
    clear hB
    by_cases hk0 : kz < 0
    · have AL := hidOf (alive_any _ (HT.out.kept (HX.out.2)))
      have KF := hidOf (HX.out.2)
      go_wp2_with fail
      refine AL.out.mono ?_
      rintro e WA ⟨rfl, KA⟩
      have KG := hidOf (KF.out.trans KA)
      clear KA
      go_wp2
      go_ret
      exact ⟨rfl, KG.out⟩
    by_cases hk1 : (n : Int) ≤ kz
    · have AL := hidOf (alive_any _ (HT.out.kept (HX.out.2)))
      have KF := hidOf (HX.out.2)
      go_wp2_with fail
      refine AL.out.mono ?_
      rintro e WA ⟨rfl, KA⟩
      have KG := hidOf (KF.out.trans KA)
      clear KA
      go_wp2
      go_ret
      exact ⟨rfl, KG.out⟩
    obtain ⟨k, rfl⟩ : ∃ k : Nat, kz = k := ⟨kz.toNat, by omega⟩
    have hkn : (k : Int) < n := by omega
    have n64 : (n : Int) ≤ 64 := by have := HR.out.n; have := HNN.out; have := RR.out.c1; omega
    have HK := hidOf (show k < ns.length by have := HNN.out; omega)
    obtain ⟨b1, o1, ea, -⟩ := nn_row HS.out HK.out
    subst ea
    obtain ⟨x, hx⟩ : ∃ x, x = ns.getD k nn0 := ⟨_, rfl⟩
    have HXE := hidOf hx
    have nb := HR.out.b k HK.out
    rw [← hx] at nb
    have HNB := hidOf nb
    have RO : Hid (∀ Y, Kept [] w Y → (Y.cell? ⟨b1, o1 + k * 5, none⟩ = some (.int .u64 x.k) ∧ Y.cell? ⟨b1, o1 + k * 5 + 2, none⟩ = some (.int .i64 x.t) ∧ Y.cell? ⟨b1, o1 + k * 5 + 3, none⟩ = some (.int .i64 x.m) ∧ Y.cell? ⟨b1, o1 + k * 5 + 4, none⟩ = some (.bool x.d)) ∧ b1 < Y.heap.size) := hidOf (fun Y kk => by
      obtain ⟨b, o, e, l, y0, _, y2, y3, y4⟩ := nn_row (HS.out.new kk) HK.out
      cases e
      rw [HXE.out]; exact ⟨⟨y0, y2, y3, y4⟩, l⟩)
    clear hx nb
    obtain ⟨⟨y0, y2, y3, y4⟩, yl⟩ := RO.out w1 HX.out.2
    by_cases ht : x.t < 2
    · have AL := hidOf (alive_any _ (HT.out.kept (HX.out.2)))
      have KF := hidOf (HX.out.2)
      go_wp2_with fail
      refine AL.out.mono ?_
      rintro e WA ⟨rfl, KA⟩
      have KG := hidOf (KF.out.trans KA)
      clear KA
      go_wp2
      go_ret
      exact ⟨rfl, KG.out⟩
    have htb : decide (x.t < 2) = false := by simp; omega
    cases hd : x.d with
    | true =>
      rw [hd] at y4
      have AL := hidOf (alive_any _ (HT.out.kept (HX.out.2)))
      have KF := hidOf (HX.out.2)
      go_wp2_with fail
      refine AL.out.mono ?_
      rintro e WA ⟨rfl, KA⟩
      have KG := hidOf (KF.out.trans KA)
      clear KA
      go_wp2
      go_ret
      exact ⟨rfl, KG.out⟩
    | false =>
      rw [hd] at y4
      have HDD := hidOf hd
      have hT2 := hidOf (show 2 ≤ x.t ∧ x.t ≤ 6 ∧ x.m = 0 by
        have z := HNB.out
        have := RR.out.h1
        obtain ⟨a1, a2, a3, a4, a5, _⟩ := z
        have : ¬ 0 < x.m := fun e => by have := a5 e; rw [HDD.out] at this; cases this
        omega)
      clear hd ht
      have SX : Hid (∀ W' : World, Kept [] w1 W' → W'.cell? ⟨q, 0, none⟩ = some (.int .i64 c.t) ∧ W'.cell? ⟨q, 1, none⟩ = some (.int .i64 c.s) ∧ W'.cell? ⟨q, 2, none⟩ = some (.int .i64 c.c) ∧ W'.cell? ⟨q, 3, none⟩ = some (.int .i64 c.h) ∧ W'.cell? ⟨q, 4, none⟩ = some (.int .i64 c.k) ∧ W'.cell? ⟨q, 5, none⟩ = some (.int .i64 c.e) ∧ W'.cell? ⟨q, 6, none⟩ = some (.int .i64 c.l)) := hidOf (by
        intro W' kk
        have y := HX.out.1.kept kk (by simp)
        exact ⟨cell_of_blk y (i := 0) rfl, cell_of_blk y (i := 1) rfl, cell_of_blk y (i := 2) rfl, cell_of_blk y (i := 3) rfl, cell_of_blk y (i := 4) rfl, cell_of_blk y (i := 5) rfl, cell_of_blk y (i := 6) rfl⟩)
      have LY : Hid (∀ (W' : World), Kept [] w1 W' → Calls Tryd.prog 18 #[.agg #[.int .i64 c.t, .int .i64 c.s, .int .i64 c.c, .int .i64 c.h, .int .i64 c.k, .int .i64 c.e, .int .i64 c.l], .slice (some ⟨b1, o1, none⟩) n cap] W' fun e w' => ∃ g c', e = .returned (.slice (some ⟨g, 0, none⟩) (lnN c) c') ∧ RowR w' g (layV c ns) c' ∧ Kept [] w1 w') := hidOf (fun W' kk => (lay_any c ns (some ⟨b1, o1, none⟩) n cap W' HR.out HW.out (HS.out.new (HX.out.2.trans kk)) HNN.out).mono fun e w' hh => by
        obtain ⟨g, c', e1, _, R, K⟩ := hh
        exact ⟨g, c', e1, R, kk.trans K⟩)
      have OF : Hid (∀ (W' : World) (g c' : Nat), Kept [] w1 W' → RowR W' g (layV c ns) c' → Calls Tryd.prog 17 #[.agg #[.int .i64 c.t, .int .i64 c.s, .int .i64 c.c, .int .i64 c.h, .int .i64 c.k, .int .i64 c.e, .int .i64 c.l], .slice (some ⟨g, 0, none⟩) (lnN c) c'] W' fun e w' => ∃ m p r, e = .returned (.tuple #[.pointer (some ⟨m, 0, none⟩), .int .i64 0]) ∧ (w1.heap.size ≤ m ∧ w1.heap.size ≤ p ∧ w1.heap.size ≤ r) ∧ Mm w' m p r c (layV c ns) 0 Acc.zero ∧ Kept [] w1 w') := hidOf (fun W' g c' kk R => (mof_yes c (some ⟨g, 0, none⟩) (layV c ns) (lnN c) c' W' HR.out.r (lnN_eq c) (by have z := (Ld.laid HR.out).len; have y := lnN_eq c; omega) R.sl).mono fun e w' hh => by
        obtain ⟨m, p, r, e1, ⟨h0, h1, h2⟩, M, K⟩ := hh
        have := kk.size
        exact ⟨m, p, r, e1, ⟨by omega, by omega, by omega⟩, M, kk.trans K⟩)
      obtain ⟨LN, hLN⟩ : ∃ LN, LN = lnN c := ⟨_, rfl⟩
      rw [← hLN] at LY OF
      obtain ⟨LV, hLV⟩ : ∃ LV, LV = layV c ns := ⟨_, rfl⟩
      rw [← hLV] at LY OF
      have HLV := hidOf hLV
      clear hLN hLV
      go_wp2_with fail
      go_region_held3 (fun W' => W'.cell? ⟨q, 0, none⟩ = some (.int .i64 c.t) ∧ W'.cell? ⟨q, 1, none⟩ = some (.int .i64 c.s) ∧ W'.cell? ⟨q, 2, none⟩ = some (.int .i64 c.c) ∧ W'.cell? ⟨q, 3, none⟩ = some (.int .i64 c.h) ∧ W'.cell? ⟨q, 4, none⟩ = some (.int .i64 c.k) ∧ W'.cell? ⟨q, 5, none⟩ = some (.int .i64 c.e) ∧ W'.cell? ⟨q, 6, none⟩ = some (.int .i64 c.l))
        (exact SX.out _ (by first | assumption | exact (Kept.refl _ _).drew | exact Kept.refl _ _))
        (first
          | (go_at_call 18; with_reducible refine (LY.out _ (Kept.refl _ _).drew).mono ?_; rintro e w5 ⟨g, c', rfl, R5, K5⟩)
          | (go_at_call 17; with_reducible refine (OF.out _ _ _ (by assumption) (by assumption)).mono ?_; rintro e w6 ⟨m, p, r, rfl, hpr, M6, K6⟩))
      have HY := hidOf (And.intro (show w.heap.size ≤ m ∧ w.heap.size ≤ p ∧ w.heap.size ≤ r by have := HX.out.2.size; omega) (And.intro M6 (HX.out.2.trans K6)))
      have HCB := hidOf (HX.out.1.kept K6 (by simp))
      clear R5 K5 hpr M6 K6 SX LY OF HX
      have OF1 := hidOf (fun (Y : World) => rof1_any ((k : Int) + 1) 0 Y (by omega) (by omega))
      rw [pack_hw1] at OF1
      go_wp2_with fail
      refine (OF1.out _).mono ?_
      rintro e w7 ⟨rfl, K7⟩
      have HY7 := hidOf (And.intro HY.out.1 (And.intro (HY.out.2.1.new K7) (And.intro (HY.out.2.2.trans K7) (hw_isW (k := k + 1) (by omega)))))
      clear K7 OF1 HY
      have SX : Hid (∀ W' : World, Kept [] w7 W' → W'.cell? ⟨b1, o1 + k * 5, none⟩ = some (.int .u64 x.k) ∧ W'.cell? ⟨b1, o1 + k * 5 + 2, none⟩ = some (.int .i64 x.t)) := hidOf (fun W' kk => by
        have z := (RO.out W' (HY7.out.2.2.1.trans kk)).1
        exact ⟨z.1, z.2.1⟩)
      have NW := hidOf (fun (W' : World) (kk : Kept [] w7 W') => (bnew_any (hw (k + 1)) x.k x.t W').mono fun e w' hh => (by
        obtain ⟨b, fb, e1, h1, h2, B, F, K⟩ := hh
        have := kk.size
        exact ⟨b, fb, e1, by omega, by omega, B, F, kk.trans K⟩ : ∃ b fb, e = .returned (.pointer (some ⟨b, 0, none⟩)) ∧ w7.heap.size ≤ b ∧ w7.heap.size ≤ fb ∧ BB w' b fb (hw (k + 1)) x.k x.t (if x.t < 2 then .nilFunc else K.ffV 46 b) 1 0 ∧ FB w' fb (K.ffV 60 fb) x.k 0 0 0 0 0 none 0 0 ∧ Kept [] w7 w'))
      obtain ⟨HWK, hHWK⟩ : ∃ z, z = hw (k + 1) := ⟨_, rfl⟩
      rw [← hHWK] at HY7 NW ⊢
      have HHW := hidOf hHWK
      clear hHWK y0 y2 y3 y4 yl htb
      go_wp2_with fail
      go_region_held3 (fun W' => W'.cell? ⟨b1, o1 + k * 5, none⟩ = some (.int .u64 x.k) ∧ W'.cell? ⟨b1, o1 + k * 5 + 2, none⟩ = some (.int .i64 x.t))
        (exact SX.out _ (by first | assumption | exact (Kept.refl _ _).drew | exact Kept.refl _ _))
        (first | (go_at_call 10; with_reducible refine (NW.out _ (Kept.refl _ _).drew).mono ?_; rintro e w8 ⟨b, fb, rfl, hb, hfb, B8, F8, K8⟩))
      have WFX : x.wf := by
        rw [HXE.out]
        have e : ns.getD k nn0 = ns[k]'HK.out := by simp [HK.out]
        rw [e]; exact HW.out _ (List.getElem_mem _)
      have HP : Hid (Bp w w8 b fb m p r c HWK x.k x.t LV 0 Acc.zero) := hidOf (by
        have sz := HY7.out.2.2.1.size
        exact ⟨B8, F8, HY7.out.2.1.new K8, HY7.out.2.2.1.trans K8, HT.out, by omega, by omega, HY7.out.1.2.1, HY7.out.1.2.2, HR.out.r, by rw [HLV.out]; exact wds_all HR.out HW.out ns.length (Nat.le_refl _), Int.le_refl _, HY7.out.2.2.2, WFX.1⟩)
      have LL := Ld.laid HR.out
      have ok := HR.out.ok
      have FL := full_le RR.out ok
      have nn : (ndOf c ns).n = n := by have := HNN.out; show ns.length = n; omega
      have HLV1 : Hid (∀ L : Nat, (L : Int) < x.t → Live (ndOf c ns) L (k + 1) ∧ (ndOf c ns).um (k + 1) = x.t.toNat) := hidOf (fun L hL => by
        have e2 : (ndOf c ns).um (k + 1) = x.t.toNat := by
          show (if k + 1 = 0 then HN c else ((ns.getD (k + 1 - 1) nn0).t - (ns.getD (k + 1 - 1) nn0).m).toNat) = _
          rw [if_neg (by omega), show k + 1 - 1 = k by omega, ← HXE.out]
          have := hT2.out; omega
        exact ⟨⟨by rw [nn]; omega, by rw [e2]; have := hT2.out; omega⟩, e2⟩)
      have EA := hidOf (ends_any (fun cs g s lf => Bo c (ndOf c ns) x.k (k + 1) cs g s lf) w w8 b fb m p r c HWK x.k x.t LV 0 Acc.zero 2000 (full c (ndOf c ns) + 3) HP.out (by omega) (by omega) (by omega)
        (Bo.start HR.out.r ok (HLV1.out 1 (by have := hT2.out; omega)).1 (by omega) (by rw [HXE.out]; rfl) (by have := hT2.out; omega) (by rw [HLV.out]; exact LL.len) (by rw [HLV.out]; exact LL.rep ok) (Sk.laid ok)) (fun cs g s lf cnt' h hd => Bo.step HR.out.r h cnt' hd) (fun cs g s lf h hl => Bo.done h hl))
      clear hb hfb B8 F8 K8 HP LL SX NW HY7
      go_wp2_with fail
      refine EA.out.mono ?_
      rintro e w9 ⟨n9, rfl, -, gb, fb9, g, s, cs, cnt, a, BW, ⟨lf, II⟩, hd, z1, z2⟩
      obtain ⟨N, rep, sk⟩ := II.fin hd
      have HI := hidOf (And.intro (And.intro hd II.lv) (And.intro rep (And.intro sk II.ln)))
      have HBW := hidOf (And.intro BW (show 0 ≤ cnt ∧ cnt ≤ 3000 by omega))
      have HOK := hidOf (And.intro ok nn)
      have HHN := hidOf (HN_eq RR.out)
      clear EA BW II hd z1 z2 rep sk ok nn FL lf
      obtain ⟨⟨-, y2, -, -⟩, yl⟩ := RO.out w9 HBW.out.1.fw.kp
      have t6 : x.t ≤ 6 := hT2.out.2.1
      have t2 : 2 ≤ x.t := hT2.out.1
      go_wp2
      clear y2 yl
      go_loopw [86, 11, 12] (fun s86 _ _ wr => ∃ L : Nat, (L : Int) ≤ x.t ∧ s86 = .int .i64 L ∧ ∃ cnt a, Bw (Bh w) w wr b fb9 gb m p r c g s cs cnt a ∧ 0 ≤ cnt ∧ cnt ≤ 3000 + 500 * L) (fun s86 _ _ _ => (x.t - intOf s86).toNat)
      case atStart => exact ⟨0, by omega, by first | rfl | go_num, cnt, a, HBW.out.1, HBW.out.2.1, by have := HBW.out.2.2; omega⟩
      case round =>
        clear HBW
        obtain ⟨L, hL, rfl, cnt, a, Z, z0, z1⟩ := hrel
        have HZ := hidOf (And.intro Z (And.intro z0 z1))
        clear Z z0 z1
        obtain ⟨⟨-, y2, -, -⟩, yl⟩ := RO.out wr HZ.out.1.fw.kp
        by_cases hlt : (L : Int) < x.t
        · have hLH : L < HN c := by
            have := (HLV1.out L hlt).1.on HOK.out.1
            exact Nat.lt_of_lt_of_le this.2 (HOK.out.1.tl _ this.1)
          have LK := hidOf (linked_any wr m p r c cs cnt a L n (Live (ndOf c ns) L) (On (ndOf c ns) L) HZ.out.1.fw.st.mm HZ.out.1.fw.st.tb RR.out HZ.out.1.pr0.1 HZ.out.1.pr0.2 (by have := HR.out.n; have := HNN.out; omega) hLH (by have z := (HI.out.2.1.lvl L).chn HOK.out.1 HI.out.2.2.1 hLH; rw [HOK.out.2] at z; exact z) HZ.out.2.1 (by have := HZ.out.2.2; omega))
          go_wp2_with fail
          refine LK.out.mono ?_
          rintro e w10 ⟨js, v, cnt2, a2, rfl, O, LS, M, c3, c4, K⟩
          obtain ⟨jo, jc, rfl, CL⟩ := own_i O
          have HB10 := hidOf (And.intro (HZ.out.1.mm M K (by have := HZ.out.2.1; omega)) (show 0 ≤ cnt2 ∧ cnt2 ≤ 3000 + 500 * L + 70 by have := HZ.out.2; omega))
          have HIN := hidOf (show k + 1 ∈ js from LS.all (k + 1) (by omega) (by have := HNN.out; have := HK.out; omega) (HLV1.out L hlt).1)
          rw [jsI_len] at CL ⊢
          obtain ⟨jn, hjn⟩ : ∃ jn, jn = js.length := ⟨_, rfl⟩
          rw [← hjn] at CL ⊢
          have HJN := hidOf hjn
          have HCL := hidOf CL
          have jn64 : (jn : Int) ≤ 64 := by have := LS.len; omega
          clear LK O LS M c3 c4 K HZ hjn CL y2 yl
          go_wp2
          go_loopw [93, 12, 14] (fun s93 s12 _ wr2 => ∃ (i : Nat) (D : Bool), i ≤ jn ∧ s93 = .int .i64 i ∧ s12 = .bool D ∧ Hid (D = true ↔ ∃ j, j < i ∧ js.getD j 0 = k + 1) ∧ Kept [] w10 wr2) (fun s93 _ _ _ => jn - (intOf s93).toNat)
          case atStart => exact ⟨0, false, by omega, by first | rfl | go_num, rfl, hidOf ⟨fun z => (by cases z), fun ⟨j, h, _⟩ => absurd h (Nat.not_lt_zero _)⟩, Kept.refl _ _⟩
          case round =>
            obtain ⟨i, D, hi, rfl, rfl, HD, KI⟩ := hrel
            have HKI := hidOf KI
            clear KI
            by_cases hlti : i < jn
            · have hiz : (i : Int) < (jn : Int) := by omega
              obtain ⟨jb, rfl, jl, jc0⟩ := HCL.out i hlti
              obtain ⟨J, hJ⟩ : ∃ J, J = js.getD i 0 := ⟨_, rfl⟩
              rw [jsI_get, ← hJ] at jc0
              have cj := (kept_cell HKI.out (b := jb) (o := i) jl).trans jc0
              have cl := Nat.lt_of_lt_of_le jl HKI.out.size
              have NXT : Hid (∀ D2 : Bool, (D2 = true ↔ (D = true ∨ J = k + 1)) → (D2 = true ↔ ∃ j, j < i + 1 ∧ js.getD j 0 = k + 1)) := hidOf (fun D2 h => by
                rw [h, HD.out]
                constructor
                · rintro (⟨j, a, b⟩ | a)
                  · exact ⟨j, by omega, b⟩
                  · exact ⟨i, by omega, by rw [← hJ]; exact a⟩
                · rintro ⟨j, a, b⟩
                  by_cases e : j = i
                  · right; rw [hJ, ← e]; exact b
                  · left; exact ⟨j, by omega, b⟩)
              clear hJ jc0 jl
              cases D with
              | true =>
                go_wp2
                go_roundw
                case rel => exact ⟨i + 1, true, by omega, by go_num, rfl, hidOf (NXT.out true (by simp)), HKI.out⟩
                case measure => simp [intOf]; omega
              | false =>
                by_cases hJK : J = k + 1
                · have hb : ((J : Int) == (k : Int) + 1) = true := by simp; omega
                  have HJ := hidOf hJK
                  clear hJK
                  go_wp2
                  go_roundw
                  case rel => exact ⟨i + 1, true, by omega, by go_num, rfl, hidOf (NXT.out true (by simp [HJ.out])), HKI.out⟩
                  case measure => simp [intOf]; omega
                · have hb : ((J : Int) == (k : Int) + 1) = false := by simp; omega
                  have HJ := hidOf hJK
                  clear hJK
                  go_wp2
                  go_roundw
                  case rel => exact ⟨i + 1, false, by omega, by go_num, rfl, hidOf (NXT.out false (by simp [HJ.out])), HKI.out⟩
                  case measure => simp [intOf]; omega
            · have hie : i = jn := by omega
              have hiz : ¬ (i : Int) < (jn : Int) := by omega
              have hDt : D = true := by
                rw [HD.out]
                obtain ⟨j, a, b⟩ := mem_getD.1 HIN.out
                exact ⟨j, by have := HJN.out; omega, b⟩
              subst hDt
              clear hie HD
              have HB11 := hidOf (And.intro (HB10.out.1.new HKI.out) HB10.out.2)
              have NK := hidOf (show nw (ndOf c ns).n (N L (k + 1)) false = fd c cs (ixV HWK) (6 + (L : Int)) from by
                have ix : ixV HWK = ((k + 1 : Nat) : Int) := by rw [HHW.out]; exact hw_ix (by omega)
                have lv := HLV1.out L hlt
                have z := HI.out.2.1.nx L (k + 1) (lv.1.on HOK.out.1)
                rw [decide_eq_false (by rw [lv.2]; omega)] at z
                rw [ix, ← z, show ((6 + L : Nat) : Int) = 6 + (L : Int) by omega])
              have n32 : (ndOf c ns).n < 4294967296 := by rw [HOK.out.2]; omega
              have LD := hidOf (HB11.out.1.fw.load HWK (6 + (L : Int)) (by rw [HHW.out]; exact hw_isW (by omega)) (by have := HB11.out.2; omega))
              rw [← NK.out] at LD
              have mkf := nw_mk (n := (ndOf c ns).n) (j := N L (k + 1)) n32 false
              have mkw := nw_word (n := (ndOf c ns).n) (j := N L (k + 1)) n32 false
              generalize nw (ndOf c ns).n (N L (k + 1)) false = VW at LD mkf mkw
              have HMK := hidOf (And.intro mkf mkw)
              have hL6 : (L : Int) ≤ 6 := by omega
              clear mkf mkw n32 NK HB10 HKI HCL
              go_wp2_with fail
              refine LD.out.mono ?_
              rintro e w11 ⟨a3, rfl, F11, K11⟩
              have HB12 := hidOf (HB11.out.1.mm F11.st.mm K11 (by have := HB11.out.2; omega))
              have MK := hidOf (marked_any VW w11 F11.st.tb HMK.out.2.1 HMK.out.2.2)
              rw [HMK.out.1] at MK
              clear LD F11 K11
              go_wp2_with fail
              refine MK.out.mono ?_
              rintro e w12 ⟨rfl, K12⟩
              have HB13 := hidOf (HB12.out.new K12)
              clear MK K12 HB12
              go_wp2
              go_roundw
              case rel => exact ⟨L + 1, by omega, by go_num, cnt2 + 1, a3, HB13.out, by have := HB11.out.2; omega, by have := HB11.out.2; omega⟩
              case measure => simp [intOf]; omega
        · have AL := hidOf (alive_any wr HZ.out.1.fw.st.tb)
          go_wp2_with fail
          refine AL.out.mono ?_
          rintro e w10 ⟨rfl, K10⟩
          have HB := hidOf (HZ.out.1.new K10)
          have DN := hidOf (bdone_any b fb9 s w10 HB.out.bb)
          rw [HI.out.1.1] at DN
          have LV2 := hidOf (blevel_any b fb9 _ _ _ _ _ _ w10 HB.out.bb)
          rw [HI.out.1.2] at LV2
          have KF := hidOf HB.out.fw.kp
          clear AL K10 HZ HB y2 yl
          go_wp2_with fail
          refine DN.out.mono ?_
          rintro e w11 ⟨rfl, rfl⟩
          go_wp2_with fail
          refine LV2.out.mono ?_
          rintro e w12 ⟨rfl, rfl⟩
          go_wp2
          go_ret
          exact ⟨rfl, KF.out⟩

set_option maxRecDepth 100000 in
theorem buildAgain_lifted (os : Os) (started : os.Started) (H : Type) (enc : TypeId × Value → H) :
    ReturnsInHanded {} Tryd.checked os 7 .any (fun w args => (Rows.buildAgainSpec.pre enc Tryd.prog Tryd.f7 [] false w args ∧ laidMetH Tryd.prog laid1 w) ∧ sizedMet enc Tryd.prog Tryd.f7 (OpenSpec.ofChange Rows.buildAgainSpec) false w args)
      (Rows.buildAgainSpec.post enc Tryd.prog Tryd.f7 false true false false) := by
  refine returnsInHanded_of_change_and (C := Tryd.checked) (X := fun w _ => laidMetH Tryd.prog laid1 w) (fun _ _ _ hh h => h.of_heap hh) own started (by kernel_rfl) Tryd.func7
    (ChangeSpec.witness_shaped (enc := enc) (C := Tryd.checked) (os := os) (X := fun w _ => laidMetH Tryd.prog laid1 w) false (World.doorLaid Tryd.prog 400 os) #[.agg #[.int .i64 0, .int .i64 0, .int .i64 0, .int .i64 0, .int .i64 0, .int .i64 0, .int .i64 0], .slice none 0 0, .int .i64 0] 8 rfl (World.shaped_of_RefB (by kernel_rfl) (by kernel_rfl)) (by kernel_rfl) (by kernel_rfl) (by kernel_rfl) (door_met os _)) ?_
  intro W base args ds gs before hval0 hW _ _ hL _
  have hval : ∀ (j : Nat) t v, Tryd.f7.params[j]? = some t → args[j]? = some v → Value.okWide Tryd.prog W .any base t v := hval0
  have hW' := hW
  obtain ⟨p, q, hA0, hV, rfl, _, _⟩ := hW
  have hA : DataW.TrodAll enc Tryd.prog W 0 (fun _ => true) true Tryd.f7.params.toList args.toList ds p := hA0
  rw [Tryd.params7] at hA hval
  clear hA0 hval0
  obtain ⟨v0, vs0, d0, ds0, p0, q0, hargs, rfl, rfl, h0, r0⟩ := trodAll_cons hA
  obtain ⟨v1, vs1, d1, ds1, p1, q1, rfl, rfl, rfl, h1, r1⟩ := trodAll_cons r0
  obtain ⟨v2, vs2, d2, ds2, p2, q2, rfl, rfl, rfl, h2, r2⟩ := trodAll_cons r1
  obtain ⟨rfl, rfl, rfl⟩ := trodAll_nil r2
  obtain rfl : args = #[v0, v1, v2] := by cases args; simp_all
  obtain ⟨rfl, rfl⟩ := trodVars_none hV
  have k0 := h0
  have k1 := h1
  have k2 := h2
  simp only [List.append_nil] at hW'
  have hlt0 : ∀ x ∈ p0, x.block < W.heap.size := fun x hx => hW'.lt x (by simp [hx])
  have hlt1 : ∀ x ∈ p1, x.block < W.heap.size := fun x hx => hW'.lt x (by simp [hx])
  have hlt2 : ∀ x ∈ p2, x.block < W.heap.size := fun x hx => hW'.lt x (by simp [hx])
  obtain ⟨c0, rfl, g0⟩ := open_cfg (hval 0 23 v0 rfl rfl) h0
  obtain ⟨ao1, cap1, ns1, rfl, s1, g1, n1⟩ := open_nodes2 (hval 1 24 v1 rfl rfl) h1
  obtain ⟨a2, rfl, rfl, rfl, w2⟩ := open_int Tryd.underlying3 (hval 2 3 v2 rfl rfl) h2
  refine (buildAgain_walk W c0 g0 ao1 ns1 cap1 s1 g1 n1 a2 w2 (tab_of_laid hL)).mono fun e W' ⟨he, hg⟩ => ?_
  subst he
  have hb := hg.below (by simp)
  exact ⟨_, rfl, _, _, _, [], _, [], hW', (trodAll_cons_mk (shut_bool Tryd.underlying4 _) trodAll_mk0), (trodAll_cons_mk (Below.trod laidOut (by kernel_rfl) (of_decide_eq_true (by kernel_rfl)) k0 hb hlt0) (trodAll_cons_mk (Below.trod laidOut (by kernel_rfl) (of_decide_eq_true (by kernel_rfl)) k1 hb hlt1) (trodAll_cons_mk (Below.trod laidOut (by kernel_rfl) (of_decide_eq_true (by kernel_rfl)) k2 hb hlt2) trodAll_mk0))), rfl, hb.frame _, fun h => by cases h⟩

theorem buildAgain_over : Rows.BuildAgainSaid :=
  OpenClaim.holds_of_wide 7 Tryd.f7 rfl rfl rfl rfl rfl rfl rfl ⟨rfl, rfl, rfl, rfl, rfl⟩ rfl rfl rfl rfl rfl (by kernel_rfl) Tryd.func7 (by kernel_rfl)
    (of_decide_eq_true (by kernel_rfl)) (by unfold Func.isWrapper; first | (rw [if_pos (by decide +kernel)]; kernel_rfl) | (rw [if_neg (by decide +kernel)]; exact ⟨rfl, rfl⟩))
    (fun os started H enc _ => buildAgain_lifted os started H enc)

theorem buildAgain_holds : Rows.BuildAgainCardSaid :=
  Claim7.holds_tied_plain_at .later [] [.data] true (true, "7598bd54c92d53e360db6de8ec306489af839585ba1e399dd7dd108781c18b49") false
    buildAgain_over (fun _ h => by cases h) (by kernel_rfl) (fun _ h => by cases h) buildAgain_row_tie rfl ⟨rfl, rfl⟩ (by kernel_rfl) rfl
    (fun f fn hf hfn => by
      obtain rfl : f = 7 := Option.some.inj ((show Tryd.prog.funcNamed "stepstone/stepstonelaw13.BuildAgain" = some 7 by kernel_rfl).symm.trans hf) |>.symm
      obtain rfl : fn = Tryd.f7 := (Option.some.inj (Tryd.func7.symm.trans hfn)).symm
      exact ⟨by kernel_rfl, fun j t ht => by
          rw [Tryd.params7] at ht
          rcases j with _ | j
          · have : t = 23 := by simpa using ht.symm
            subst this; exact (show Tryd.prog.wantsStandIn 23 = false by kernel_rfl)
          rcases j with _ | j
          · have : t = 24 := by simpa using ht.symm
            subst this; exact (show Tryd.prog.wantsStandIn 24 = false by kernel_rfl)
          rcases j with _ | j
          · have : t = 3 := by simpa using ht.symm
            subst this; exact (show Tryd.prog.wantsStandIn 3 = false by kernel_rfl)
          simp at ht⟩)
    (by kernel_rfl)
#print axioms buildAgain_holds
end Go.Proofs.YtkjjieklccbmoaaDoor
