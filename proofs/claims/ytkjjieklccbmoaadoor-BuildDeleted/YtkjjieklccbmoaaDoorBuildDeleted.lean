/-
  Of a node that is deleted on a level it links none from there on; it ends there: the law BuildDeleted is true for every input.
  Conditions: the package variable of handle that the code reads starts as the program's text lays it (the card ties it to that text).
-/
import Derived.Test.YtkjjieklccbmoaaDoorBLaws
import Derived.Test.YtkjjieklccbmoaaDoorHLaid
import Derived.Test.YtkjjieklccbmoaaDoorPArgs
import Derived.Deep.CutRange
import Derived.ProofKit
import Derived.SizedLaws
import Derived.Carry
namespace Go.Proofs.YtkjjieklccbmoaaDoor
open Go.ChangeShapes Go.WideShapes Go.ChangeAt Go.RowKit
open Go.Deep
open Go.Proofs.YtkjjieklccbmoaaDoor.K
set_option maxRecDepth 100000

set_option maxRecDepth 100000 in
set_option maxHeartbeats 8000000 in
theorem buildDeleted_walk (w : World) (c : Cfg) (_hg : c.wf) (ao : Option Addr) (ns : List Nn) (cap : Nat) (hs : SlOf 5 nnL w ao ns) (hw : ∀ x ∈ ns, x.wf) (hc : ao = none → cap = 0) (kz : Int) (_hk : (Lit.int .i64 kz).wf = true) (hT : Tab w) :
    Calls Tryd.prog 4 #[c.val, .slice ao ns.length cap, .int .i64 kz] w fun e w' => e = .returned (.bool true) ∧ Kept [] w w' := by
  simp only [Cfg.val]
  obtain ⟨n, hn⟩ : ∃ n, n = ns.length := ⟨_, rfl⟩
  rw [← hn]
  have HNN := hidOf hn
  have HS := hidOf hs
  have HW := hidOf hw
  have HCP := hidOf hc
  have HT := hidOf hT
  clear hn hs hw hT hc
  obtain ⟨q, hq⟩ : ∃ q, q = w.heap.size := ⟨_, rfl⟩
  have BX : Hid (RW 23 (w.alloc (.cells #[.int .i64 c.t, .int .i64 c.s, .int .i64 c.c, .int .i64 c.h, .int .i64 c.k, .int .i64 c.e, .int .i64 c.l] 23)) q #[.int .i64 c.t, .int .i64 c.s, .int .i64 c.c, .int .i64 c.h, .int .i64 c.k, .int .i64 c.e, .int .i64 c.l] ∧ Kept [] w (w.alloc (.cells #[.int .i64 c.t, .int .i64 c.s, .int .i64 c.c, .int .i64 c.h, .int .i64 c.k, .int .i64 c.e, .int .i64 c.l] 23))) := by rw [hq]; exact ⟨RW.new _ _ _, (Kept.refl [] w).alloc _⟩
  go_enter Tryd.func4, Tryd.ntmps4
  go_upto_region 1 with (fail)
  rw [← hq]
  refine gen_world (fun W => RW 23 W q #[.int .i64 c.t, .int .i64 c.s, .int .i64 c.c, .int .i64 c.h, .int .i64 c.k, .int .i64 c.e, .int .i64 c.l] ∧ Kept [] w W) BX.out ?_
  have hqw : w.heap.size ≤ q := by omega
  clear BX hq
  rintro W ⟨CB0, K0⟩
  have HX := hidOf (And.intro CB0 K0)
  clear CB0 K0
  go_wp2_with (first | ((with_reducible change wpList _ _ _ (Oper.mk _ (Op.load 23 (Operand.tmp 3)) _ _ _ _ :: _) _ _); refine wpList_load_rw 23 isT_cf rfl (.tmp 3) rfl q rfl #[.int .i64 c.t, .int .i64 c.s, .int .i64 c.c, .int .i64 c.h, .int .i64 c.k, .int .i64 c.e, .int .i64 c.l] rfl HX.out.1 ?_))
  refine (laid_any c ns ao n cap kz W HW.out (HS.out.new HX.out.2) HNN.out HCP.out).mono ?_
  rintro e w1 ⟨K1, ⟨rfl, no⟩ | ⟨k, rfl, hk, hR, m, p, r, rfl, hpr, M⟩⟩
  · have K2 := hidOf (HX.out.2.trans K1)
    clear K1 no
    have AL := hidOf (alive_any _ (HT.out.kept (K2.out)))
    have KF := hidOf (K2.out)
    go_wp2_with fail
    refine AL.out.mono ?_
    rintro e WA ⟨rfl, KA⟩
    have KG := hidOf (KF.out.trans KA)
    clear KA
    go_wp2
    go_ret
    exact ⟨rfl, KG.out⟩
  have HR := hidOf hR
  have RR := hidOf (riB_true.1 hR.r)
  have HK := hidOf hk
  have hkn : (k : Int) < n := by have := HNN.out; omega
  have hknl : k < n := by have := HNN.out; omega
  have n64 : (n : Int) ≤ 64 := by have := HR.out.n; have := HNN.out; have := RR.out.c1; omega
  have HY := hidOf (And.intro M (HX.out.2.trans K1))
  have HPR := hidOf hpr
  have HK1 := hidOf K1
  clear M K1 hpr hR hk
  obtain ⟨b1, o1, ea, -⟩ := nn_row HS.out HK.out
  subst ea
  obtain ⟨x, hx⟩ : ∃ x, x = ns.getD k nn0 := ⟨_, rfl⟩
  have HXE := hidOf hx
  have nb := HR.out.b k HK.out
  rw [← hx] at nb
  have HNB := hidOf nb
  have RO : Hid (∀ Y, Kept [] w Y → (Y.cell? ⟨b1, o1 + k * 5, none⟩ = some (.int .u64 x.k) ∧ Y.cell? ⟨b1, o1 + k * 5 + 2, none⟩ = some (.int .i64 x.t) ∧ Y.cell? ⟨b1, o1 + k * 5 + 3, none⟩ = some (.int .i64 x.m) ∧ Y.cell? ⟨b1, o1 + k * 5 + 4, none⟩ = some (.bool x.d)) ∧ b1 < Y.heap.size) := hidOf (fun Y kk => by
    obtain ⟨b, o, e, l, y0, _, y2, y3, y4⟩ := nn_row (HS.out.new kk) HK.out
    cases e
    rw [HXE.out]; exact ⟨⟨y0, y2, y3, y4⟩, l⟩)
  clear hx nb
  obtain ⟨TT, hTT⟩ : ∃ TT, TT = x.t := ⟨_, rfl⟩
  obtain ⟨MM, hMM⟩ : ∃ MM, MM = x.m := ⟨_, rfl⟩
  rw [← hTT, ← hMM] at RO
  have HTM := hidOf (And.intro hTT hMM)
  have bds : 0 ≤ MM ∧ MM ≤ TT ∧ 1 ≤ TT ∧ TT ≤ 6 ∧ TT ≤ c.h := by obtain ⟨a1, a2, a3, a4, _⟩ := HNB.out; have := RR.out.h1; omega
  have m0 := bds.1
  have mt := bds.2.1
  have t1 := bds.2.2.1
  have t6 := bds.2.2.2.1
  have HTH := hidOf bds.2.2.2.2
  clear hTT hMM bds
  obtain ⟨⟨-, y2, y3, -⟩, yl⟩ := RO.out w1 HY.out.2
  by_cases ht : TT < 2
  · have htb : decide (TT < 2) = true := by simpa using ht
    have AL := hidOf (alive_any _ (HT.out.kept (HY.out.2)))
    have KF := hidOf (HY.out.2)
    go_wp2_with fail
    refine AL.out.mono ?_
    rintro e WA ⟨rfl, KA⟩
    have KG := hidOf (KF.out.trans KA)
    clear KA
    go_wp2
    go_ret
    exact ⟨rfl, KG.out⟩
  have htb : decide (TT < 2) = false := by simpa using ht
  clear y3
  have OF1 : Hid (∀ (Y : World), Kept [] w1 Y → Calls Tryd.prog 11 #[.int .i64 (IntKind.i64.wrap ((k : Int) + 1)), .int .i64 0] Y fun e w' => e = .returned (.int .u64 (hw (k + 1))) ∧ Kept [] w1 w') := hidOf (fun Y kk => by
    rw [show IntKind.i64.wrap ((k : Int) + 1) = (k : Int) + 1 by rw [IntKind.wrap_i64]; omega]
    have z := rof1_any ((k : Int) + 1) 0 Y (by omega) (by omega)
    rw [pack_hw1] at z
    exact z.mono fun _ _ hh => And.intro hh.1 (kk.trans hh.2))
  have HWI := hidOf (hw_isW (k := k + 1) (by omega))
  obtain ⟨HWK, hHWK⟩ : ∃ z, z = hw (k + 1) := ⟨_, rfl⟩
  rw [← hHWK] at OF1 HWI
  have HHW := hidOf hHWK
  clear hHWK
  have SX : Hid (∀ W' : World, Kept [] w1 W' → W'.cell? ⟨b1, o1 + k * 5, none⟩ = some (.int .u64 x.k) ∧ W'.cell? ⟨b1, o1 + k * 5 + 2, none⟩ = some (.int .i64 TT)) := hidOf (fun W' kk => by
    have z := (RO.out W' (HY.out.2.trans kk)).1
    exact ⟨z.1, z.2.1⟩)
  have NW := hidOf (fun (W' : World) (kk : Kept [] w1 W') => (bnew_any HWK x.k TT W').mono fun e w' hh => (by
    obtain ⟨b, fb, e1, h1, h2, B, F, K⟩ := hh
    have := kk.size
    exact ⟨b, fb, e1, by omega, by omega, B, F, kk.trans K⟩ : ∃ b fb, e = .returned (.pointer (some ⟨b, 0, none⟩)) ∧ w1.heap.size ≤ b ∧ w1.heap.size ≤ fb ∧ BB w' b fb HWK x.k TT (if TT < 2 then .nilFunc else K.ffV 46 b) 1 0 ∧ FB w' fb (K.ffV 60 fb) x.k 0 0 0 0 0 none 0 0 ∧ Kept [] w1 w'))
  go_wp2_with fail
  go_region_held3 (fun W' => W'.cell? ⟨b1, o1 + k * 5, none⟩ = some (.int .u64 x.k) ∧ W'.cell? ⟨b1, o1 + k * 5 + 2, none⟩ = some (.int .i64 TT))
    (exact SX.out _ (by first | assumption | exact (Kept.refl _ _).drew | exact Kept.refl _ _))
    (first
      | (go_at_call 11; with_reducible refine (OF1.out _ (by first | assumption | exact (Kept.refl _ _).drew)).mono ?_; rintro e w7 ⟨rfl, K7⟩)
      | (go_at_call 10; with_reducible refine (NW.out _ (by first | assumption | exact (Kept.refl _ _).drew)).mono ?_; rintro e w8 ⟨b, fb, rfl, hb, hfb, B8, F8, K8⟩))
  clear y2 yl htb
  have WFX : x.wf := by
    rw [HXE.out]
    have e : ns.getD k nn0 = ns[k]'HK.out := by simp [HK.out]
    rw [e]; exact HW.out _ (List.getElem_mem _)
  have LP := laid_is HR.out HW.out HK.out
  have hT0 : ((tT ns k : Nat) : Int) = TT := by unfold tT; rw [← HXE.out, ← HTM.out.1]; omega
  have hU0 : ((tU ns k : Nat) : Int) = TT - MM := by unfold tU; rw [← HXE.out, ← HTM.out.1, ← HTM.out.2]; omega
  obtain ⟨l1, hl1⟩ : ∃ l1, l1 = ndOf c (lowN ns k) := ⟨_, rfl⟩
  obtain ⟨LV, hLV⟩ : ∃ LV, LV = laidV c ns k := ⟨_, rfl⟩
  obtain ⟨T, hT⟩ : ∃ T, T = tT ns k := ⟨_, rfl⟩
  obtain ⟨U, hU⟩ : ∃ U, U = tU ns k := ⟨_, rfl⟩
  rw [← hLV] at HY
  rw [← hT] at hT0
  rw [← hU] at hU0
  have HLP : Hid ((Low c l1 (k + 1) T U ∧ l1.K (k + 1) = x.k ∧ ((LV.length : Nat) : Int) = lnV c ∧ Wds LV) ∧ Rep c l1 LV (N0 l1) ∧ Sk l1 (N0 l1) ∧ Zup c l1 (k + 1) T U LV 1 ∧ l1.n = n) := hidOf (by
    rw [hl1, hLV, hT, hU, HXE.out]
    exact ⟨⟨LP.lo, LP.kz, LP.ln, LP.wd⟩, LP.rep, LP.sk, LP.up, by have := HNN.out; rw [LP.nn]; omega⟩)
  clear LP hl1 hLV hT hU
  have HP : Hid (Bp W w8 b fb m p r c HWK x.k TT LV 0 Acc.zero) := hidOf (by
    have sz := HK1.out.size
    exact ⟨B8, F8, HY.out.1.new K8, HK1.out.trans K8, HT.out.kept HX.out.2, by omega, by omega, HPR.out.2.1, HPR.out.2.2, HR.out.r, HLP.out.1.2.2.2, Int.le_refl _, HWI.out, WFX.1⟩)
  have FL := full_le RR.out HLP.out.1.1.ok
  have EA := hidOf (ends_any (fun cs g s lf => Ba c l1 (k + 1) T U x.k cs g s lf) W w8 b fb m p r c HWK x.k TT LV 0 Acc.zero 2000 (full c l1 + 3 + 3 * T) HP.out (by omega) (by omega) (by omega)
    (by
      have z := Ba.start (t := 0) HR.out.r HLP.out.1.1 HLP.out.1.2.1 HLP.out.1.2.2.1 HLP.out.2.1 HLP.out.2.2.1 HLP.out.2.2.2.1
      rw [hT0, ← HHW.out] at z
      rw [hT0]
      exact z) (fun cs g s lf cnt' h hd => Ba.step HR.out.r h cnt' hd) (fun cs g s lf h hl => (Ba.done h hl).d))
  clear hb hfb B8 F8 K8 HP SX NW OF1 K7 FL
  go_wp2_with fail
  refine EA.out.mono ?_
  rintro e wE ⟨n9, rfl, -, gb, fb9, g, s, cs, cnt, a, BW, ⟨lf, II⟩, hd, z1, z2⟩
  have E := II.fin hd
  have HI := hidOf (And.intro hd E)
  have HBW := hidOf (And.intro BW (show 0 ≤ cnt ∧ cnt ≤ 3000 by have := full_le RR.out HLP.out.1.1.ok; omega))
  have HHN := hidOf (HN_eq RR.out)
  have h6 : c.h ≤ 6 := RR.out.h1
  have h0 : 1 ≤ c.h := RR.out.h0
  clear EA BW II hd z1 z2 E lf
  go_wp2
  go_loopw [11, 12] (fun s11 _ wr => ∃ L : Nat, 1 ≤ L ∧ (L : Int) ≤ c.h ∧ s11 = .int .i64 L ∧ ∃ cnt a, Bw (Bh W) W wr b fb9 gb m p r c g s cs cnt a ∧ 0 ≤ cnt ∧ cnt ≤ 3000 + 500 * L) (fun s11 _ _ => (c.h - intOf s11).toNat)
  case atStart => exact ⟨1, by omega, by omega, by first | rfl | go_num, cnt, a, HBW.out.1, HBW.out.2.1, by have := HBW.out.2.2; omega⟩
  case round =>
    clear HBW
    obtain ⟨L, hL1, hL, rfl, cnt, a, Z, z0, z1⟩ := hrel
    have HZ := hidOf (And.intro Z (And.intro z0 z1))
    clear Z z0 z1
    have y3 := cell_of_blk (HX.out.1.kept HZ.out.1.fw.kp (by simp)) (i := 3) (v := .int .i64 c.h) rfl
    by_cases hlt : (L : Int) < c.h
    · have hLH : L < HN c := by have := HHN.out; omega
      have LK := hidOf (linked_any wr m p r c cs cnt a L n (LiveF l1 (k + 1) U L) (fun i => i = k + 1 → L = 0 ∨ L < U) HZ.out.1.fw.st.mm HZ.out.1.fw.st.tb RR.out HZ.out.1.pr0.1 HZ.out.1.pr0.2 (by have := HR.out.n; have := HNN.out; omega) hLH (by have z := HI.out.2.ch L hLH; rw [HLP.out.2.2.2.2] at z; exact z) HZ.out.2.1 (by have := HZ.out.2.2; omega))
      have hL6 : (L : Int) ≤ 6 := by omega
      go_wp2_with fail
      refine LK.out.mono ?_
      rintro e w10 ⟨js, v, cnt2, a2, rfl, O, LS, M, c3, c4, K⟩
      obtain ⟨jo, jc, rfl, CL⟩ := own_i O
      have HB10 := hidOf (And.intro (HZ.out.1.mm M K (by have := HZ.out.2.1; omega)) (show 0 ≤ cnt2 ∧ cnt2 ≤ 3000 + 500 * L + 70 by have := HZ.out.2; omega))
      rw [jsI_len] at CL ⊢
      obtain ⟨jn, hjn⟩ : ∃ jn, jn = js.length := ⟨_, rfl⟩
      rw [← hjn] at CL ⊢
      have HIN := hidOf (show (∃ j, j < jn ∧ js.getD j 0 = k + 1) ↔ L < U from by
        rw [hjn, ← mem_getD]
        constructor
        · intro h
          rcases (LS.nd _ h).2.2 rfl with e | e
          · omega
          · exact e
        · intro h
          exact LS.all (k + 1) (by omega) (by omega) (Or.inr ⟨rfl, h⟩))
      have HCL := hidOf CL
      have jn64 : (jn : Int) ≤ 64 := by have := LS.len; omega
      clear LK O LS M c3 c4 K HZ hjn CL y3
      go_wp2
      go_loopw [63, 12, 14] (fun s63 s12 _ wr2 => ∃ (i : Nat) (D : Bool), i ≤ jn ∧ s63 = .int .i64 i ∧ s12 = .bool D ∧ Hid (D = true ↔ ∃ j, j < i ∧ js.getD j 0 = k + 1) ∧ Kept [] w10 wr2) (fun s63 _ _ _ => jn - (intOf s63).toNat)
      case atStart => exact ⟨0, false, by omega, by first | rfl | go_num, rfl, hidOf ⟨fun z => (by cases z), fun ⟨j, h, _⟩ => absurd h (Nat.not_lt_zero _)⟩, Kept.refl _ _⟩
      case round =>
        obtain ⟨i, D, hi, rfl, rfl, HD, KI⟩ := hrel
        have HKI := hidOf KI
        clear KI
        by_cases hlti : i < jn
        · have hiz : (i : Int) < (jn : Int) := by omega
          obtain ⟨jb, rfl, jl, jc0⟩ := HCL.out i hlti
          obtain ⟨J, hJ⟩ : ∃ J, J = js.getD i 0 := ⟨_, rfl⟩
          rw [jsI_get, ← hJ] at jc0
          have cj := (kept_cell HKI.out (b := jb) (o := i) jl).trans jc0
          have cl := Nat.lt_of_lt_of_le jl HKI.out.size
          have NXT : Hid (∀ D2 : Bool, (D2 = true ↔ (D = true ∨ J = k + 1)) → (D2 = true ↔ ∃ j, j < i + 1 ∧ js.getD j 0 = k + 1)) := hidOf (fun D2 h => by
            rw [h, HD.out]
            constructor
            · rintro (⟨j, a, b⟩ | a)
              · exact ⟨j, by omega, b⟩
              · exact ⟨i, by omega, by rw [← hJ]; exact a⟩
            · rintro ⟨j, a, b⟩
              by_cases e : j = i
              · right; rw [hJ, ← e]; exact b
              · left; exact ⟨j, by omega, b⟩)
          clear hJ jc0 jl
          cases D with
          | true =>
            go_wp2
            go_roundw
            case rel => exact ⟨i + 1, true, by omega, by go_num, rfl, hidOf (NXT.out true (by simp)), HKI.out⟩
            case measure => simp [intOf]; omega
          | false =>
            by_cases hJK : J = k + 1
            · have hb : ((J : Int) == (k : Int) + 1) = true := by simp; omega
              have HJ := hidOf hJK
              clear hJK
              go_wp2
              go_roundw
              case rel => exact ⟨i + 1, true, by omega, by go_num, rfl, hidOf (NXT.out true (by simp [HJ.out])), HKI.out⟩
              case measure => simp [intOf]; omega
            · have hb : ((J : Int) == (k : Int) + 1) = false := by simp; omega
              have HJ := hidOf hJK
              clear hJK
              go_wp2
              go_roundw
              case rel => exact ⟨i + 1, false, by omega, by go_num, rfl, hidOf (NXT.out false (by simp [HJ.out])), HKI.out⟩
              case measure => simp [intOf]; omega
        · have hie : i = jn := by omega
          have hiz : ¬ (i : Int) < (jn : Int) := by omega
          have HDU := hidOf (show D = true ↔ L < U from by rw [HD.out, hie]; exact HIN.out)
          have HB11 := hidOf (And.intro (HB10.out.1.new HKI.out) HB10.out.2)
          obtain ⟨⟨-, y2, y3, -⟩, yl⟩ := RO.out _ (HX.out.2.trans HB11.out.1.fw.kp)
          have wtm : IntKind.i64.wrap (TT - MM) = TT - MM := by rw [IntKind.wrap_i64]; omega
          clear hie HD HB10 HKI HCL HIN
          by_cases hLU : (L : Int) < TT - MM
          · have hDt : D = true := HDU.out.2 (by omega)
            subst hDt
            have hlb : decide ((L : Int) < TT - MM) = true := by simpa using hLU
            go_wp2_with fail
            go_region
            go_wp2
            go_roundw
            case rel => exact ⟨L + 1, by omega, by omega, by go_num, cnt2, a2, by first | exact HB11.out.1.new (Kept.refl _ _).drew | exact HB11.out.1, by have := HB11.out.2; omega, by have := HB11.out.2; omega⟩
            case measure => simp [intOf]; omega
          · have hDf : D = false := by
              cases hD : D with
              | false => rfl
              | true => have := HDU.out.1 hD; omega
            subst hDf
            have hlb : decide ((L : Int) < TT - MM) = false := by simpa using hLU
            go_wp2_with fail
            go_region
            go_wp2
            go_roundw
            case rel => exact ⟨L + 1, by omega, by omega, by go_num, cnt2, a2, by first | exact HB11.out.1.new (Kept.refl _ _).drew | exact HB11.out.1, by have := HB11.out.2; omega, by have := HB11.out.2; omega⟩
            case measure => simp [intOf]; omega
    · have KF := hidOf (HX.out.2.trans HZ.out.1.fw.kp)
      have ALV := hidOf (fun (Y : World) (kk : Kept [] wr Y) => (alive_any Y (HZ.out.1.new kk).fw.st.tb).mono fun _ _ z => And.intro z.1 (kk.trans z.2))
      have DNE := hidOf (fun (Y : World) (kk : Kept [] wr Y) => (bdone_any b fb9 s Y (HZ.out.1.new kk).bb).mono fun _ w' z => (⟨z.1, by rw [z.2]; exact kk⟩ : _ ∧ Kept [] wr w'))
      rw [HI.out.1] at DNE
      have LVL := hidOf (fun (Y : World) (kk : Kept [] wr Y) => (blevel_any b fb9 _ _ _ _ _ _ Y (HZ.out.1.new kk).bb).mono fun _ w' z => (⟨z.1, by rw [z.2]; exact kk⟩ : _ ∧ Kept [] wr w'))
      rw [HI.out.2.lv] at LVL
      have HS0 : Hid (∀ W' : World, Kept [] wr W' → W'.cell? ⟨b1, o1 + k * 5 + 2, none⟩ = some (.int .i64 TT) ∧ W'.cell? ⟨b1, o1 + k * 5 + 3, none⟩ = some (.int .i64 MM)) := hidOf (fun W' kk => by
        have z := (RO.out W' (KF.out.trans kk)).1
        exact ⟨z.2.1, z.2.2.1⟩)
      have wtm : IntKind.i64.wrap (TT - MM) = TT - MM := by rw [IntKind.wrap_i64]; omega
      by_cases hU1 : 1 < TT - MM
      · rw [show ((max 1 U : Nat) : Int) = TT - MM by omega] at LVL
        go_wp2_with fail
        refine wp_region_held_drew (S := fun w' => Kept [] wr w') (by kernel_rfl) (Kept.refl [] wr).drew (fun hS => ?_)
        refine wpAnyH_ready (rs := [0]) (by kernel_rfl) (by simp) ?_
        refine AllReadyH.cons (o := { dst := some 90, op := Op.call { callee := Callee.value (Operand.func 9), args := #[], argTypes := #[] }, type := 4, pos := "law.go:165", after := #[], guard := none }) rfl (fun K hK => ?_) AllReadyH.nil
        rw [if_pos (by rfl)]
        refine wp_calls 9 #[] (by kernel_rfl) (fun v V => v = .bool true ∧ Kept [] wr V) ((ALV.out _ hS).mono fun e w' hh => ⟨_, hh.1, rfl, hh.2⟩) ?_
        rintro _ wt0 ⟨rfl, KT0⟩
        try simp only [Act.put, List.setIfInBounds_toArray, List.set_cons_zero, List.set_cons_succ]
        refine hK.out _ _ (KT0) (fun hS => ?_)
        clear hK K
        refine wpAnyH_take (i := 1) (oi := { dst := some 91, op := Op.move (Operand.tmp 90), type := 4, pos := "law.go:165", after := #[{ on := 0, ground := Ground.data }, { on := 0, ground := Ground.chain }], guard := none }) (v := .bool true) rfl (by kernel_rfl) (by kernel_rfl) (by kernel_rfl) (fun _ _ _ h => h) (Or.inl ⟨by rfl, fun w hSw => by obtain ⟨q0, q1⟩ := HS0.out _ hSw; go_simp⟩) hS ?_
        try simp only [Act.put, List.setIfInBounds_toArray, List.set_cons_zero, List.set_cons_succ]
        refine wpAnyH_take (i := 2) (oi := { dst := some 92, op := Op.move (Operand.tmp 10), type := 32, pos := "law.go:165", after := #[{ on := 1, ground := Ground.guard }], guard := some (1, true) }) (v := .pointer (some ⟨b, 0, none⟩)) rfl (by kernel_rfl) (by kernel_rfl) (by kernel_rfl) (fun _ _ _ h => h) (Or.inl ⟨by rfl, fun w hSw => by obtain ⟨q0, q1⟩ := HS0.out _ hSw; go_simp⟩) hS ?_
        try simp only [Act.put, List.setIfInBounds_toArray, List.set_cons_zero, List.set_cons_succ]
        refine wpAnyH_ready (rs := [3]) (by kernel_rfl) (by simp) ?_
        refine AllReadyH.cons (o := { dst := some 93, op := Op.call { callee := Callee.value (Operand.func 14), args := #[Operand.tmp 92], argTypes := #[32] }, type := 4, pos := "law.go:165", after := #[{ on := 2, ground := Ground.data }, { on := 1, ground := Ground.chain }, { on := 1, ground := Ground.guard }], guard := some (1, true) }) rfl (fun K hK => ?_) AllReadyH.nil
        rw [if_pos (by rfl)]
        refine wp_calls 14 #[.pointer (some ⟨b, 0, none⟩)] (by kernel_rfl) (fun v V => v = .bool true ∧ Kept [] wr V) ((DNE.out _ hS).mono fun e w' hh => ⟨_, hh.1, rfl, hh.2⟩) ?_
        rintro _ wt1 ⟨rfl, KT1⟩
        try simp only [Act.put, List.setIfInBounds_toArray, List.set_cons_zero, List.set_cons_succ]
        refine hK.out _ _ (KT1) (fun hS => ?_)
        clear hK K
        refine wpAnyH_take (i := 4) (oi := { dst := some 94, op := Op.pick (Operand.tmp 91) (Operand.tmp 93) (Operand.const (Value.bool false)), type := 4, pos := "law.go:165", after := #[{ on := 1, ground := Ground.data }, { on := 3, ground := Ground.data }], guard := none }) (v := .bool true) rfl (by kernel_rfl) (by kernel_rfl) (by kernel_rfl) (fun _ _ _ h => h) (Or.inl ⟨by rfl, fun w hSw => by obtain ⟨q0, q1⟩ := HS0.out _ hSw; go_simp⟩) hS ?_
        try simp only [Act.put, List.setIfInBounds_toArray, List.set_cons_zero, List.set_cons_succ]
        refine wpAnyH_take (i := 5) (oi := { dst := some 95, op := Op.move (Operand.tmp 94), type := 4, pos := "law.go:165", after := #[{ on := 4, ground := Ground.data }, { on := 3, ground := Ground.chain }], guard := none }) (v := .bool true) rfl (by kernel_rfl) (by kernel_rfl) (by kernel_rfl) (fun _ _ _ h => h) (Or.inl ⟨by rfl, fun w hSw => by obtain ⟨q0, q1⟩ := HS0.out _ hSw; go_simp⟩) hS ?_
        try simp only [Act.put, List.setIfInBounds_toArray, List.set_cons_zero, List.set_cons_succ]
        refine wpAnyH_take (i := 6) (oi := { dst := some 96, op := Op.move (Operand.tmp 10), type := 32, pos := "law.go:165", after := #[{ on := 5, ground := Ground.guard }], guard := some (5, true) }) (v := .pointer (some ⟨b, 0, none⟩)) rfl (by kernel_rfl) (by kernel_rfl) (by kernel_rfl) (fun _ _ _ h => h) (Or.inl ⟨by rfl, fun w hSw => by obtain ⟨q0, q1⟩ := HS0.out _ hSw; go_simp⟩) hS ?_
        try simp only [Act.put, List.setIfInBounds_toArray, List.set_cons_zero, List.set_cons_succ]
        refine wpAnyH_take (i := 8) (oi := { dst := some 98, op := Op.move (Operand.tmp 1), type := 24, pos := "law.go:165", after := #[{ on := 5, ground := Ground.guard }], guard := some (5, true) }) (v := .slice (some ⟨b1, o1, none⟩) n cap) rfl (by kernel_rfl) (by kernel_rfl) (by kernel_rfl) (fun _ _ _ h => h) (Or.inl ⟨by rfl, fun w hSw => by obtain ⟨q0, q1⟩ := HS0.out _ hSw; go_simp⟩) hS ?_
        try simp only [Act.put, List.setIfInBounds_toArray, List.set_cons_zero, List.set_cons_succ]
        refine wpAnyH_take (i := 9) (oi := { dst := some 99, op := Op.move (Operand.tmp 2), type := 3, pos := "law.go:165", after := #[{ on := 5, ground := Ground.guard }], guard := some (5, true) }) (v := .int .i64 (k : Int)) rfl (by kernel_rfl) (by kernel_rfl) (by kernel_rfl) (fun _ _ _ h => h) (Or.inl ⟨by rfl, fun w hSw => by obtain ⟨q0, q1⟩ := HS0.out _ hSw; go_simp⟩) hS ?_
        try simp only [Act.put, List.setIfInBounds_toArray, List.set_cons_zero, List.set_cons_succ]
        refine wpAnyH_take (i := 10) (oi := { dst := some 100, op := Op.indexAddr 24 (Operand.tmp 98) (Operand.tmp 99), type := 0, pos := "law.go:165", after := #[{ on := 8, ground := Ground.data }, { on := 9, ground := Ground.data }, { on := 5, ground := Ground.guard }], guard := some (5, true) }) (v := .pointer (some ⟨b1, o1 + k * 5, none⟩)) rfl (by kernel_rfl) (by kernel_rfl) (by kernel_rfl) (fun _ _ _ h => h) (Or.inl ⟨by rfl, fun w hSw => by obtain ⟨q0, q1⟩ := HS0.out _ hSw; go_simp⟩) hS ?_
        try simp only [Act.put, List.setIfInBounds_toArray, List.set_cons_zero, List.set_cons_succ]
        refine wpAnyH_take (i := 11) (oi := { dst := some 101, op := Op.fieldAddr 27 (Operand.tmp 100) 2, type := 0, pos := "law.go:165", after := #[{ on := 10, ground := Ground.data }, { on := 5, ground := Ground.guard }], guard := some (5, true) }) (v := .pointer (some ⟨b1, o1 + k * 5 + 2, none⟩)) rfl (by kernel_rfl) (by kernel_rfl) (by kernel_rfl) (fun _ _ _ h => h) (Or.inl ⟨by rfl, fun w hSw => by obtain ⟨q0, q1⟩ := HS0.out _ hSw; go_simp⟩) hS ?_
        try simp only [Act.put, List.setIfInBounds_toArray, List.set_cons_zero, List.set_cons_succ]
        refine wpAnyH_take (i := 12) (oi := { dst := some 102, op := Op.load 3 (Operand.tmp 101), type := 3, pos := "law.go:165", after := #[{ on := 11, ground := Ground.data }, { on := 5, ground := Ground.guard }], guard := some (5, true) }) (v := .int .i64 TT) rfl (by kernel_rfl) (by kernel_rfl) (by kernel_rfl) (fun _ _ _ h => h) (Or.inl ⟨by rfl, fun w hSw => by obtain ⟨q0, q1⟩ := HS0.out _ hSw; go_simp⟩) hS ?_
        try simp only [Act.put, List.setIfInBounds_toArray, List.set_cons_zero, List.set_cons_succ]
        refine wpAnyH_take (i := 13) (oi := { dst := some 103, op := Op.move (Operand.tmp 1), type := 24, pos := "law.go:165", after := #[{ on := 5, ground := Ground.guard }], guard := some (5, true) }) (v := .slice (some ⟨b1, o1, none⟩) n cap) rfl (by kernel_rfl) (by kernel_rfl) (by kernel_rfl) (fun _ _ _ h => h) (Or.inl ⟨by rfl, fun w hSw => by obtain ⟨q0, q1⟩ := HS0.out _ hSw; go_simp⟩) hS ?_
        try simp only [Act.put, List.setIfInBounds_toArray, List.set_cons_zero, List.set_cons_succ]
        refine wpAnyH_take (i := 14) (oi := { dst := some 104, op := Op.move (Operand.tmp 2), type := 3, pos := "law.go:165", after := #[{ on := 5, ground := Ground.guard }], guard := some (5, true) }) (v := .int .i64 (k : Int)) rfl (by kernel_rfl) (by kernel_rfl) (by kernel_rfl) (fun _ _ _ h => h) (Or.inl ⟨by rfl, fun w hSw => by obtain ⟨q0, q1⟩ := HS0.out _ hSw; go_simp⟩) hS ?_
        try simp only [Act.put, List.setIfInBounds_toArray, List.set_cons_zero, List.set_cons_succ]
        refine wpAnyH_take (i := 15) (oi := { dst := some 105, op := Op.indexAddr 24 (Operand.tmp 103) (Operand.tmp 104), type := 0, pos := "law.go:165", after := #[{ on := 13, ground := Ground.data }, { on := 14, ground := Ground.data }, { on := 5, ground := Ground.guard }], guard := some (5, true) }) (v := .pointer (some ⟨b1, o1 + k * 5, none⟩)) rfl (by kernel_rfl) (by kernel_rfl) (by kernel_rfl) (fun _ _ _ h => h) (Or.inl ⟨by rfl, fun w hSw => by obtain ⟨q0, q1⟩ := HS0.out _ hSw; go_simp⟩) hS ?_
        try simp only [Act.put, List.setIfInBounds_toArray, List.set_cons_zero, List.set_cons_succ]
        refine wpAnyH_take (i := 16) (oi := { dst := some 106, op := Op.fieldAddr 27 (Operand.tmp 105) 3, type := 0, pos := "law.go:165", after := #[{ on := 15, ground := Ground.data }, { on := 5, ground := Ground.guard }], guard := some (5, true) }) (v := .pointer (some ⟨b1, o1 + k * 5 + 3, none⟩)) rfl (by kernel_rfl) (by kernel_rfl) (by kernel_rfl) (fun _ _ _ h => h) (Or.inl ⟨by rfl, fun w hSw => by obtain ⟨q0, q1⟩ := HS0.out _ hSw; go_simp⟩) hS ?_
        try simp only [Act.put, List.setIfInBounds_toArray, List.set_cons_zero, List.set_cons_succ]
        refine wpAnyH_take (i := 17) (oi := { dst := some 107, op := Op.load 3 (Operand.tmp 106), type := 3, pos := "law.go:165", after := #[{ on := 16, ground := Ground.data }, { on := 5, ground := Ground.guard }], guard := some (5, true) }) (v := .int .i64 MM) rfl (by kernel_rfl) (by kernel_rfl) (by kernel_rfl) (fun _ _ _ h => h) (Or.inl ⟨by rfl, fun w hSw => by obtain ⟨q0, q1⟩ := HS0.out _ hSw; go_simp⟩) hS ?_
        try simp only [Act.put, List.setIfInBounds_toArray, List.set_cons_zero, List.set_cons_succ]
        refine wpAnyH_take (i := 18) (oi := { dst := some 108, op := Op.binOp BinOp.sub 3 (Operand.tmp 102) (Operand.tmp 107) 3, type := 3, pos := "law.go:165", after := #[{ on := 12, ground := Ground.data }, { on := 17, ground := Ground.data }, { on := 5, ground := Ground.guard }], guard := some (5, true) }) (v := .int .i64 (TT - MM)) rfl (by kernel_rfl) (by kernel_rfl) (by kernel_rfl) (fun _ _ _ h => h) (Or.inl ⟨by rfl, fun w hSw => by obtain ⟨q0, q1⟩ := HS0.out _ hSw; go_simp⟩) hS ?_
        try simp only [Act.put, List.setIfInBounds_toArray, List.set_cons_zero, List.set_cons_succ]
        refine wpAnyH_take (i := 19) (oi := { dst := some 109, op := Op.call { callee := Callee.builtin Builtin.max, args := #[Operand.const (Value.int IntKind.i64 1), Operand.tmp 108], argTypes := #[3, 3] }, type := 3, pos := "law.go:165", after := #[{ on := 18, ground := Ground.data }, { on := 5, ground := Ground.guard }], guard := some (5, true) }) (v := .int .i64 (TT - MM)) rfl (by kernel_rfl) (by kernel_rfl) (by kernel_rfl) (fun _ _ _ h => h) (Or.inl ⟨by rfl, fun w hSw => by obtain ⟨q0, q1⟩ := HS0.out _ hSw; go_simp⟩) hS ?_
        try simp only [Act.put, List.setIfInBounds_toArray, List.set_cons_zero, List.set_cons_succ]
        refine wpAnyH_ready (rs := [7]) (by kernel_rfl) (by simp) ?_
        refine AllReadyH.cons (o := { dst := some 97, op := Op.call { callee := Callee.value (Operand.func 15), args := #[Operand.tmp 96], argTypes := #[32] }, type := 3, pos := "law.go:165", after := #[{ on := 6, ground := Ground.data }, { on := 5, ground := Ground.chain }, { on := 5, ground := Ground.guard }], guard := some (5, true) }) rfl (fun K hK => ?_) AllReadyH.nil
        rw [if_pos (by rfl)]
        refine wp_calls 15 #[.pointer (some ⟨b, 0, none⟩)] (by kernel_rfl) (fun v V => v = .int .i64 (TT - MM) ∧ Kept [] wr V) ((LVL.out _ hS).mono fun e w' hh => ⟨_, hh.1, rfl, hh.2⟩) ?_
        rintro _ wt2 ⟨rfl, KT2⟩
        try simp only [Act.put, List.setIfInBounds_toArray, List.set_cons_zero, List.set_cons_succ]
        refine hK.out _ _ (KT2) (fun hS => ?_)
        clear hK K
        refine wpAnyH_take (i := 20) (oi := { dst := some 110, op := Op.binOp BinOp.eql 3 (Operand.tmp 97) (Operand.tmp 109) 3, type := 4, pos := "law.go:165", after := #[{ on := 7, ground := Ground.data }, { on := 19, ground := Ground.data }, { on := 5, ground := Ground.guard }], guard := some (5, true) }) (v := .bool true) rfl (by kernel_rfl) (by kernel_rfl) (by kernel_rfl) (fun _ _ _ h => h) (Or.inl ⟨by rfl, fun w hSw => by obtain ⟨q0, q1⟩ := HS0.out _ hSw; go_simp⟩) hS ?_
        try simp only [Act.put, List.setIfInBounds_toArray, List.set_cons_zero, List.set_cons_succ]
        refine wpAnyH_take (i := 21) (oi := { dst := some 111, op := Op.pick (Operand.tmp 95) (Operand.tmp 110) (Operand.const (Value.bool false)), type := 4, pos := "law.go:165", after := #[{ on := 5, ground := Ground.data }, { on := 20, ground := Ground.data }], guard := none }) (v := .bool true) rfl (by kernel_rfl) (by kernel_rfl) (by kernel_rfl) (fun _ _ _ h => h) (Or.inl ⟨by rfl, fun w hSw => by obtain ⟨q0, q1⟩ := HS0.out _ hSw; go_simp⟩) hS ?_
        try simp only [Act.put, List.setIfInBounds_toArray, List.set_cons_zero, List.set_cons_succ]
        refine wpAnyH_take (i := 22) (oi := { dst := some 6, op := Op.assign (Operand.tmp 111), type := 4, pos := "law.go:165", after := #[{ on := 21, ground := Ground.data }, { on := 7, ground := Ground.chain }, { on := 0, ground := Ground.phase }, { on := 1, ground := Ground.phase }, { on := 2, ground := Ground.phase }, { on := 3, ground := Ground.phase }, { on := 4, ground := Ground.phase }, { on := 5, ground := Ground.phase }, { on := 6, ground := Ground.phase }, { on := 7, ground := Ground.phase }, { on := 8, ground := Ground.phase }, { on := 9, ground := Ground.phase }, { on := 10, ground := Ground.phase }, { on := 11, ground := Ground.phase }, { on := 12, ground := Ground.phase }, { on := 13, ground := Ground.phase }, { on := 14, ground := Ground.phase }, { on := 15, ground := Ground.phase }, { on := 16, ground := Ground.phase }, { on := 17, ground := Ground.phase }, { on := 18, ground := Ground.phase }, { on := 19, ground := Ground.phase }, { on := 20, ground := Ground.phase }, { on := 21, ground := Ground.phase }], guard := none }) (v := .bool true) rfl (by kernel_rfl) (by kernel_rfl) (by kernel_rfl) (fun _ _ _ h => h) (Or.inl ⟨by rfl, fun w hSw => by obtain ⟨q0, q1⟩ := HS0.out _ hSw; go_simp⟩) hS ?_
        try simp only [Act.put, List.setIfInBounds_toArray, List.set_cons_zero, List.set_cons_succ]
        refine wpAnyH_done (by kernel_rfl) ?_ _
        have KR := hidOf (KF.out.trans KT2)
        clear hS
        go_wp2
        go_ret
        exact ⟨rfl, KR.out⟩
      · rw [show ((max 1 U : Nat) : Int) = 1 by omega] at LVL
        have hmx : (if 1 < TT - MM then TT - MM else 1) = 1 := if_neg hU1
        go_wp2_with fail
        refine wp_region_held_drew (S := fun w' => Kept [] wr w') (by kernel_rfl) (Kept.refl [] wr).drew (fun hS => ?_)
        refine wpAnyH_ready (rs := [0]) (by kernel_rfl) (by simp) ?_
        refine AllReadyH.cons (o := { dst := some 90, op := Op.call { callee := Callee.value (Operand.func 9), args := #[], argTypes := #[] }, type := 4, pos := "law.go:165", after := #[], guard := none }) rfl (fun K hK => ?_) AllReadyH.nil
        rw [if_pos (by rfl)]
        refine wp_calls 9 #[] (by kernel_rfl) (fun v V => v = .bool true ∧ Kept [] wr V) ((ALV.out _ hS).mono fun e w' hh => ⟨_, hh.1, rfl, hh.2⟩) ?_
        rintro _ wt0 ⟨rfl, KT0⟩
        try simp only [Act.put, List.setIfInBounds_toArray, List.set_cons_zero, List.set_cons_succ]
        refine hK.out _ _ (KT0) (fun hS => ?_)
        clear hK K
        refine wpAnyH_take (i := 1) (oi := { dst := some 91, op := Op.move (Operand.tmp 90), type := 4, pos := "law.go:165", after := #[{ on := 0, ground := Ground.data }, { on := 0, ground := Ground.chain }], guard := none }) (v := .bool true) rfl (by kernel_rfl) (by kernel_rfl) (by kernel_rfl) (fun _ _ _ h => h) (Or.inl ⟨by rfl, fun w hSw => by obtain ⟨q0, q1⟩ := HS0.out _ hSw; go_simp⟩) hS ?_
        try simp only [Act.put, List.setIfInBounds_toArray, List.set_cons_zero, List.set_cons_succ]
        refine wpAnyH_take (i := 2) (oi := { dst := some 92, op := Op.move (Operand.tmp 10), type := 32, pos := "law.go:165", after := #[{ on := 1, ground := Ground.guard }], guard := some (1, true) }) (v := .pointer (some ⟨b, 0, none⟩)) rfl (by kernel_rfl) (by kernel_rfl) (by kernel_rfl) (fun _ _ _ h => h) (Or.inl ⟨by rfl, fun w hSw => by obtain ⟨q0, q1⟩ := HS0.out _ hSw; go_simp⟩) hS ?_
        try simp only [Act.put, List.setIfInBounds_toArray, List.set_cons_zero, List.set_cons_succ]
        refine wpAnyH_ready (rs := [3]) (by kernel_rfl) (by simp) ?_
        refine AllReadyH.cons (o := { dst := some 93, op := Op.call { callee := Callee.value (Operand.func 14), args := #[Operand.tmp 92], argTypes := #[32] }, type := 4, pos := "law.go:165", after := #[{ on := 2, ground := Ground.data }, { on := 1, ground := Ground.chain }, { on := 1, ground := Ground.guard }], guard := some (1, true) }) rfl (fun K hK => ?_) AllReadyH.nil
        rw [if_pos (by rfl)]
        refine wp_calls 14 #[.pointer (some ⟨b, 0, none⟩)] (by kernel_rfl) (fun v V => v = .bool true ∧ Kept [] wr V) ((DNE.out _ hS).mono fun e w' hh => ⟨_, hh.1, rfl, hh.2⟩) ?_
        rintro _ wt1 ⟨rfl, KT1⟩
        try simp only [Act.put, List.setIfInBounds_toArray, List.set_cons_zero, List.set_cons_succ]
        refine hK.out _ _ (KT1) (fun hS => ?_)
        clear hK K
        refine wpAnyH_take (i := 4) (oi := { dst := some 94, op := Op.pick (Operand.tmp 91) (Operand.tmp 93) (Operand.const (Value.bool false)), type := 4, pos := "law.go:165", after := #[{ on := 1, ground := Ground.data }, { on := 3, ground := Ground.data }], guard := none }) (v := .bool true) rfl (by kernel_rfl) (by kernel_rfl) (by kernel_rfl) (fun _ _ _ h => h) (Or.inl ⟨by rfl, fun w hSw => by obtain ⟨q0, q1⟩ := HS0.out _ hSw; go_simp⟩) hS ?_
        try simp only [Act.put, List.setIfInBounds_toArray, List.set_cons_zero, List.set_cons_succ]
        refine wpAnyH_take (i := 5) (oi := { dst := some 95, op := Op.move (Operand.tmp 94), type := 4, pos := "law.go:165", after := #[{ on := 4, ground := Ground.data }, { on := 3, ground := Ground.chain }], guard := none }) (v := .bool true) rfl (by kernel_rfl) (by kernel_rfl) (by kernel_rfl) (fun _ _ _ h => h) (Or.inl ⟨by rfl, fun w hSw => by obtain ⟨q0, q1⟩ := HS0.out _ hSw; go_simp⟩) hS ?_
        try simp only [Act.put, List.setIfInBounds_toArray, List.set_cons_zero, List.set_cons_succ]
        refine wpAnyH_take (i := 6) (oi := { dst := some 96, op := Op.move (Operand.tmp 10), type := 32, pos := "law.go:165", after := #[{ on := 5, ground := Ground.guard }], guard := some (5, true) }) (v := .pointer (some ⟨b, 0, none⟩)) rfl (by kernel_rfl) (by kernel_rfl) (by kernel_rfl) (fun _ _ _ h => h) (Or.inl ⟨by rfl, fun w hSw => by obtain ⟨q0, q1⟩ := HS0.out _ hSw; go_simp⟩) hS ?_
        try simp only [Act.put, List.setIfInBounds_toArray, List.set_cons_zero, List.set_cons_succ]
        refine wpAnyH_take (i := 8) (oi := { dst := some 98, op := Op.move (Operand.tmp 1), type := 24, pos := "law.go:165", after := #[{ on := 5, ground := Ground.guard }], guard := some (5, true) }) (v := .slice (some ⟨b1, o1, none⟩) n cap) rfl (by kernel_rfl) (by kernel_rfl) (by kernel_rfl) (fun _ _ _ h => h) (Or.inl ⟨by rfl, fun w hSw => by obtain ⟨q0, q1⟩ := HS0.out _ hSw; go_simp⟩) hS ?_
        try simp only [Act.put, List.setIfInBounds_toArray, List.set_cons_zero, List.set_cons_succ]
        refine wpAnyH_take (i := 9) (oi := { dst := some 99, op := Op.move (Operand.tmp 2), type := 3, pos := "law.go:165", after := #[{ on := 5, ground := Ground.guard }], guard := some (5, true) }) (v := .int .i64 (k : Int)) rfl (by kernel_rfl) (by kernel_rfl) (by kernel_rfl) (fun _ _ _ h => h) (Or.inl ⟨by rfl, fun w hSw => by obtain ⟨q0, q1⟩ := HS0.out _ hSw; go_simp⟩) hS ?_
        try simp only [Act.put, List.setIfInBounds_toArray, List.set_cons_zero, List.set_cons_succ]
        refine wpAnyH_take (i := 10) (oi := { dst := some 100, op := Op.indexAddr 24 (Operand.tmp 98) (Operand.tmp 99), type := 0, pos := "law.go:165", after := #[{ on := 8, ground := Ground.data }, { on := 9, ground := Ground.data }, { on := 5, ground := Ground.guard }], guard := some (5, true) }) (v := .pointer (some ⟨b1, o1 + k * 5, none⟩)) rfl (by kernel_rfl) (by kernel_rfl) (by kernel_rfl) (fun _ _ _ h => h) (Or.inl ⟨by rfl, fun w hSw => by obtain ⟨q0, q1⟩ := HS0.out _ hSw; go_simp⟩) hS ?_
        try simp only [Act.put, List.setIfInBounds_toArray, List.set_cons_zero, List.set_cons_succ]
        refine wpAnyH_take (i := 11) (oi := { dst := some 101, op := Op.fieldAddr 27 (Operand.tmp 100) 2, type := 0, pos := "law.go:165", after := #[{ on := 10, ground := Ground.data }, { on := 5, ground := Ground.guard }], guard := some (5, true) }) (v := .pointer (some ⟨b1, o1 + k * 5 + 2, none⟩)) rfl (by kernel_rfl) (by kernel_rfl) (by kernel_rfl) (fun _ _ _ h => h) (Or.inl ⟨by rfl, fun w hSw => by obtain ⟨q0, q1⟩ := HS0.out _ hSw; go_simp⟩) hS ?_
        try simp only [Act.put, List.setIfInBounds_toArray, List.set_cons_zero, List.set_cons_succ]
        refine wpAnyH_take (i := 12) (oi := { dst := some 102, op := Op.load 3 (Operand.tmp 101), type := 3, pos := "law.go:165", after := #[{ on := 11, ground := Ground.data }, { on := 5, ground := Ground.guard }], guard := some (5, true) }) (v := .int .i64 TT) rfl (by kernel_rfl) (by kernel_rfl) (by kernel_rfl) (fun _ _ _ h => h) (Or.inl ⟨by rfl, fun w hSw => by obtain ⟨q0, q1⟩ := HS0.out _ hSw; go_simp⟩) hS ?_
        try simp only [Act.put, List.setIfInBounds_toArray, List.set_cons_zero, List.set_cons_succ]
        refine wpAnyH_take (i := 13) (oi := { dst := some 103, op := Op.move (Operand.tmp 1), type := 24, pos := "law.go:165", after := #[{ on := 5, ground := Ground.guard }], guard := some (5, true) }) (v := .slice (some ⟨b1, o1, none⟩) n cap) rfl (by kernel_rfl) (by kernel_rfl) (by kernel_rfl) (fun _ _ _ h => h) (Or.inl ⟨by rfl, fun w hSw => by obtain ⟨q0, q1⟩ := HS0.out _ hSw; go_simp⟩) hS ?_
        try simp only [Act.put, List.setIfInBounds_toArray, List.set_cons_zero, List.set_cons_succ]
        refine wpAnyH_take (i := 14) (oi := { dst := some 104, op := Op.move (Operand.tmp 2), type := 3, pos := "law.go:165", after := #[{ on := 5, ground := Ground.guard }], guard := some (5, true) }) (v := .int .i64 (k : Int)) rfl (by kernel_rfl) (by kernel_rfl) (by kernel_rfl) (fun _ _ _ h => h) (Or.inl ⟨by rfl, fun w hSw => by obtain ⟨q0, q1⟩ := HS0.out _ hSw; go_simp⟩) hS ?_
        try simp only [Act.put, List.setIfInBounds_toArray, List.set_cons_zero, List.set_cons_succ]
        refine wpAnyH_take (i := 15) (oi := { dst := some 105, op := Op.indexAddr 24 (Operand.tmp 103) (Operand.tmp 104), type := 0, pos := "law.go:165", after := #[{ on := 13, ground := Ground.data }, { on := 14, ground := Ground.data }, { on := 5, ground := Ground.guard }], guard := some (5, true) }) (v := .pointer (some ⟨b1, o1 + k * 5, none⟩)) rfl (by kernel_rfl) (by kernel_rfl) (by kernel_rfl) (fun _ _ _ h => h) (Or.inl ⟨by rfl, fun w hSw => by obtain ⟨q0, q1⟩ := HS0.out _ hSw; go_simp⟩) hS ?_
        try simp only [Act.put, List.setIfInBounds_toArray, List.set_cons_zero, List.set_cons_succ]
        refine wpAnyH_take (i := 16) (oi := { dst := some 106, op := Op.fieldAddr 27 (Operand.tmp 105) 3, type := 0, pos := "law.go:165", after := #[{ on := 15, ground := Ground.data }, { on := 5, ground := Ground.guard }], guard := some (5, true) }) (v := .pointer (some ⟨b1, o1 + k * 5 + 3, none⟩)) rfl (by kernel_rfl) (by kernel_rfl) (by kernel_rfl) (fun _ _ _ h => h) (Or.inl ⟨by rfl, fun w hSw => by obtain ⟨q0, q1⟩ := HS0.out _ hSw; go_simp⟩) hS ?_
        try simp only [Act.put, List.setIfInBounds_toArray, List.set_cons_zero, List.set_cons_succ]
        refine wpAnyH_take (i := 17) (oi := { dst := some 107, op := Op.load 3 (Operand.tmp 106), type := 3, pos := "law.go:165", after := #[{ on := 16, ground := Ground.data }, { on := 5, ground := Ground.guard }], guard := some (5, true) }) (v := .int .i64 MM) rfl (by kernel_rfl) (by kernel_rfl) (by kernel_rfl) (fun _ _ _ h => h) (Or.inl ⟨by rfl, fun w hSw => by obtain ⟨q0, q1⟩ := HS0.out _ hSw; go_simp⟩) hS ?_
        try simp only [Act.put, List.setIfInBounds_toArray, List.set_cons_zero, List.set_cons_succ]
        refine wpAnyH_take (i := 18) (oi := { dst := some 108, op := Op.binOp BinOp.sub 3 (Operand.tmp 102) (Operand.tmp 107) 3, type := 3, pos := "law.go:165", after := #[{ on := 12, ground := Ground.data }, { on := 17, ground := Ground.data }, { on := 5, ground := Ground.guard }], guard := some (5, true) }) (v := .int .i64 (TT - MM)) rfl (by kernel_rfl) (by kernel_rfl) (by kernel_rfl) (fun _ _ _ h => h) (Or.inl ⟨by rfl, fun w hSw => by obtain ⟨q0, q1⟩ := HS0.out _ hSw; go_simp⟩) hS ?_
        try simp only [Act.put, List.setIfInBounds_toArray, List.set_cons_zero, List.set_cons_succ]
        refine wpAnyH_take (i := 19) (oi := { dst := some 109, op := Op.call { callee := Callee.builtin Builtin.max, args := #[Operand.const (Value.int IntKind.i64 1), Operand.tmp 108], argTypes := #[3, 3] }, type := 3, pos := "law.go:165", after := #[{ on := 18, ground := Ground.data }, { on := 5, ground := Ground.guard }], guard := some (5, true) }) (v := .int .i64 1) rfl (by kernel_rfl) (by kernel_rfl) (by kernel_rfl) (fun _ _ _ h => h) (Or.inl ⟨by rfl, fun w hSw => by obtain ⟨q0, q1⟩ := HS0.out _ hSw; go_simp⟩) hS ?_
        try simp only [Act.put, List.setIfInBounds_toArray, List.set_cons_zero, List.set_cons_succ]
        refine wpAnyH_ready (rs := [7]) (by kernel_rfl) (by simp) ?_
        refine AllReadyH.cons (o := { dst := some 97, op := Op.call { callee := Callee.value (Operand.func 15), args := #[Operand.tmp 96], argTypes := #[32] }, type := 3, pos := "law.go:165", after := #[{ on := 6, ground := Ground.data }, { on := 5, ground := Ground.chain }, { on := 5, ground := Ground.guard }], guard := some (5, true) }) rfl (fun K hK => ?_) AllReadyH.nil
        rw [if_pos (by rfl)]
        refine wp_calls 15 #[.pointer (some ⟨b, 0, none⟩)] (by kernel_rfl) (fun v V => v = .int .i64 1 ∧ Kept [] wr V) ((LVL.out _ hS).mono fun e w' hh => ⟨_, hh.1, rfl, hh.2⟩) ?_
        rintro _ wt2 ⟨rfl, KT2⟩
        try simp only [Act.put, List.setIfInBounds_toArray, List.set_cons_zero, List.set_cons_succ]
        refine hK.out _ _ (KT2) (fun hS => ?_)
        clear hK K
        refine wpAnyH_take (i := 20) (oi := { dst := some 110, op := Op.binOp BinOp.eql 3 (Operand.tmp 97) (Operand.tmp 109) 3, type := 4, pos := "law.go:165", after := #[{ on := 7, ground := Ground.data }, { on := 19, ground := Ground.data }, { on := 5, ground := Ground.guard }], guard := some (5, true) }) (v := .bool true) rfl (by kernel_rfl) (by kernel_rfl) (by kernel_rfl) (fun _ _ _ h => h) (Or.inl ⟨by rfl, fun w hSw => by obtain ⟨q0, q1⟩ := HS0.out _ hSw; go_simp⟩) hS ?_
        try simp only [Act.put, List.setIfInBounds_toArray, List.set_cons_zero, List.set_cons_succ]
        refine wpAnyH_take (i := 21) (oi := { dst := some 111, op := Op.pick (Operand.tmp 95) (Operand.tmp 110) (Operand.const (Value.bool false)), type := 4, pos := "law.go:165", after := #[{ on := 5, ground := Ground.data }, { on := 20, ground := Ground.data }], guard := none }) (v := .bool true) rfl (by kernel_rfl) (by kernel_rfl) (by kernel_rfl) (fun _ _ _ h => h) (Or.inl ⟨by rfl, fun w hSw => by obtain ⟨q0, q1⟩ := HS0.out _ hSw; go_simp⟩) hS ?_
        try simp only [Act.put, List.setIfInBounds_toArray, List.set_cons_zero, List.set_cons_succ]
        refine wpAnyH_take (i := 22) (oi := { dst := some 6, op := Op.assign (Operand.tmp 111), type := 4, pos := "law.go:165", after := #[{ on := 21, ground := Ground.data }, { on := 7, ground := Ground.chain }, { on := 0, ground := Ground.phase }, { on := 1, ground := Ground.phase }, { on := 2, ground := Ground.phase }, { on := 3, ground := Ground.phase }, { on := 4, ground := Ground.phase }, { on := 5, ground := Ground.phase }, { on := 6, ground := Ground.phase }, { on := 7, ground := Ground.phase }, { on := 8, ground := Ground.phase }, { on := 9, ground := Ground.phase }, { on := 10, ground := Ground.phase }, { on := 11, ground := Ground.phase }, { on := 12, ground := Ground.phase }, { on := 13, ground := Ground.phase }, { on := 14, ground := Ground.phase }, { on := 15, ground := Ground.phase }, { on := 16, ground := Ground.phase }, { on := 17, ground := Ground.phase }, { on := 18, ground := Ground.phase }, { on := 19, ground := Ground.phase }, { on := 20, ground := Ground.phase }, { on := 21, ground := Ground.phase }], guard := none }) (v := .bool true) rfl (by kernel_rfl) (by kernel_rfl) (by kernel_rfl) (fun _ _ _ h => h) (Or.inl ⟨by rfl, fun w hSw => by obtain ⟨q0, q1⟩ := HS0.out _ hSw; go_simp⟩) hS ?_
        try simp only [Act.put, List.setIfInBounds_toArray, List.set_cons_zero, List.set_cons_succ]
        refine wpAnyH_done (by kernel_rfl) ?_ _
        have KR := hidOf (KF.out.trans KT2)
        clear hS
        go_wp2
        go_ret
        exact ⟨rfl, KR.out⟩

set_option maxRecDepth 100000 in
theorem buildDeleted_lifted (os : Os) (started : os.Started) (H : Type) (enc : TypeId × Value → H) :
    ReturnsInHanded {} Tryd.checked os 4 .any (fun w args => (Rows.buildDeletedSpec.pre enc Tryd.prog Tryd.f4 [] false w args ∧ laidMetH Tryd.prog laid1 w) ∧ sizedMet enc Tryd.prog Tryd.f4 (OpenSpec.ofChange Rows.buildDeletedSpec) false w args)
      (Rows.buildDeletedSpec.post enc Tryd.prog Tryd.f4 false true false false) := by
  refine returnsInHanded_of_change_and (C := Tryd.checked) (X := fun w _ => laidMetH Tryd.prog laid1 w) (fun _ _ _ hh h => h.of_heap hh) own started (by kernel_rfl) Tryd.func4
    (ChangeSpec.witness_shaped (enc := enc) (C := Tryd.checked) (os := os) (X := fun w _ => laidMetH Tryd.prog laid1 w) false (World.doorLaid Tryd.prog 400 os) #[.agg #[.int .i64 0, .int .i64 0, .int .i64 0, .int .i64 0, .int .i64 0, .int .i64 0, .int .i64 0], .slice none 0 0, .int .i64 0] 8 rfl (World.shaped_of_RefB (by kernel_rfl) (by kernel_rfl)) (by kernel_rfl) (by kernel_rfl) (by kernel_rfl) (door_met os _)) ?_
  intro W base args ds gs before hval0 hW _ _ hL _
  have hval : ∀ (j : Nat) t v, Tryd.f4.params[j]? = some t → args[j]? = some v → Value.okWide Tryd.prog W .any base t v := hval0
  have hW' := hW
  obtain ⟨p, q, hA0, hV, rfl, _, _⟩ := hW
  have hA : DataW.TrodAll enc Tryd.prog W 0 (fun _ => true) true Tryd.f4.params.toList args.toList ds p := hA0
  rw [Tryd.params4] at hA hval
  clear hA0 hval0
  obtain ⟨v0, vs0, d0, ds0, p0, q0, hargs, rfl, rfl, h0, r0⟩ := trodAll_cons hA
  obtain ⟨v1, vs1, d1, ds1, p1, q1, rfl, rfl, rfl, h1, r1⟩ := trodAll_cons r0
  obtain ⟨v2, vs2, d2, ds2, p2, q2, rfl, rfl, rfl, h2, r2⟩ := trodAll_cons r1
  obtain ⟨rfl, rfl, rfl⟩ := trodAll_nil r2
  obtain rfl : args = #[v0, v1, v2] := by cases args; simp_all
  obtain ⟨rfl, rfl⟩ := trodVars_none hV
  have k0 := h0
  have k1 := h1
  have k2 := h2
  simp only [List.append_nil] at hW'
  have hlt0 : ∀ x ∈ p0, x.block < W.heap.size := fun x hx => hW'.lt x (by simp [hx])
  have hlt1 : ∀ x ∈ p1, x.block < W.heap.size := fun x hx => hW'.lt x (by simp [hx])
  have hlt2 : ∀ x ∈ p2, x.block < W.heap.size := fun x hx => hW'.lt x (by simp [hx])
  obtain ⟨c0, rfl, g0⟩ := open_cfg (hval 0 23 v0 rfl rfl) h0
  obtain ⟨ao1, cap1, ns1, rfl, s1, g1, n1⟩ := open_nodes2 (hval 1 24 v1 rfl rfl) h1
  obtain ⟨a2, rfl, rfl, rfl, w2⟩ := open_int Tryd.underlying3 (hval 2 3 v2 rfl rfl) h2
  refine (buildDeleted_walk W c0 g0 ao1 ns1 cap1 s1 g1 n1 a2 w2 (tab_of_laid hL)).mono fun e W' ⟨he, hg⟩ => ?_
  subst he
  have hb := hg.below (by simp)
  exact ⟨_, rfl, _, _, _, [], _, [], hW', (trodAll_cons_mk (shut_bool Tryd.underlying4 _) trodAll_mk0), (trodAll_cons_mk (Below.trod laidOut (by kernel_rfl) (of_decide_eq_true (by kernel_rfl)) k0 hb hlt0) (trodAll_cons_mk (Below.trod laidOut (by kernel_rfl) (of_decide_eq_true (by kernel_rfl)) k1 hb hlt1) (trodAll_cons_mk (Below.trod laidOut (by kernel_rfl) (of_decide_eq_true (by kernel_rfl)) k2 hb hlt2) trodAll_mk0))), rfl, hb.frame _, fun h => by cases h⟩

theorem buildDeleted_over : Rows.BuildDeletedSaid :=
  OpenClaim.holds_of_wide 4 Tryd.f4 rfl rfl rfl rfl rfl rfl rfl ⟨rfl, rfl, rfl, rfl, rfl⟩ rfl rfl rfl rfl rfl (by kernel_rfl) Tryd.func4 (by kernel_rfl)
    (of_decide_eq_true (by kernel_rfl)) (by unfold Func.isWrapper; first | (rw [if_pos (by decide +kernel)]; kernel_rfl) | (rw [if_neg (by decide +kernel)]; exact ⟨rfl, rfl⟩))
    (fun os started H enc _ => buildDeleted_lifted os started H enc)

theorem buildDeleted_holds : Rows.BuildDeletedCardSaid :=
  Claim7.holds_tied_plain_at .later [] [.data] true (true, "7598bd54c92d53e360db6de8ec306489af839585ba1e399dd7dd108781c18b49") false
    buildDeleted_over (fun _ h => by cases h) (by kernel_rfl) (fun _ h => by cases h) buildDeleted_row_tie rfl ⟨rfl, rfl⟩ (by kernel_rfl) rfl
    (fun f fn hf hfn => by
      obtain rfl : f = 4 := Option.some.inj ((show Tryd.prog.funcNamed "stepstone/stepstonelaw13.BuildDeleted" = some 4 by kernel_rfl).symm.trans hf) |>.symm
      obtain rfl : fn = Tryd.f4 := (Option.some.inj (Tryd.func4.symm.trans hfn)).symm
      exact ⟨by kernel_rfl, fun j t ht => by
          rw [Tryd.params4] at ht
          rcases j with _ | j
          · have : t = 23 := by simpa using ht.symm
            subst this; exact (show Tryd.prog.wantsStandIn 23 = false by kernel_rfl)
          rcases j with _ | j
          · have : t = 24 := by simpa using ht.symm
            subst this; exact (show Tryd.prog.wantsStandIn 24 = false by kernel_rfl)
          rcases j with _ | j
          · have : t = 3 := by simpa using ht.symm
            subst this; exact (show Tryd.prog.wantsStandIn 3 = false by kernel_rfl)
          simp at ht⟩)
    (by kernel_rfl)
#print axioms buildDeleted_holds
end Go.Proofs.YtkjjieklccbmoaaDoor
