/-
  A swap that is lost is tried again, of what is there then: behind its end each level has the mark, whatever was written there between.
  Conditions: the package variable of handle that the code reads starts as the program's text lays it (the card ties it to that text).
-/
import Derived.Test.YtjbdaejkofkcpaaDoorJAlv
import Derived.Test.YtjbdaejkofkcpaaDoorJDown
import Derived.Test.YtjbdaejkofkcpaaDoorFRight
import Derived.Test.YtjbdaejkofkcpaaDoorHLaid
import Derived.Test.YtjbdaejkofkcpaaDoorPArgs
import Derived.Deep.CutRange
import Derived.ProofKit
import Derived.SizedLaws
import Derived.Carry
namespace Go.Proofs.YtjbdaejkofkcpaaDoor
open Go.ChangeShapes Go.WideShapes Go.ChangeAt Go.RowKit
open Go.Deep
open Go.Proofs.YtjbdaejkofkcpaaDoor.K
set_option maxRecDepth 100000

theorem En.store {c : Cfg} {T X : Int} {cs : List Int} (E : En c T X cs) (v : Int) : En c T X (clV cs 2 (clV' c X 6) 0 v) := by
  have h6 : inF c X (6 + 0) := E.has (Int.le_refl _) (by have := E.t0; omega)
  refine E.len (clV_len _ _ _ _ _) ?_
  unfold fd
  rw [rd_store, if_neg]
  rintro ⟨_, e⟩
  have := (cl_inj E.in4 h6 e).2
  omega
theorem hu_store {c : Cfg} {T X : Int} {cs : List Int} {s : Hm} (E : En c T X cs) (h : HU c T X cs s) (h3 : ¬ s.ph = 3) (v : Int) : HU c T X (clV cs 2 (clV' c X 6) 0 v) s := by
  have h6 : inF c X (6 + 0) := E.has (Int.le_refl _) (by have := E.t0; omega)
  refine ⟨h.ix, h.ph, h.lv, fun a L l0 l1 => ?_, fun z => absurd z h3⟩
  have l := h.lv a
  have z := h.up a L l0 l1
  unfold fd at z ⊢
  rw [rd_store, if_neg]
  · exact z
  · rintro ⟨_, e⟩
    have := (cl_inj (E.has (L := L) (by omega) l1) h6 e).2
    omega
/-- A help, the words, the boxes, at a step. -/
structure Lo (w wr : World) (q m p r a : Nat) (c : Cfg) (A : Array Value) (T X : Int) (cs : List Int) (s : Hm) (cnt : Int) : Prop where
  J : ∃ acc, Jm w wr m p r c cs cnt acc
  B : HB wr a s
  bx : Bx 76 wr q c A
  hi : HI c s
  oa : w.heap.size ≤ a
  E : En c T X cs
  u : HU c T X cs s
theorem Lo.new {w wr w' : World} {q m p r a : Nat} {c : Cfg} {A : Array Value} {T X : Int} {cs : List Int} {s : Hm} {cnt : Int} (h : Lo w wr q m p r a c A T X cs s cnt) (k : Kept [] wr w') : Lo w w' q m p r a c A T X cs s cnt :=
  ⟨by obtain ⟨acc, j⟩ := h.J; exact ⟨acc, j.new k⟩, h.B.kept k (by simp), h.bx.new k, h.hi, h.oa, h.E, h.u⟩
theorem Lo.step {w wr : World} {q m p r a : Nat} {c : Cfg} {A : Array Value} {T X : Int} {cs : List Int} {s : Hm} {cnt : Int} (h : Lo w wr q m p r a c A T X cs s cnt) (c1 : cnt < 100000) :
    Calls Tryd.prog 13 #[.pointer (some ⟨a, 0, none⟩), .pointer (some ⟨m, 0, none⟩)] wr fun e w' => e = .returned (.tuple #[]) ∧ Lo w w' q m p r a c A T X (hC c cs s) (hF c cs s) (hN cnt s) := by
  obtain ⟨acc, j⟩ := h.J
  refine (j.step h.B h.oa h.hi (by omega)).mono fun _ w' hh => ?_
  obtain ⟨e, J, B, K⟩ := hh
  exact ⟨e, ⟨_, J⟩, B, h.bx.far (by decide) (by decide) (by decide) h.B j.mm K, h.hi.step j.R j.wd, h.oa, hC_en h.E h.u, (h.u.step h.E).1⟩
theorem Lo.load {w wr : World} {q m p r a : Nat} {c : Cfg} {A : Array Value} {T X : Int} {cs : List Int} {s : Hm} {cnt : Int} (h : Lo w wr q m p r a c A T X cs s cnt) (c1 : cnt < 100000) {H f V : Int} (hH : isW H) (hx : ixV H = X) (hV : fd c cs X f = V) :
    Calls Tryd.prog 30 #[.pointer (some ⟨m, 0, none⟩), .int .u64 H, .int .i64 f] wr fun e w' => e = .returned (.int .u64 V) ∧ Lo w w' q m p r a c A T X cs s (cnt + 1) := by
  obtain ⟨acc, j⟩ := h.J
  refine (j.load H f hH (by omega)).mono fun _ w' hh => ?_
  obtain ⟨a', e, J, K⟩ := hh
  rw [hx, hV] at e
  exact ⟨e, ⟨_, J⟩, hb_load h.B j.mm K, h.bx.load (by decide) (by decide) j.mm K, h.hi, h.oa, h.E, h.u⟩
theorem Lo.store {w wr : World} {q m p r a : Nat} {c : Cfg} {A : Array Value} {T X : Int} {cs : List Int} {s : Hm} {cnt : Int} (h : Lo w wr q m p r a c A T X cs s cnt) (c1 : cnt < 100000) (h3 : ¬ s.ph = 3) {H v : Int} (hH : isW H) (hx : ixV H = X) (hv : isW v) :
    Calls Tryd.prog 31 #[.pointer (some ⟨m, 0, none⟩), .int .u64 H, .int .i64 6, .int .u64 v] wr fun e w' => e = .returned (.tuple #[]) ∧ ∃ ds, Lo w w' q m p r a c A T X ds s (cnt + 1) := by
  obtain ⟨acc, j⟩ := h.J
  refine (j.store H 6 v hH hv (by omega)).mono fun _ w' hh => ?_
  obtain ⟨a', e, J, K⟩ := hh
  rw [hx] at J
  exact ⟨e, _, ⟨_, J⟩, hb_load h.B j.mm K, h.bx.load (by decide) (by decide) j.mm K, h.hi, h.oa, En.store h.E v, hu_store h.E h.u h3 v⟩
theorem Lo.ends {w wr : World} {q m p r a : Nat} {c : Cfg} {A : Array Value} {T X : Int} {cs : List Int} {s : Hm} {cnt : Int} (h : Lo w wr q m p r a c A T X cs s cnt) (c1 : cnt < 100000) :
    Calls Tryd.prog 19 #[.pointer (some ⟨a, 0, none⟩), .pointer (some ⟨m, 0, none⟩), .int .i64 100] wr fun e w' => ∃ (n : Nat) (ds : List Int) (t : Hm), e = .returned (.int .i64 n) ∧ Lo w w' q m p r a c A T X ds t (cnt + n) ∧ t.ph = 3 ∧ (n : Int) ≤ 13 := by
  obtain ⟨acc, j⟩ := h.J
  refine (ends_any w wr a m p r c s cs cnt acc 100 j h.B h.oa h.hi (by omega) (by omega)).mono fun _ w' hh => ?_
  obtain ⟨n, e, e1, _, Z⟩ := hh
  obtain ⟨e2, k, _⟩ := hx_hu h.E h.u n
  obtain ⟨a1, a2, a3⟩ := hx_end h.E h.u Z.no e1
  exact ⟨n, _, _, e, ⟨Z.jm, Z.hb, h.bx.far (by decide) (by decide) (by decide) h.B j.mm Z.kp, Z.hi, h.oa, e2, k⟩, a1, a3⟩
set_option maxRecDepth 100000 in
set_option maxHeartbeats 8000000 in
theorem helpLost_walk (w : World) (c : Cfg) (_g : c.wf) (ao : Option Addr) (ns : List Nn) (cap : Nat) (hs : SlOf 5 nnL w ao ns) (hw : ∀ x ∈ ns, x.wf) (z : Int) (wo : Option Addr) (wc : Nat) (ws : List Int) (hl : SlOf 1 uwC w wo ws) (hww : ∀ x ∈ ws, isW x) (hT : Tab w) :
    Calls Tryd.prog 8 #[c.val, .slice ao ns.length cap, .agg (loA z wo ws.length wc)] w fun e w' => e = .returned (.bool true) ∧ Kept [] w w' := by
  simp only [Cfg.val]
  obtain ⟨n, hn⟩ : ∃ n, n = ns.length := ⟨_, rfl⟩
  rw [← hn]
  have HN := hidOf hn
  have HS := hidOf hs
  have HWN := hidOf hw
  have HT := hidOf hT
  clear hn hs hw hT
  obtain ⟨wn, hk⟩ : ∃ k, k = ws.length := ⟨_, rfl⟩
  rw [← hk]
  have HK := hidOf hk
  have HL := hidOf (And.intro hl hww)
  clear hk hl hww
  obtain ⟨q, hq⟩ : ∃ q, q = w.heap.size := ⟨_, rfl⟩
  have BX : Hid (Bx 76 ((w.alloc (.cells #[.int .i64 c.t, .int .i64 c.s, .int .i64 c.c, .int .i64 c.h, .int .i64 c.k, .int .i64 c.e, .int .i64 c.l] 23)).alloc (.cells (loA z wo wn wc) 76)) q c (loA z wo wn wc) ∧ Kept [] w ((w.alloc (.cells #[.int .i64 c.t, .int .i64 c.s, .int .i64 c.c, .int .i64 c.h, .int .i64 c.k, .int .i64 c.e, .int .i64 c.l] 23)).alloc (.cells (loA z wo wn wc) 76))) := by
    have z := two_new 23 76 w #[.int .i64 c.t, .int .i64 c.s, .int .i64 c.c, .int .i64 c.h, .int .i64 c.k, .int .i64 c.e, .int .i64 c.l] (loA z wo wn wc) hq
    exact ⟨⟨z.1, z.2.1⟩, z.2.2⟩
  go_enter Tryd.func8, Tryd.ntmps8
  go_upto_region 1 with (fail)
  rw [← hq]
  refine gen_world (fun W => Bx 76 W q c (loA z wo wn wc) ∧ Kept [] w W) BX.out ?_
  have hqw : w.heap.size ≤ q := by omega
  clear BX hq
  rintro W ⟨CB, K0⟩
  have HX := hidOf (And.intro CB K0)
  clear CB K0
  go_wp2_with (first | ((with_reducible change wpList _ _ _ (Oper.mk _ (Op.load 23 (Operand.tmp 3)) _ _ _ _ :: _) _ _); refine wpList_load_rw 23 isT_cf rfl (.tmp 3) rfl q rfl #[.int .i64 c.t, .int .i64 c.s, .int .i64 c.c, .int .i64 c.h, .int .i64 c.k, .int .i64 c.e, .int .i64 c.l] rfl HX.out.1.c ?_))
  refine (right11_any c ns ao n cap W (HS.out.new HX.out.2) HN.out).mono ?_
  rintro e w1 ⟨B, rfl, hB, K1⟩
  have HY := hidOf (And.intro (HX.out.1.new K1) (HX.out.2.trans K1))
  clear HX K1
  have HX := HY
  clear HY
  cases B with
  | false =>
    clear hB
    have AL := hidOf (alive_any _ (HT.out.kept HX.out.2))
    go_wp2_with fail
    refine AL.out.mono ?_
    rintro e WA ⟨rfl, KA⟩
    have KF := hidOf ((HX.out.2).trans KA)
    clear KA
    go_wp2
    go_ret
    exact ⟨rfl, KF.out⟩
  | true =>
    have HR := hidOf (hB.1 rfl)
    clear hB
    have y1 := cell_of_blk HX.out.1.z (i := 1) (v := .slice wo wn wc) rfl
    have y0 := cell_of_blk HX.out.1.z (i := 0) (v := .int .i64 z) rfl
    by_cases hk20 : 20 < (wn : Int)
    · 
      have AL := hidOf (alive_any _ (HT.out.kept HX.out.2))
      go_wp2_with fail
      refine AL.out.mono ?_
      rintro e WA ⟨rfl, KA⟩
      have KF := hidOf ((HX.out.2).trans KA)
      clear KA
      go_wp2
      go_ret
      exact ⟨rfl, KF.out⟩
    · by_cases z0 : z < 0
      · 
        have AL := hidOf (alive_any _ (HT.out.kept HX.out.2))
        go_wp2_with fail
        refine AL.out.mono ?_
        rintro e WA ⟨rfl, KA⟩
        have KF := hidOf ((HX.out.2).trans KA)
        clear KA
        go_wp2
        go_ret
        exact ⟨rfl, KF.out⟩
      · by_cases z1 : (n : Int) ≤ z
        · 
          have AL := hidOf (alive_any _ (HT.out.kept HX.out.2))
          go_wp2_with fail
          refine AL.out.mono ?_
          rintro e WA ⟨rfl, KA⟩
          have KF := hidOf ((HX.out.2).trans KA)
          clear KA
          go_wp2
          go_ret
          exact ⟨rfl, KF.out⟩
        · have n64 : (n : Int) ≤ 64 := by have := HR.out.n; have := HN.out; have := (riB_true.1 HR.out.r).c1; omega
          go_wp2_with fail
          clear y1 y0
          have LY := hidOf (fun (Y : World) (kk : Kept [] w1 Y) => lay_k c ns ao n cap w1 Y HR.out HWN.out (HS.out.new HX.out.2) HN.out kk)
          have OF := hidOf (fun (Y : World) (g c' : Nat) (kk : Kept [] w1 Y) (R : RowR Y g (layV c ns) c') => of_k c ns w w1 Y g c' HR.out HWN.out R HX.out.2 kk HT.out)
          obtain ⟨LN, hLN⟩ : ∃ LN, LN = lnN c := ⟨_, rfl⟩
          rw [← hLN] at LY OF
          clear hLN
          have SX := hidOf (fun (W' : World) (kk : Kept [] w1 W') => (show W'.cell? ⟨q, 0, none⟩ = some (.int .i64 c.t) ∧ W'.cell? ⟨q, 1, none⟩ = some (.int .i64 c.s) ∧ W'.cell? ⟨q, 2, none⟩ = some (.int .i64 c.c) ∧ W'.cell? ⟨q, 3, none⟩ = some (.int .i64 c.h) ∧ W'.cell? ⟨q, 4, none⟩ = some (.int .i64 c.k) ∧ W'.cell? ⟨q, 5, none⟩ = some (.int .i64 c.e) ∧ W'.cell? ⟨q, 6, none⟩ = some (.int .i64 c.l) from by
            have y := HX.out.1.c.kept kk (by simp)
            exact ⟨cell_of_blk y (i := 0) rfl, cell_of_blk y (i := 1) rfl, cell_of_blk y (i := 2) rfl, cell_of_blk y (i := 3) rfl, cell_of_blk y (i := 4) rfl, cell_of_blk y (i := 5) rfl, cell_of_blk y (i := 6) rfl⟩))
          go_wp2_with fail
          go_region_held3 (fun W' => W'.cell? ⟨q, 0, none⟩ = some (.int .i64 c.t) ∧ W'.cell? ⟨q, 1, none⟩ = some (.int .i64 c.s) ∧ W'.cell? ⟨q, 2, none⟩ = some (.int .i64 c.c) ∧ W'.cell? ⟨q, 3, none⟩ = some (.int .i64 c.h) ∧ W'.cell? ⟨q, 4, none⟩ = some (.int .i64 c.k) ∧ W'.cell? ⟨q, 5, none⟩ = some (.int .i64 c.e) ∧ W'.cell? ⟨q, 6, none⟩ = some (.int .i64 c.l))
            (exact SX.out _ (by first | assumption | exact (Kept.refl _ _).drew | exact Kept.refl _ _))
            (first
              | (go_at_call 27; with_reducible refine (LY.out _ (by first | assumption | exact (Kept.refl _ _).drew)).mono ?_; rintro e w5 ⟨g, c', rfl, R5, K5⟩)
              | (go_at_call 26; with_reducible refine (OF.out _ _ _ (by assumption) (by assumption)).mono ?_; rintro e w6 ⟨m, p, r, rfl, J6, K6⟩))
          have HY := hidOf (And.intro (HX.out.1.new K6) J6)
          clear R5 K5 J6 K6 SX LY OF HX
          have HX := HY
          clear HY
          obtain ⟨K, rfl⟩ : ∃ K : Nat, z = (K : Int) := ⟨z.toNat, by omega⟩
          have hKn := hidOf (show K < n by omega)
          have hK0 : (0 : Int) ≤ (K : Int) := by omega
          have hKb : (K : Int) < 64 := by omega
          clear z0 z1 n64
          obtain ⟨b5, o5, e5, -⟩ := nn_row HS.out (k := K) (by rw [← HN.out]; exact hKn.out)
          subst e5
          obtain ⟨T, hTT⟩ : ∃ T, T = (ns.getD K nn0).t := ⟨_, rfl⟩
          have NT : Hid (∀ Y : World, Kept [] w Y → Y.cell? ⟨b5, o5 + K * 5 + 2, none⟩ = some (.int .i64 T) ∧ b5 < Y.heap.size) := hidOf (by
            intro Y kk
            obtain ⟨b, o, e, l, -, -, nt, -, -⟩ := nn_row (HS.out.new kk) (k := K) (by rw [← HN.out]; exact hKn.out)
            cases e
            rw [← hTT] at nt
            exact ⟨nt, l⟩)
          have HE := hidOf (En.laid HR.out (k := K) (by rw [← HN.out]; exact hKn.out))
          rw [← hTT] at HE
          clear hTT
          obtain ⟨LV, hLV⟩ : ∃ LV, LV = layV c ns := ⟨_, rfl⟩
          rw [← hLV] at HX HE
          clear hLV
          have t0 : 1 ≤ T := HE.out.t0
          have t6 : T ≤ 6 := by have := HE.out.t1; have := (riB_true.1 HR.out.r).h1; omega
          have OF1 := hidOf (fun (Y : World) => rof1_any ((K : Int) + 1) 0 Y (by omega) (by omega))
          have eH : packV ((K : Int) + 1) 0 false = hw (K + 1) := by
            have z := pack_hw (K + 1)
            rw [show ((K + 1 : Nat) : Int) = (K : Int) + 1 by omega] at z
            exact z
          rw [eH] at OF1
          have HH : Hid (isW (hw (K + 1)) ∧ ixV (hw (K + 1)) = (K : Int) + 1) := hidOf ⟨by unfold isW hw; omega, by rw [hw_ix (by omega)]; omega⟩
          generalize hw (K + 1) = h at OF1 HH
          clear eH
          have y0 := cell_of_blk HX.out.1.z (i := 0) (v := .int .i64 (K : Int)) rfl
          go_wp2_with fail
          refine (OF1.out _).mono ?_
          rintro e w2 ⟨rfl, K2⟩
          have HY := hidOf (And.intro (HX.out.1.new K2) (HX.out.2.new K2))
          clear HX K2 OF1 y0
          go_wp2_with fail
          refine (hnew_any h _).mono ?_
          rintro e w3 ⟨a, rfl, ha, A3, K3⟩
          have HZ0 : Hid (Lo w w3 q m p r a c (loA (K : Int) wo wn wc) T ((K : Int) + 1) LV ⟨h, 0, 0, 0⟩ 0) := hidOf (by
            have hu : HU c T ((K : Int) + 1) LV ⟨h, 0, 0, 0⟩ := by rw [← HH.out.2]; exact Go.Proofs.YtjbdaejkofkcpaaDoor.K.HU.start c T LV h
            have h0 := Go.Proofs.YtjbdaejkofkcpaaDoor.K.HI.start (c := c) HH.out.1
            exact ⟨⟨_, HY.out.2.new K3⟩, A3, HY.out.1.new K3, h0, by have := HY.out.2.kp.size; omega, HE.out, hu⟩)
          clear ha A3 K3 HY
          have y1 := cell_of_blk HZ0.out.bx.z (i := 1) (v := .slice wo wn wc) rfl
          go_wp2
          clear y1
          go_loopw [64] (fun s64 wr => ∃ i : Nat, i ≤ wn ∧ s64 = .int .i64 i ∧ ∃ cs s cnt, Lo w wr q m p r a c (loA (K : Int) wo wn wc) T ((K : Int) + 1) cs s cnt ∧ 0 ≤ cnt ∧ cnt ≤ 3 * (i : Int)) (fun s64 _ => wn - (intOf s64).toNat)
          case atStart => exact ⟨0, by omega, by first | rfl | go_num, _, _, _, HZ0.out, by omega, by omega⟩
          case round =>
            clear HZ0
            obtain ⟨i, hi, rfl, cs, s, cnt, Z⟩ := hrel
            have HZ := hidOf Z
            clear Z
            by_cases hlt : i < wn
            · have hltz : (i : Int) < (wn : Int) := by omega
              have KPw := hidOf (show Kept [] w wr from by obtain ⟨acc, j⟩ := HZ.out.1.J; exact j.kp)
              obtain ⟨b3, o3, el, bl, z3⟩ := uw_row (HL.out.1.new KPw.out) (k := i) (by rw [← HK.out]; exact hlt)
              rw [el]
              have wv : isW (ws.getD i 0) := by
                rw [List.getD_eq_getElem?_getD, List.getElem?_eq_getElem (by rw [← HK.out]; exact hlt)]
                exact HL.out.2 _ (List.getElem_mem _)
              obtain ⟨V, hV⟩ : ∃ V, V = ws.getD i 0 := ⟨_, rfl⟩
              rw [← hV] at z3 wv
              have HWV := hidOf wv
              clear hV wv
              have DN := hidOf (hdone_any a s wr HZ.out.1.B HZ.out.1.hi.ph)
              by_cases h3 : s.ph = 3
              · rw [show decide (s.ph = 3) = true from decide_eq_true h3] at DN
                clear h3
                go_wp2_with fail
                refine DN.out.mono ?_
                rintro e w1' ⟨rfl, rfl⟩
                clear DN z3 bl
                have EA := hidOf (HZ.out.1.ends (by have := HZ.out.2; omega))
                go_wp2_with fail
                refine EA.out.mono ?_
                rintro e w7 ⟨n1, ds, t1, rfl, L7, t3, l7⟩
                have HF := hidOf (And.intro L7 (And.intro t3 (show 0 ≤ cnt + (n1 : Int) ∧ cnt + (n1 : Int) ≤ 200 by have := HZ.out.2; omega)))
                clear EA L7 t3 l7 HZ
                have KP := hidOf (show Kept [] w w7 from by obtain ⟨acc, j⟩ := HF.out.1.J; exact j.kp)
                obtain ⟨nt, l5⟩ := NT.out w7 KP.out
                have y0 := cell_of_blk HF.out.1.bx.z (i := 0) (v := .int .i64 (K : Int)) rfl
                have hKz : (K : Int) < n := by have := hKn.out; omega
                go_wp2
                clear y0 nt l5 hKz
                obtain ⟨C0, hC0⟩ : ∃ C0 : Int, C0 = cnt + (n1 : Int) := ⟨_, rfl⟩
                rw [← hC0] at HF
                clear hC0
                go_loopw [98] (fun s98 wr => ∃ l : Nat, (l : Int) ≤ T ∧ s98 = .int .i64 l ∧ Lo w wr q m p r a c (loA (K : Int) wo wn wc) T ((K : Int) + 1) ds t1 (C0 + l)) (fun s98 _ => T.toNat - (intOf s98).toNat)
                case atStart => exact ⟨0, by omega, by first | rfl | go_num, by have z := HF.out.1; rw [show C0 + ((0 : Nat) : Int) = C0 by omega]; exact z⟩
                case round =>
                  obtain ⟨l, hl, rfl, Z⟩ := hrel
                  have HG := hidOf Z
                  clear Z
                  by_cases hlT : (l : Int) < T
                  · have LD := hidOf (fun V hV => HG.out.load (by have := HF.out.2.2; omega) HH.out.1 HH.out.2 (f := 6 + (l : Int)) (V := V) hV)
                    have mk := HG.out.u.dn HF.out.2.1 (l : Int) (by omega) hlT
                    have wd := (show isW (fd c ds ((K : Int) + 1) (6 + (l : Int))) from by obtain ⟨acc, j⟩ := HG.out.J; exact fd_word j.wd _ _)
                    obtain ⟨V, hV⟩ : ∃ V, V = fd c ds ((K : Int) + 1) (6 + (l : Int)) := ⟨_, rfl⟩
                    have LD1 := hidOf (LD.out V hV.symm)
                    rw [← hV] at mk wd
                    clear hV LD
                    have l6 : (l : Int) ≤ 6 := by omega
                    have HM := hidOf (And.intro mk wd)
                    clear mk wd
                    go_wp2_with fail
                    refine LD1.out.mono ?_
                    rintro e w8 ⟨rfl, L8⟩
                    have HG8 := hidOf L8
                    clear L8 LD1 HG
                    have MK := hidOf (marked_any V w8 (by obtain ⟨acc, j⟩ := HG8.out.J; exact j.tab) HM.out.2.1 HM.out.2.2)
                    rw [HM.out.1] at MK
                    go_wp2_with fail
                    refine MK.out.mono ?_
                    rintro e w9 ⟨rfl, K9⟩
                    have HG9 := hidOf (HG8.out.new K9)
                    clear HG8 K9 MK
                    go_wp2
                    go_roundw
                    case rel => exact ⟨l + 1, by omega, by go_num, by have z := HG9.out; rw [show C0 + ((l + 1 : Nat) : Int) = C0 + (l : Int) + 1 by omega]; exact z⟩
                    case measure => simp [intOf]; omega
                  · have KG := hidOf (show Kept [] w wr from by obtain ⟨acc, j⟩ := HG.out.J; exact j.kp)
                    have AL := hidOf (alive_any _ (HT.out.kept KG.out))
                    go_wp2_with fail
                    refine AL.out.mono ?_
                    rintro e WA ⟨rfl, KA⟩
                    have DN := hidOf (hdone_any a t1 WA (HG.out.B.kept KA (by simp)) HG.out.hi.ph)
                    rw [show decide (t1.ph = 3) = true from decide_eq_true HF.out.2.1] at DN
                    have KF := hidOf (KG.out.trans KA)
                    clear AL KA KG HG
                    go_wp2_with fail
                    refine DN.out.mono ?_
                    rintro e wB ⟨rfl, rfl⟩
                    go_wp2
                    go_ret
                    exact ⟨rfl, KF.out⟩
              · rw [show decide (s.ph = 3) = false from decide_eq_false h3] at DN
                clear h3
                have ST := hidOf (HZ.out.1.step (by have := HZ.out.2; omega))
                go_wp2_with fail
                refine DN.out.mono ?_
                rintro e w1' ⟨rfl, rfl⟩
                clear DN z3
                go_wp2_with fail
                refine ST.out.mono ?_
                rintro e w4 ⟨rfl, L4⟩
                have HY : Hid (∃ cs s cnt, Lo w w4 q m p r a c (loA (K : Int) wo wn wc) T ((K : Int) + 1) cs s cnt ∧ 0 ≤ cnt ∧ cnt ≤ 3 * (i : Int) + 1) := hidOf (by
                  have l := hN_le cnt s
                  have := HZ.out.2
                  exact ⟨_, _, _, L4, by omega, by omega⟩)
                clear ST L4 HZ KPw
                obtain ⟨cs1, s1, cnt1, z4⟩ := HY.out
                have HZ := hidOf z4
                clear z4 HY
                have DN := hidOf (hdone_any a s1 w4 HZ.out.1.B HZ.out.1.hi.ph)
                by_cases h4 : s1.ph = 3
                · rw [show decide (s1.ph = 3) = true from decide_eq_true h4] at DN
                  clear h4
                  go_wp2_with fail
                  refine DN.out.mono ?_
                  rintro e w5 ⟨rfl, rfl⟩
                  clear DN
                  go_wp2
                  go_roundw
                  case rel => exact ⟨i + 1, by omega, by go_num, cs1, s1, cnt1, by rw [← el]; exact HZ.out.1, HZ.out.2.1, by have := HZ.out.2; omega⟩
                  case measure => simp [intOf]; omega
                · rw [show decide (s1.ph = 3) = false from decide_eq_false h4] at DN
                  have H4 := hidOf h4
                  clear h4
                  have LD := hidOf (fun V hV => HZ.out.1.load (by have := HZ.out.2; omega) HH.out.1 HH.out.2 (f := 6) (V := V) hV)
                  have wd := (show isW (fd c cs1 ((K : Int) + 1) 6) from by obtain ⟨acc, j⟩ := HZ.out.1.J; exact fd_word j.wd _ _)
                  obtain ⟨V6, hV6⟩ : ∃ V, V = fd c cs1 ((K : Int) + 1) 6 := ⟨_, rfl⟩
                  have LD1 := hidOf (LD.out V6 hV6.symm)
                  rw [← hV6] at wd
                  clear hV6 LD
                  have HM := hidOf wd
                  clear wd
                  go_wp2_with fail
                  refine DN.out.mono ?_
                  rintro e w5 ⟨rfl, rfl⟩
                  clear DN
                  go_wp2_with fail
                  refine LD1.out.mono ?_
                  rintro e w6 ⟨rfl, L6⟩
                  have HG := hidOf (And.intro L6 HZ.out.2)
                  clear L6 LD1 HZ
                  have MK := hidOf (marked_any V6 w6 (by obtain ⟨acc, j⟩ := HG.out.1.J; exact j.tab) HM.out.1 HM.out.2)
                  obtain ⟨B, hB⟩ : ∃ B, B = mkB V6 := ⟨_, rfl⟩
                  rw [← hB] at MK
                  clear hB
                  go_wp2_with fail
                  refine MK.out.mono ?_
                  rintro e w7 ⟨rfl, K7⟩
                  have HG7 := hidOf (And.intro (HG.out.1.new K7) HG.out.2)
                  clear HG K7 MK
                  cases B with
                  | true =>
                    go_wp2
                    go_roundw
                    case rel => exact ⟨i + 1, by omega, by go_num, cs1, s1, cnt1 + 1, by rw [← el]; exact HG7.out.1, by have := HG7.out.2; omega, by have := HG7.out.2; omega⟩
                    case measure => simp [intOf]; omega
                  | false =>
                    have PL := hidOf (plain_any V w7 (by obtain ⟨acc, j⟩ := HG7.out.1.J; exact j.tab) HWV.out.1 HWV.out.2)
                    go_wp2_with fail
                    refine PL.out.mono ?_
                    rintro e w8 ⟨rfl, K8⟩
                    have HG8 := hidOf (And.intro (HG7.out.1.new K8) HG7.out.2)
                    clear HG7 K8 PL
                    have ST := hidOf (HG8.out.1.store (by have := HG8.out.2; omega) H4.out HH.out.1 HH.out.2 (pl_word HWV.out))
                    go_wp2_with fail
                    refine ST.out.mono ?_
                    rintro e w9 ⟨rfl, ds9, L9⟩
                    have HG9 := hidOf (And.intro L9 HG8.out.2)
                    clear HG8 L9 ST
                    go_wp2
                    go_roundw
                    case rel => exact ⟨i + 1, by omega, by go_num, ds9, s1, cnt1 + 1 + 1, by rw [← el]; exact HG9.out.1, by have := HG9.out.2; omega, by have := HG9.out.2; omega⟩
                    case measure => simp [intOf]; omega
            · have hie : i = wn := by omega
              have hltz : ¬ (i : Int) < (wn : Int) := by omega
              have EA := hidOf (HZ.out.1.ends (by have := HZ.out.2; omega))
              go_wp2_with fail
              refine EA.out.mono ?_
              rintro e w7 ⟨n1, ds, t1, rfl, L7, t3, l7⟩
              have HF := hidOf (And.intro L7 (And.intro t3 (show 0 ≤ cnt + (n1 : Int) ∧ cnt + (n1 : Int) ≤ 200 by have := HZ.out.2; omega)))
              clear EA L7 t3 l7 HZ
              have KP := hidOf (show Kept [] w w7 from by obtain ⟨acc, j⟩ := HF.out.1.J; exact j.kp)
              obtain ⟨nt, l5⟩ := NT.out w7 KP.out
              have y0 := cell_of_blk HF.out.1.bx.z (i := 0) (v := .int .i64 (K : Int)) rfl
              have hKz : (K : Int) < n := by have := hKn.out; omega
              go_wp2
              clear y0 nt l5 hKz
              obtain ⟨C0, hC0⟩ : ∃ C0 : Int, C0 = cnt + (n1 : Int) := ⟨_, rfl⟩
              rw [← hC0] at HF
              clear hC0
              go_loopw [98] (fun s98 wr => ∃ l : Nat, (l : Int) ≤ T ∧ s98 = .int .i64 l ∧ Lo w wr q m p r a c (loA (K : Int) wo wn wc) T ((K : Int) + 1) ds t1 (C0 + l)) (fun s98 _ => T.toNat - (intOf s98).toNat)
              case atStart => exact ⟨0, by omega, by first | rfl | go_num, by have z := HF.out.1; rw [show C0 + ((0 : Nat) : Int) = C0 by omega]; exact z⟩
              case round =>
                obtain ⟨l, hl, rfl, Z⟩ := hrel
                have HG := hidOf Z
                clear Z
                by_cases hlT : (l : Int) < T
                · have LD := hidOf (fun V hV => HG.out.load (by have := HF.out.2.2; omega) HH.out.1 HH.out.2 (f := 6 + (l : Int)) (V := V) hV)
                  have mk := HG.out.u.dn HF.out.2.1 (l : Int) (by omega) hlT
                  have wd := (show isW (fd c ds ((K : Int) + 1) (6 + (l : Int))) from by obtain ⟨acc, j⟩ := HG.out.J; exact fd_word j.wd _ _)
                  obtain ⟨V, hV⟩ : ∃ V, V = fd c ds ((K : Int) + 1) (6 + (l : Int)) := ⟨_, rfl⟩
                  have LD1 := hidOf (LD.out V hV.symm)
                  rw [← hV] at mk wd
                  clear hV LD
                  have l6 : (l : Int) ≤ 6 := by omega
                  have HM := hidOf (And.intro mk wd)
                  clear mk wd
                  go_wp2_with fail
                  refine LD1.out.mono ?_
                  rintro e w8 ⟨rfl, L8⟩
                  have HG8 := hidOf L8
                  clear L8 LD1 HG
                  have MK := hidOf (marked_any V w8 (by obtain ⟨acc, j⟩ := HG8.out.J; exact j.tab) HM.out.2.1 HM.out.2.2)
                  rw [HM.out.1] at MK
                  go_wp2_with fail
                  refine MK.out.mono ?_
                  rintro e w9 ⟨rfl, K9⟩
                  have HG9 := hidOf (HG8.out.new K9)
                  clear HG8 K9 MK
                  go_wp2
                  go_roundw
                  case rel => exact ⟨l + 1, by omega, by go_num, by have z := HG9.out; rw [show C0 + ((l + 1 : Nat) : Int) = C0 + (l : Int) + 1 by omega]; exact z⟩
                  case measure => simp [intOf]; omega
                · have KG := hidOf (show Kept [] w wr from by obtain ⟨acc, j⟩ := HG.out.J; exact j.kp)
                  have AL := hidOf (alive_any _ (HT.out.kept KG.out))
                  go_wp2_with fail
                  refine AL.out.mono ?_
                  rintro e WA ⟨rfl, KA⟩
                  have DN := hidOf (hdone_any a t1 WA (HG.out.B.kept KA (by simp)) HG.out.hi.ph)
                  rw [show decide (t1.ph = 3) = true from decide_eq_true HF.out.2.1] at DN
                  have KF := hidOf (KG.out.trans KA)
                  clear AL KA KG HG
                  go_wp2_with fail
                  refine DN.out.mono ?_
                  rintro e wB ⟨rfl, rfl⟩
                  go_wp2
                  go_ret
                  exact ⟨rfl, KF.out⟩

set_option maxRecDepth 100000 in
theorem helpLost_lifted (os : Os) (started : os.Started) (H : Type) (enc : TypeId × Value → H) :
    ReturnsInHanded {} Tryd.checked os 8 .any (fun w args => (Rows.helpLostSpec.pre enc Tryd.prog Tryd.f8 [] false w args ∧ laidMetH Tryd.prog laid1 w) ∧ sizedMet enc Tryd.prog Tryd.f8 (OpenSpec.ofChange Rows.helpLostSpec) false w args)
      (Rows.helpLostSpec.post enc Tryd.prog Tryd.f8 false true false false) := by
  refine returnsInHanded_of_change_and (C := Tryd.checked) (X := fun w _ => laidMetH Tryd.prog laid1 w) (fun _ _ _ hh h => h.of_heap hh) own started (by kernel_rfl) Tryd.func8
    (ChangeSpec.witness_shaped (enc := enc) (C := Tryd.checked) (os := os) (X := fun w _ => laidMetH Tryd.prog laid1 w) false (World.doorLaid Tryd.prog 400 os) #[.agg #[.int .i64 0, .int .i64 0, .int .i64 0, .int .i64 0, .int .i64 0, .int .i64 0, .int .i64 0], .slice none 0 0, .agg #[.int .i64 0, .slice none 0 0]] 8 rfl (World.shaped_of_RefB (by kernel_rfl) (by kernel_rfl)) (by kernel_rfl) (by kernel_rfl) (by kernel_rfl) (door_met os _)) ?_
  intro W base args ds gs before hval0 hW _ _ hL _
  have hval : ∀ (j : Nat) t v, Tryd.f8.params[j]? = some t → args[j]? = some v → Value.okWide Tryd.prog W .any base t v := hval0
  have hW' := hW
  obtain ⟨p, q, hA0, hV, rfl, _, _⟩ := hW
  have hA : DataW.TrodAll enc Tryd.prog W 0 (fun _ => true) true Tryd.f8.params.toList args.toList ds p := hA0
  rw [Tryd.params8] at hA hval
  clear hA0 hval0
  obtain ⟨v0, vs0, d0, ds0, p0, q0, hargs, rfl, rfl, h0, r0⟩ := trodAll_cons hA
  obtain ⟨v1, vs1, d1, ds1, p1, q1, rfl, rfl, rfl, h1, r1⟩ := trodAll_cons r0
  obtain ⟨v2, vs2, d2, ds2, p2, q2, rfl, rfl, rfl, h2, r2⟩ := trodAll_cons r1
  obtain ⟨rfl, rfl, rfl⟩ := trodAll_nil r2
  obtain rfl : args = #[v0, v1, v2] := by cases args; simp_all
  obtain ⟨rfl, rfl⟩ := trodVars_none hV
  have k0 := h0
  have k1 := h1
  have k2 := h2
  simp only [List.append_nil] at hW'
  have hlt0 : ∀ x ∈ p0, x.block < W.heap.size := fun x hx => hW'.lt x (by simp [hx])
  have hlt1 : ∀ x ∈ p1, x.block < W.heap.size := fun x hx => hW'.lt x (by simp [hx])
  have hlt2 : ∀ x ∈ p2, x.block < W.heap.size := fun x hx => hW'.lt x (by simp [hx])
  obtain ⟨c0, rfl, g0⟩ := open_cfg (hval 0 23 v0 rfl rfl) h0
  obtain ⟨ao1, cap1, ns1, rfl, s1, g1⟩ := open_nodes (hval 1 65 v1 rfl rfl) h1
  obtain ⟨kk2, wo2, wc2, ws2, rfl, sl2, wg2⟩ := open_lost (hval 2 76 v2 rfl rfl) h2
  refine (helpLost_walk W c0 g0 ao1 ns1 cap1 s1 g1 kk2 wo2 wc2 ws2 sl2 wg2 (tab_of_laid hL)).mono fun e W' ⟨he, hg⟩ => ?_
  subst he
  have hb := hg.below (by simp)
  exact ⟨_, rfl, _, _, _, [], _, [], hW', (trodAll_cons_mk (shut_bool Tryd.underlying4 _) trodAll_mk0), (trodAll_cons_mk (Below.trod laidOut (by kernel_rfl) (of_decide_eq_true (by kernel_rfl)) k0 hb hlt0) (trodAll_cons_mk (Below.trod laidOut (by kernel_rfl) (of_decide_eq_true (by kernel_rfl)) k1 hb hlt1) (trodAll_cons_mk (Below.trod laidOut (by kernel_rfl) (of_decide_eq_true (by kernel_rfl)) k2 hb hlt2) trodAll_mk0))), rfl, hb.frame _, fun h => by cases h⟩

theorem helpLost_over : Rows.HelpLostSaid :=
  OpenClaim.holds_of_wide 8 Tryd.f8 rfl rfl rfl rfl rfl rfl rfl ⟨rfl, rfl, rfl, rfl, rfl⟩ rfl rfl rfl rfl rfl (by kernel_rfl) Tryd.func8 (by kernel_rfl)
    (of_decide_eq_true (by kernel_rfl)) (by unfold Func.isWrapper; first | (rw [if_pos (by decide +kernel)]; kernel_rfl) | (rw [if_neg (by decide +kernel)]; exact ⟨rfl, rfl⟩))
    (fun os started H enc _ => helpLost_lifted os started H enc)

theorem helpLost_holds : Rows.HelpLostCardSaid :=
  Claim7.holds_tied_plain_at .later [] [.data] true (true, "8da01a15b0ed21f15b06d493984036c42457dccc076fb2a2ce17b33141c9b120") false
    helpLost_over (fun _ h => by cases h) (by kernel_rfl) (fun _ h => by cases h) helpLost_row_tie rfl ⟨rfl, rfl⟩ (by kernel_rfl) rfl
    (fun f fn hf hfn => by
      obtain rfl : f = 8 := Option.some.inj ((show Tryd.prog.funcNamed "stepstone/stepstonelaw12.HelpLost" = some 8 by kernel_rfl).symm.trans hf) |>.symm
      obtain rfl : fn = Tryd.f8 := (Option.some.inj (Tryd.func8.symm.trans hfn)).symm
      exact ⟨by kernel_rfl, fun j t ht => by
          rw [Tryd.params8] at ht
          rcases j with _ | j
          · have : t = 23 := by simpa using ht.symm
            subst this; exact (show Tryd.prog.wantsStandIn 23 = false by kernel_rfl)
          rcases j with _ | j
          · have : t = 65 := by simpa using ht.symm
            subst this; exact (show Tryd.prog.wantsStandIn 65 = false by kernel_rfl)
          rcases j with _ | j
          · have : t = 76 := by simpa using ht.symm
            subst this; exact (show Tryd.prog.wantsStandIn 76 = false by kernel_rfl)
          simp at ht⟩)
    (by kernel_rfl)
#print axioms helpLost_holds
end Go.Proofs.YtjbdaejkofkcpaaDoor
