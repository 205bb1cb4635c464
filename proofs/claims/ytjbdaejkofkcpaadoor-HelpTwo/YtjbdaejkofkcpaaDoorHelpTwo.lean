/-
  Two that delete one node at once, however their steps are mixed, end both, and leave what one leaves.
  Conditions: the package variable of handle that the code reads starts as the program's text lays it (the card ties it to that text).
-/
import Derived.Test.YtjbdaejkofkcpaaDoorJAlive
import Derived.Test.YtjbdaejkofkcpaaDoorJTwo
import Derived.Test.YtjbdaejkofkcpaaDoorHLaid
import Derived.Test.YtjbdaejkofkcpaaDoorPArgs
import Derived.Deep.CutRange
import Derived.ProofKit
import Derived.SizedLaws
import Derived.Carry
namespace Go.Proofs.YtjbdaejkofkcpaaDoor
open Go.ChangeShapes Go.WideShapes Go.ChangeAt Go.RowKit
open Go.Deep
open Go.Proofs.YtjbdaejkofkcpaaDoor.K
set_option maxRecDepth 100000

/-- The other words, the third help, the boxes. -/
structure Ot (w wr : World) (q : Nat) (c : Cfg) (A : Array Value) (m p r d : Nat) (xs : List Int) (u : Hm) : Prop where
  bx : Bx 63 wr q c A
  J : Jm w wr m p r c xs 0 Acc.zero
  D : HB wr d u
theorem Ot.far {w wr w' : World} {m p r a b m2 p2 r2 d q : Nat} {c : Cfg} {T X : Int} {xs cs zs : List Int} {s t u : Hm} {cnt : Int} {A : Array Value} (o : Ot w wr q c A m2 p2 r2 d zs u) (h : Tw w wr m p r a b c T X xs cs s t cnt) (n : (¬ p = p2 ∧ ¬ r = r2) ∧ ¬ d = a) (k : Kept [a, p, r] wr w') : Ot w w' q c A m2 p2 r2 d zs u := by
  obtain ⟨acc, j⟩ := h.J
  exact ⟨o.bx.far (by decide) (by decide) (by decide) h.A j.mm k, o.J.other j h.A h.oa (fun e => n.1.1 e.symm) (fun e => n.1.2 e.symm) k, hb_far o.D n.2 j.mm k⟩
theorem tw_far {w wr w' : World} {m p r a b m2 p2 r2 d q : Nat} {c : Cfg} {T X : Int} {xs cs zs : List Int} {s t u : Hm} {cnt : Int} {A : Array Value} (h : Tw w wr m p r a b c T X xs cs s t cnt) (o : Ot w wr q c A m2 p2 r2 d zs u) (n : (¬ p = p2 ∧ ¬ r = r2) ∧ ¬ d = a ∧ ¬ d = b) (hd : w.heap.size ≤ d) (k : Kept [d, p2, r2] wr w') : Tw w w' m p r a b c T X xs cs s t cnt := by
  obtain ⟨acc, j⟩ := h.J
  exact ⟨⟨acc, j.other o.J o.D hd n.1.1 n.1.2 k⟩, hb_far h.A (fun e => n.2.1 e.symm) o.J.mm k, hb_far h.B (fun e => n.2.2 e.symm) o.J.mm k, h.ai, h.bi, h.oa, h.ob, h.ne, h.E, h.ua, h.ub, h.ci, h.sa, h.sb⟩
set_option maxRecDepth 100000 in
set_option maxHeartbeats 8000000 in
theorem helpTwo_walk (w : World) (c : Cfg) (_g : c.wf) (ao : Option Addr) (xs : List Int) (cap : Nat) (hs : Sl w ao xs) (hg : ∀ x ∈ xs, isWord x) (hc : ao = none → cap = 0) (h : Int) (lo : Option Addr) (lc : Nat) (ts : List Bool) (wh : isW h) (hl : SlOf 1 boC w lo ts) (hT : Tab w) :
    Calls Tryd.prog 5 #[c.val, .slice ao xs.length cap, .agg (tuA h lo ts.length lc)] w fun e w' => e = .returned (.bool true) ∧ Kept [] w w' := by
  simp only [Cfg.val]
  obtain ⟨n, hn⟩ : ∃ n, n = xs.length := ⟨_, rfl⟩
  rw [← hn]
  have HN := hidOf hn
  have HS := hidOf hs
  have HC := hidOf hc
  have HW := hidOf (wds_of hg)
  have HT := hidOf hT
  clear hn hs hc hg hT
  obtain ⟨k, hk⟩ : ∃ k, k = ts.length := ⟨_, rfl⟩
  rw [← hk]
  have HK := hidOf hk
  have HL := hidOf hl
  clear hk hl
  obtain ⟨q, hq⟩ : ∃ q, q = w.heap.size := ⟨_, rfl⟩
  have BX : Hid (Bx 63 ((w.alloc (.cells #[.int .i64 c.t, .int .i64 c.s, .int .i64 c.c, .int .i64 c.h, .int .i64 c.k, .int .i64 c.e, .int .i64 c.l] 23)).alloc (.cells (tuA h lo k lc) 63)) q c (tuA h lo k lc) ∧ Kept [] w ((w.alloc (.cells #[.int .i64 c.t, .int .i64 c.s, .int .i64 c.c, .int .i64 c.h, .int .i64 c.k, .int .i64 c.e, .int .i64 c.l] 23)).alloc (.cells (tuA h lo k lc) 63))) := by
    have z := two_new 23 63 w #[.int .i64 c.t, .int .i64 c.s, .int .i64 c.c, .int .i64 c.h, .int .i64 c.k, .int .i64 c.e, .int .i64 c.l] (tuA h lo k lc) hq
    exact ⟨⟨z.1, z.2.1⟩, z.2.2⟩
  by_cases hW : IsW c n
  · have HI := hidOf hW
    have n4 := hW.2.2
    clear hW
    go_enter Tryd.func5, Tryd.ntmps5
    go_upto_region 1 with (fail)
    rw [← hq]
    refine gen_world (fun W => Bx 63 W q c (tuA h lo k lc) ∧ Kept [] w W) BX.out ?_
    have hqw : w.heap.size ≤ q := by omega
    clear BX hq
    rintro W ⟨CB, K0⟩
    have HX := hidOf (And.intro CB K0)
    clear CB K0
    have OF := hidOf (kof_yes c ao xs n cap W HI.out HN.out (HS.out.new HX.out.2) HC.out)
    go_wp2_with (first | ((with_reducible change wpList _ _ _ (Oper.mk _ (Op.load 23 (Operand.tmp 3)) _ _ _ _ :: _) _ _); refine wpList_load_rw 23 isT_cf rfl (.tmp 3) rfl q rfl #[.int .i64 c.t, .int .i64 c.s, .int .i64 c.c, .int .i64 c.h, .int .i64 c.k, .int .i64 c.e, .int .i64 c.l] rfl HX.out.1.c ?_))
    refine OF.out.mono ?_
    rintro e w1 ⟨m, p, r, g, c', rfl, ⟨a1, a2, a3, a4, a5⟩, M, R, K1⟩
    have HX1 := hidOf (And.intro (HX.out.1.new K1) (show Jm w w1 m p r c xs 0 Acc.zero from ⟨M, HX.out.2.trans K1, HT.out, by have := HX.out.2.size; omega, by have := HX.out.2.size; omega, by have := HX.out.2.size; omega, riB_true.1 HI.out.1, HW.out, Int.le_refl _⟩))
    clear M R K1 OF HX a1 a2 a3 a4 a5
    go_upto_region 2 with (first | ((with_reducible change wpList _ _ _ (Oper.mk _ (Op.store 35 (Operand.tmp 8) _) _ _ _ _ :: _) _ _); refine wpList_store_rw 35 isT_rm rfl (.tmp 8) (.tmp 25) rfl w1.heap.size (rmA c (some ⟨g, 0, none⟩) n c' 0 Acc.zero) rfl rfl rfl (rm_one _ _ _ _ _ _) rmZ (RW.new 35 w1 rmZ) rfl ?_))
    refine gen_world (fun V => Bx 63 V q c (tuA h lo k lc) ∧ Jm w V m p r c xs 0 Acc.zero) ?_ ?_
    · have KV : Kept [] w1 ((w1.alloc (.cells rmZ 35)).setRow w1.heap.size (rmA c (some ⟨g, 0, none⟩) n c' 0 Acc.zero)) := ((Kept.refl [] w1).alloc _).setRow (Or.inr (Nat.le_refl _)) _
      exact ⟨HX1.out.1.new KV, HX1.out.2.new KV⟩
    clear HX1
    rintro V ⟨CB, J⟩
    have HX := hidOf (And.intro CB J)
    clear CB J
    have OF := hidOf (kof_yes c ao xs n cap V HI.out HN.out (HS.out.new HX.out.2.kp) HC.out)
    go_wp2_with (first | ((with_reducible change wpList _ _ _ (Oper.mk _ (Op.load 23 (Operand.tmp 3)) _ _ _ _ :: _) _ _); refine wpList_load_rw 23 isT_cf rfl (.tmp 3) rfl q rfl #[.int .i64 c.t, .int .i64 c.s, .int .i64 c.c, .int .i64 c.h, .int .i64 c.k, .int .i64 c.e, .int .i64 c.l] rfl HX.out.1.c ?_))
    refine OF.out.mono ?_
    rintro e w2 ⟨m2, p2, r2, g2, c2, rfl, ⟨a1, a2, a3, a4, a5⟩, M, R, K1⟩
    have HX1 := hidOf (And.intro (HX.out.1.new K1) (And.intro (HX.out.2.new K1) (And.intro (show Jm w w2 m2 p2 r2 c xs 0 Acc.zero from ⟨M, HX.out.2.kp.trans K1, HT.out, by have := HX.out.2.kp.size; omega, by have := HX.out.2.kp.size; omega, by have := HX.out.2.kp.size; omega, riB_true.1 HI.out.1, HW.out, Int.le_refl _⟩) (show ¬ p = p2 ∧ ¬ r = r2 from ⟨by have := lt_of_blk HX.out.2.mm.bk.st; omega, by have := lt_of_blk HX.out.2.mm.bk.row; omega⟩))))
    clear M R K1 OF HX a1 a2 a3 a4 a5
    go_upto_region 3 with (first | ((with_reducible change wpList _ _ _ (Oper.mk _ (Op.store 35 (Operand.tmp 11) _) _ _ _ _ :: _) _ _); refine wpList_store_rw 35 isT_rm rfl (.tmp 11) (.tmp 32) rfl w2.heap.size (rmA c (some ⟨g2, 0, none⟩) n c2 0 Acc.zero) rfl rfl rfl (rm_one _ _ _ _ _ _) rmZ (RW.new 35 w2 rmZ) rfl ?_))
    refine gen_world (fun U => Bx 63 U q c (tuA h lo k lc) ∧ Jm w U m p r c xs 0 Acc.zero ∧ Jm w U m2 p2 r2 c xs 0 Acc.zero ∧ ¬ p = p2 ∧ ¬ r = r2) ?_ ?_
    · have KV : Kept [] w2 ((w2.alloc (.cells rmZ 35)).setRow w2.heap.size (rmA c (some ⟨g2, 0, none⟩) n c2 0 Acc.zero)) := ((Kept.refl [] w2).alloc _).setRow (Or.inr (Nat.le_refl _)) _
      exact ⟨HX1.out.1.new KV, HX1.out.2.1.new KV, HX1.out.2.2.1.new KV, HX1.out.2.2.2⟩
    clear HX1
    rintro U ⟨CB, J⟩
    have HX := hidOf (And.intro CB J)
    clear CB J
    have NA := hidOf (fun (Y : World) (kk : Kept [] U Y) => N1.of h kk)
    have SX := hidOf (fun (Y : World) (kk : Kept [] U Y) => cell_of_blk (HX.out.1.z.kept kk (by simp)) (i := 0) (v := .int .u64 h) rfl)
    go_region_held3 (fun W' => W'.cell? ⟨q + 1, 0, none⟩ = some (.int .u64 h))
      (first | exact SX.out _ (Kept.refl _ _).drew | exact SX.out _ (N3.k (by assumption)) | exact SX.out _ (N2.k (by assumption)) | exact SX.out _ (N1.k (by assumption)))
      (first
        | (go_at_call 10; with_reducible refine (NA.out _ (by exact (Kept.refl _ _).drew)).mono ?_; rintro e w3 ⟨a, rfl, A3⟩)
        | (go_at_call 10; with_reducible refine (N2.of (by assumption)).mono ?_; rintro e w4 ⟨b, rfl, A4⟩)
        | (go_at_call 10; with_reducible refine (N3.of (by assumption)).mono ?_; rintro e w5 ⟨d, rfl, A5⟩))
    have HY := hidOf (And.intro (HX.out.1.new A5.k) (And.intro (HX.out.2.1.new A5.k) (And.intro (HX.out.2.2.1.new A5.k) (And.intro HX.out.2.2.2 (And.intro A5 HX.out.2.1.kp.size)))))
    clear HX A3 A4 A5 NA SX
    have HX := HY
    clear HY
    have IX := hidOf (fun (Y : World) (k : Kept [] w5 Y) => (index_any h Y (HX.out.2.1.new k).tab wh.1 wh.2).mono fun _ _ z => And.intro z.1 (k.trans z.2))
    have hX0 : 0 ≤ ixV h := by unfold ixV; omega
    obtain ⟨X, hX⟩ : ∃ X, X = ixV h := ⟨_, rfl⟩
    rw [← hX] at IX hX0
    have HXX := hidOf hX
    clear hX
    by_cases hk200 : 200 < (k : Int)
    · have SX := hidOf (fun (Y : World) (kk : Kept [] w5 Y) => cell_of_blk (HX.out.1.z.kept kk (by simp)) (i := 1) (v := .slice lo k lc) rfl)
      have y1 := SX.out _ (Kept.refl [] w5)
      have hkd : decide (200 < (k : Int)) = true := decide_eq_true hk200
      go_wp2_with fail
      go_quiet (fail)
      have AL := hidOf (fun (Y : World) (k : Kept [] w Y) => (alive_any Y (HT.out.kept k)).mono fun _ _ z => And.intro z.1 (k.trans z.2))
      go_wp2_with fail
      refine (AL.out _ (Kept.drewN HX.out.2.1.kp _)).mono ?_
      rintro e WA ⟨rfl, KA⟩
      have KF := hidOf KA
      clear KA
      go_wp2
      go_ret
      exact ⟨rfl, KF.out⟩
    · have SX := hidOf (fun (Y : World) (kk : Kept [] w5 Y) => And.intro (cell_of_blk (HX.out.1.z.kept kk (by simp)) (i := 1) (v := .slice lo k lc) rfl) (And.intro (cell_of_blk (HX.out.1.z.kept kk (by simp)) (i := 0) (v := .int .u64 h) rfl) (cell_of_blk (HX.out.1.c.kept kk (by simp)) (i := 2) (v := .int .i64 c.c) rfl)))
      have hkd : decide (200 < (k : Int)) = false := decide_eq_false hk200
      by_cases hcx : c.c < X
      · 
        go_wp2_with fail
        go_region_held3 (fun W' => W'.cell? ⟨q + 1, 1, none⟩ = some (.slice lo k lc) ∧ W'.cell? ⟨q + 1, 0, none⟩ = some (.int .u64 h) ∧ W'.cell? ⟨q, 2, none⟩ = some (.int .i64 c.c))
          (exact SX.out _ (by first | assumption | exact (Kept.refl _ _).drew | exact Kept.refl _ _))
          (first | (go_at_call 17; with_reducible refine (IX.out _ (by exact (Kept.refl _ _).drew)).mono ?_; rintro e w6 ⟨rfl, K6⟩))
        have HK6 := hidOf (HX.out.2.1.kp.trans K6)
        clear K6 HX IX SX
        have AL := hidOf (alive_any _ (HT.out.kept HK6.out))
        go_wp2_with fail
        refine AL.out.mono ?_
        rintro e WA ⟨rfl, KA⟩
        have KF := hidOf ((HK6.out).trans KA)
        clear KA
        go_wp2
        go_ret
        exact ⟨rfl, KF.out⟩
      · 
        go_wp2_with fail
        go_region_held3 (fun W' => W'.cell? ⟨q + 1, 1, none⟩ = some (.slice lo k lc) ∧ W'.cell? ⟨q + 1, 0, none⟩ = some (.int .u64 h) ∧ W'.cell? ⟨q, 2, none⟩ = some (.int .i64 c.c))
          (exact SX.out _ (by first | assumption | exact (Kept.refl _ _).drew | exact Kept.refl _ _))
          (first | (go_at_call 17; with_reducible refine (IX.out _ (by exact (Kept.refl _ _).drew)).mono ?_; rintro e w6 ⟨rfl, K6⟩))
        have HE := hidOf (En.of (i := X) HI.out.1 (by rw [← HN.out]; exact HI.out.2.1) hX0 (by omega : X ≤ c.c))
        obtain ⟨T, hT2⟩ : ∃ T, T = tlV c (fd c xs X 4) + 1 := ⟨_, rfl⟩
        rw [← hT2] at HE
        clear hT2
        have HU0 : HU c T X xs ⟨h, 0, 0, 0⟩ := by rw [HXX.out]; exact Go.Proofs.YtjbdaejkofkcpaaDoor.K.HU.start c T xs h
        have HUU := hidOf HU0
        clear HU0
        have HAP : Hid ((¬ p = p2 ∧ ¬ r = r2) ∧ a < b ∧ b < d ∧ w.heap.size ≤ a) := hidOf (by
          have N := HX.out.2.2.2.2.1
          have := HX.out.2.2.2.2.2
          exact ⟨HX.out.2.2.2.1, N.lt, N.lt2, by have := N.ge; omega⟩)
        have HI0 := Go.Proofs.YtjbdaejkofkcpaaDoor.K.HI.start (c := c) wh
        have HS0 := Go.Proofs.YtjbdaejkofkcpaaDoor.K.HS.start c X xs h
        have HZ0 : Hid (Tw w w6 m p r a b c T X xs xs ⟨h, 0, 0, 0⟩ ⟨h, 0, 0, 0⟩ 0 ∧ Ot w w6 q c (tuA h lo k lc) m2 p2 r2 d xs ⟨h, 0, 0, 0⟩) := hidOf (by
          obtain ⟨x1, x2, x3, x4, N, _⟩ := HX.out
          have ap := HAP.out
          exact ⟨⟨⟨_, x2.new K6⟩, N.A.kept K6 (by simp), N.B.kept K6 (by simp), HI0, HI0, by omega, by omega, by omega, HE.out, HUU.out, HUU.out, CI.refl c T X xs, HS0, HS0⟩, ⟨x1.new K6, x3.new K6, N.D.kept K6 (by simp)⟩⟩)
        have HI00 := hidOf HI0
        have HS00 := hidOf HS0
        clear K6 HX IX SX HI0 HS0
        have y1 := cell_of_blk HZ0.out.2.bx.z (i := 1) (v := .slice lo k lc) rfl
        go_wp2
        clear y1
        go_loopw [87] (fun s87 wr => ∃ i : Nat, i ≤ k ∧ s87 = .int .i64 i ∧ ∃ cs s t cnt, Tw w wr m p r a b c T X xs cs s t cnt ∧ Ot w wr q c (tuA h lo k lc) m2 p2 r2 d xs ⟨h, 0, 0, 0⟩ ∧ 0 ≤ cnt ∧ cnt ≤ (i : Int)) (fun s87 _ => k - (intOf s87).toNat)
        case atStart => exact ⟨0, by omega, by first | rfl | go_num, _, _, _, _, HZ0.out.1, HZ0.out.2, by omega, by omega⟩
        case round =>
          clear HZ0
          obtain ⟨i, hi, rfl, cs, s, t, cnt, Z⟩ := hrel
          have HZ := hidOf Z
          clear Z
          by_cases hlt : i < k
          · have hltz : (i : Int) < (k : Int) := by omega
            obtain ⟨acc, j⟩ := HZ.out.1.J
            obtain ⟨b3, o3, el, bl, z3⟩ := bo_row (HL.out.new j.kp) (k := i) (by rw [← HK.out]; exact hlt)
            clear j
            rw [el]
            obtain ⟨B, hB⟩ : ∃ B, B = ts.getD i false := ⟨_, rfl⟩
            rw [← hB] at z3
            clear hB
            cases B with
            | true =>
              have ST := hidOf (HZ.out.1.step (by have := HZ.out.2.2; omega))
              go_wp2_with fail
              refine ST.out.mono ?_
              rintro e w7 ⟨rfl, TW7, K7⟩
              have HN : Hid (∃ cs s t cnt, Tw w w7 m p r a b c T X xs cs s t cnt ∧ Ot w w7 q c (tuA h lo k lc) m2 p2 r2 d xs ⟨h, 0, 0, 0⟩ ∧ 0 ≤ cnt ∧ cnt ≤ ((i + 1 : Nat) : Int)) := hidOf (by
                have l := hN_le cnt s
                have z := HZ.out.2.2
                have ap := HAP.out
                exact ⟨_, _, _, _, TW7, HZ.out.2.1.far HZ.out.1 ⟨ap.1, by omega⟩ K7, by omega, by omega⟩)
              clear ST TW7 K7 HZ
              go_wp2
              go_roundw
              case rel => exact ⟨i + 1, by omega, by go_num, by rw [← el]; exact HN.out⟩
              case measure => simp [intOf]; omega
            | false =>
              have ST := hidOf (HZ.out.1.symm.step (by have := HZ.out.2.2; omega))
              go_wp2_with fail
              refine ST.out.mono ?_
              rintro e w7 ⟨rfl, TW7, K7⟩
              have HN : Hid (∃ cs s t cnt, Tw w w7 m p r a b c T X xs cs s t cnt ∧ Ot w w7 q c (tuA h lo k lc) m2 p2 r2 d xs ⟨h, 0, 0, 0⟩ ∧ 0 ≤ cnt ∧ cnt ≤ ((i + 1 : Nat) : Int)) := hidOf (by
                have l := hN_le cnt t
                have z := HZ.out.2.2
                have ap := HAP.out
                exact ⟨_, _, _, _, TW7.symm, HZ.out.2.1.far HZ.out.1.symm ⟨ap.1, by omega⟩ K7, by omega, by omega⟩)
              clear ST TW7 K7 HZ
              go_wp2
              go_roundw
              case rel => exact ⟨i + 1, by omega, by go_num, by rw [← el]; exact HN.out⟩
              case measure => simp [intOf]; omega
          · have hie : i = k := by omega
            have hltz : ¬ (i : Int) < (k : Int) := by omega
            have EA := hidOf (HZ.out.1.ends (by have := HZ.out.2.2; omega))
            go_wp2_with fail
            refine EA.out.mono ?_
            rintro e w7 ⟨n1, d1, s1, rfl, T1, s3, l1, K7⟩
            have HZ1 := hidOf (And.intro T1.symm (And.intro (HZ.out.2.1.far HZ.out.1 (by have := HAP.out; exact ⟨this.1, by omega⟩) K7) (And.intro s3 (show 0 ≤ cnt + (n1 : Int) ∧ cnt + (n1 : Int) ≤ 300 by have := HZ.out.2.2; omega))))
            clear EA T1 s3 l1 K7 HZ
            have EA := hidOf (HZ1.out.1.ends (by have := HZ1.out.2.2.2; omega))
            go_wp2_with fail
            refine EA.out.mono ?_
            rintro e w8 ⟨n2, d2, t1, rfl, T2, t3, l2, K8⟩
            have HZ2 := hidOf (And.intro T2 (And.intro (HZ1.out.2.1.far HZ1.out.1 (by have := HAP.out; exact ⟨this.1, by omega⟩) K8) (And.intro HZ1.out.2.2.1 t3)))
            clear EA T2 t3 l2 K8 HZ1
            have EA := hidOf (ends_any w w8 d m2 p2 r2 c ⟨h, 0, 0, 0⟩ xs 0 Acc.zero 100 HZ2.out.2.1.J HZ2.out.2.1.D (by have := HAP.out; omega) HI00.out (by omega) (by omega))
            go_wp2_with fail
            refine EA.out.mono ?_
            rintro e w9 ⟨n3, rfl, e1, -, Z⟩
            have CI0 := (hx_ci HE.out HUU.out (CI.refl c T X xs) HS00.out n3).1
            obtain ⟨u1, d3, et, u3, -, -, E3, U3, ⟨a3, J3⟩, B3, dl⟩ := Z.fin HE.out HUU.out e1
            rw [et] at CI0
            have TF := tw_far HZ2.out.1 HZ2.out.2.1 (by have := HAP.out; exact ⟨this.1, by omega, by omega⟩) (by have := HAP.out; omega) Z.kp
            have ed : d2 = d3 := CI.same TF.ua HZ2.out.2.2.2 TF.ci U3 u3 CI0
            rw [← ed] at J3 dl
            obtain ⟨a2, J2⟩ := TF.J
            have HDL : Hid (d2.length = n) := hidOf (by rw [HN.out]; exact dl)
            have HF := hidOf (And.intro J2 (And.intro J3 (And.intro TF.B (And.intro TF.A (And.intro B3 (And.intro HZ2.out.2.2.1 (And.intro HZ2.out.2.2.2 u3)))))))
            clear EA Z e1 CI0 E3 U3 J3 B3 dl TF ed J2 HZ2 u3 et
            go_wp2_with fail
            refine HF.out.2.1.bank.mono ?_
            rintro e w10 ⟨rfl, rfl⟩
            go_wp2_with fail
            refine HF.out.2.1.cells.mono ?_
            rintro e w11 ⟨q1, rfl, hq1, Q1, K11⟩
            have HG := hidOf (And.intro (HF.out.1.new K11) (And.intro (HF.out.2.2.1.kept K11 (by simp)) (And.intro (HF.out.2.2.2.1.kept K11 (by simp)) (And.intro (HF.out.2.2.2.2.1.kept K11 (by simp)) (And.intro Q1 HF.out.2.2.2.2.2)))))
            clear HF hq1 Q1 K11
            rw [HDL.out]
            go_wp2
            go_loopw [112] (fun s112 wr => ∃ i : Nat, i ≤ n ∧ s112 = .int .i64 i ∧ Kept [] w11 wr) (fun s112 _ => n - (intOf s112).toNat)
            case atStart => exact ⟨0, by omega, by first | rfl | go_num, Kept.refl _ _⟩
            case round =>
              obtain ⟨i, hi, rfl, KW⟩ := hrel
              have HK1 := hidOf KW
              clear KW
              by_cases hlt : i < n
              · have hltz : (i : Int) < n := by omega
                have Q1 := HG.out.2.2.2.2.1.kept HK1.out (by simp)
                have z1 := Q1.cell (i := i) (by rw [HDL.out]; exact hlt)
                have z3 := Q1.lt
                obtain ⟨V, hV⟩ : ∃ V, V = d2[i]'(by rw [HDL.out]; exact hlt) := ⟨_, rfl⟩
                rw [← hV] at z1
                have HV := hidOf hV
                clear hV Q1
                have JM := hidOf (HG.out.1.new HK1.out)
                go_wp2_with fail
                refine JM.out.bank.mono ?_
                rintro e w12 ⟨rfl, rfl⟩
                go_wp2_with fail
                refine JM.out.cells.mono ?_
                rintro e w13 ⟨q2, rfl, -, Q2, K13⟩
                have z2 := Q2.cell (i := i) (by rw [HDL.out]; exact hlt)
                have z4 := Q2.lt
                rw [← HV.out] at z2
                have HK2 := hidOf (HK1.out.trans K13)
                clear HK1 K13 JM z1 z3 Q2
                rw [HDL.out]
                go_wp2
                go_roundw
                case rel => exact ⟨i + 1, by omega, by go_num, HK2.out⟩
                case measure => simp [intOf]; omega
              · have hie : i = n := by omega
                have hltz : ¬ (i : Int) < n := by omega
                have KP := hidOf (HG.out.1.kp.trans HK1.out)
                have AL := hidOf (alive_any _ (HT.out.kept KP.out))
                go_wp2_with fail
                refine AL.out.mono ?_
                rintro e WA ⟨rfl, KA⟩
                have KK := hidOf (HK1.out.trans KA)
                have KF := hidOf (KP.out.trans KA)
                clear AL KA HK1 KP
                have DA := hidOf (fun (Y : World) (kk : Kept [] w11 Y) => hdone_any a s1 Y (HG.out.2.1.kept kk (by simp)) (by have := HG.out.2.2.2.2.2.1; omega))
                have DB := hidOf (fun (Y : World) (kk : Kept [] w11 Y) => hdone_any b t1 Y (HG.out.2.2.1.kept kk (by simp)) (by have := HG.out.2.2.2.2.2.2.1; omega))
                have DD := hidOf (fun (Y : World) (kk : Kept [] w11 Y) => hdone_any d u1 Y (HG.out.2.2.2.1.kept kk (by simp)) (by have := HG.out.2.2.2.2.2.2.2; omega))
                rw [show decide (s1.ph = 3) = true from decide_eq_true HG.out.2.2.2.2.2.1] at DA
                rw [show decide (t1.ph = 3) = true from decide_eq_true HG.out.2.2.2.2.2.2.1] at DB
                rw [show decide (u1.ph = 3) = true from decide_eq_true HG.out.2.2.2.2.2.2.2] at DD
                go_wp2_with fail
                refine (DA.out _ KK.out).mono ?_
                rintro e wB ⟨rfl, rfl⟩
                go_wp2_with fail
                refine (DB.out _ KK.out).mono ?_
                rintro e wC ⟨rfl, rfl⟩
                go_wp2_with fail
                refine (DD.out _ KK.out).mono ?_
                rintro e wD ⟨rfl, rfl⟩
                go_wp2
                go_ret
                exact ⟨rfl, KF.out⟩
  · have HI := hidOf hW
    clear hW
    go_enter Tryd.func5, Tryd.ntmps5
    go_upto_region 1 with (fail)
    rw [← hq]
    refine gen_world (fun W => Bx 63 W q c (tuA h lo k lc) ∧ Kept [] w W) BX.out ?_
    have hqw : w.heap.size ≤ q := by omega
    clear BX hq
    rintro W ⟨CB, K0⟩
    have HX := hidOf (And.intro CB K0)
    clear CB K0
    have OF := hidOf (kof_no c ao n cap W HI.out)
    go_wp2_with (first | ((with_reducible change wpList _ _ _ (Oper.mk _ (Op.load 23 (Operand.tmp 3)) _ _ _ _ :: _) _ _); refine wpList_load_rw 23 isT_cf rfl (.tmp 3) rfl q rfl #[.int .i64 c.t, .int .i64 c.s, .int .i64 c.c, .int .i64 c.h, .int .i64 c.k, .int .i64 c.e, .int .i64 c.l] rfl HX.out.1.c ?_))
    refine OF.out.mono ?_
    rintro e w1 ⟨rfl, K1⟩
    have HX1 := hidOf (And.intro (HX.out.1.new K1) (HX.out.2.trans K1))
    clear K1 OF HX
    go_upto_region 2 with (first | ((with_reducible change wpList _ _ _ (Oper.mk _ (Op.store 35 (Operand.tmp 8) _) _ _ _ _ :: _) _ _); refine wpList_store_rw 35 isT_rm rfl (.tmp 8) (.tmp 25) rfl w1.heap.size rmZ rfl rfl rfl rmZ_one rmZ (RW.new 35 w1 rmZ) rfl ?_))
    refine gen_world (fun V => Bx 63 V q c (tuA h lo k lc) ∧ Kept [] w V) ?_ ?_
    · have KV : Kept [] w1 ((w1.alloc (.cells rmZ 35)).setRow w1.heap.size rmZ) := ((Kept.refl [] w1).alloc _).setRow (Or.inr (Nat.le_refl _)) _
      exact ⟨HX1.out.1.new KV, HX1.out.2.trans KV⟩
    clear HX1
    rintro V ⟨CB, J⟩
    have HX := hidOf (And.intro CB J)
    clear CB J
    have OF := hidOf (kof_no c ao n cap V HI.out)
    go_wp2_with (first | ((with_reducible change wpList _ _ _ (Oper.mk _ (Op.load 23 (Operand.tmp 3)) _ _ _ _ :: _) _ _); refine wpList_load_rw 23 isT_cf rfl (.tmp 3) rfl q rfl #[.int .i64 c.t, .int .i64 c.s, .int .i64 c.c, .int .i64 c.h, .int .i64 c.k, .int .i64 c.e, .int .i64 c.l] rfl HX.out.1.c ?_))
    refine OF.out.mono ?_
    rintro e w2 ⟨rfl, K1⟩
    have HX1 := hidOf (And.intro (HX.out.1.new K1) (HX.out.2.trans K1))
    clear K1 OF HX
    go_upto_region 3 with (first | ((with_reducible change wpList _ _ _ (Oper.mk _ (Op.store 35 (Operand.tmp 11) _) _ _ _ _ :: _) _ _); refine wpList_store_rw 35 isT_rm rfl (.tmp 11) (.tmp 32) rfl w2.heap.size rmZ rfl rfl rfl rmZ_one rmZ (RW.new 35 w2 rmZ) rfl ?_))
    refine gen_world (fun U => Bx 63 U q c (tuA h lo k lc) ∧ Kept [] w U) ?_ ?_
    · have KV : Kept [] w2 ((w2.alloc (.cells rmZ 35)).setRow w2.heap.size rmZ) := ((Kept.refl [] w2).alloc _).setRow (Or.inr (Nat.le_refl _)) _
      exact ⟨HX1.out.1.new KV, HX1.out.2.trans KV⟩
    clear HX1
    rintro U ⟨CB, J⟩
    have HX := hidOf (And.intro CB J)
    clear CB J
    have NA := hidOf (fun (Y : World) (kk : Kept [] U Y) => N1.of h kk)
    have SX := hidOf (fun (Y : World) (kk : Kept [] U Y) => cell_of_blk (HX.out.1.z.kept kk (by simp)) (i := 0) (v := .int .u64 h) rfl)
    go_region_held3 (fun W' => W'.cell? ⟨q + 1, 0, none⟩ = some (.int .u64 h))
      (first | exact SX.out _ (Kept.refl _ _).drew | exact SX.out _ (N3.k (by assumption)) | exact SX.out _ (N2.k (by assumption)) | exact SX.out _ (N1.k (by assumption)))
      (first
        | (go_at_call 10; with_reducible refine (NA.out _ (by exact (Kept.refl _ _).drew)).mono ?_; rintro e w3 ⟨a, rfl, A3⟩)
        | (go_at_call 10; with_reducible refine (N2.of (by assumption)).mono ?_; rintro e w4 ⟨b, rfl, A4⟩)
        | (go_at_call 10; with_reducible refine (N3.of (by assumption)).mono ?_; rintro e w5 ⟨d, rfl, A5⟩))
    have HY := hidOf (HX.out.2.trans A5.k)
    clear HX A3 A4 A5 NA SX
    go_wp2_with fail
    go_quiet (fail)
    have AL := hidOf (fun (Y : World) (k : Kept [] w Y) => (alive_any Y (HT.out.kept k)).mono fun _ _ z => And.intro z.1 (k.trans z.2))
    go_wp2_with fail
    refine (AL.out _ (Kept.drewN HY.out _)).mono ?_
    rintro e WA ⟨rfl, KA⟩
    have KF := hidOf KA
    clear KA
    go_wp2
    go_ret
    exact ⟨rfl, KF.out⟩

set_option maxRecDepth 100000 in
theorem helpTwo_lifted (os : Os) (started : os.Started) (H : Type) (enc : TypeId × Value → H) :
    ReturnsInHanded {} Tryd.checked os 5 .any (fun w args => (Rows.helpTwoSpec.pre enc Tryd.prog Tryd.f5 [] false w args ∧ laidMetH Tryd.prog laid1 w) ∧ sizedMet enc Tryd.prog Tryd.f5 (OpenSpec.ofChange Rows.helpTwoSpec) false w args)
      (Rows.helpTwoSpec.post enc Tryd.prog Tryd.f5 false true false false) := by
  refine returnsInHanded_of_change_and (C := Tryd.checked) (X := fun w _ => laidMetH Tryd.prog laid1 w) (fun _ _ _ hh h => h.of_heap hh) own started (by kernel_rfl) Tryd.func5
    (ChangeSpec.witness_shaped (enc := enc) (C := Tryd.checked) (os := os) (X := fun w _ => laidMetH Tryd.prog laid1 w) false (World.doorLaid Tryd.prog 400 os) #[.agg #[.int .i64 0, .int .i64 0, .int .i64 0, .int .i64 0, .int .i64 0, .int .i64 0, .int .i64 0], .slice none 0 0, .agg #[.int .u64 0, .slice none 0 0]] 8 rfl (World.shaped_of_RefB (by kernel_rfl) (by kernel_rfl)) (by kernel_rfl) (by kernel_rfl) (by kernel_rfl) (door_met os _)) ?_
  intro W base args ds gs before hval0 hW _ _ hL _
  have hval : ∀ (j : Nat) t v, Tryd.f5.params[j]? = some t → args[j]? = some v → Value.okWide Tryd.prog W .any base t v := hval0
  have hW' := hW
  obtain ⟨p, q, hA0, hV, rfl, _, _⟩ := hW
  have hA : DataW.TrodAll enc Tryd.prog W 0 (fun _ => true) true Tryd.f5.params.toList args.toList ds p := hA0
  rw [Tryd.params5] at hA hval
  clear hA0 hval0
  obtain ⟨v0, vs0, d0, ds0, p0, q0, hargs, rfl, rfl, h0, r0⟩ := trodAll_cons hA
  obtain ⟨v1, vs1, d1, ds1, p1, q1, rfl, rfl, rfl, h1, r1⟩ := trodAll_cons r0
  obtain ⟨v2, vs2, d2, ds2, p2, q2, rfl, rfl, rfl, h2, r2⟩ := trodAll_cons r1
  obtain ⟨rfl, rfl, rfl⟩ := trodAll_nil r2
  obtain rfl : args = #[v0, v1, v2] := by cases args; simp_all
  obtain ⟨rfl, rfl⟩ := trodVars_none hV
  have k0 := h0
  have k1 := h1
  have k2 := h2
  simp only [List.append_nil] at hW'
  have hlt0 : ∀ x ∈ p0, x.block < W.heap.size := fun x hx => hW'.lt x (by simp [hx])
  have hlt1 : ∀ x ∈ p1, x.block < W.heap.size := fun x hx => hW'.lt x (by simp [hx])
  have hlt2 : ∀ x ∈ p2, x.block < W.heap.size := fun x hx => hW'.lt x (by simp [hx])
  obtain ⟨c0, rfl, g0⟩ := open_cfg (hval 0 23 v0 rfl rfl) h0
  obtain ⟨ao1, cap1, xs1, rfl, s1, g1, z1, n1⟩ := open_words (hval 1 24 v1 rfl rfl) h1
  obtain ⟨hh2, lo2, lc2, ts2, rfl, wh2, sl2⟩ := open_turns (hval 2 63 v2 rfl rfl) h2
  refine (helpTwo_walk W c0 g0 ao1 xs1 cap1 s1 g1 n1 hh2 lo2 lc2 ts2 wh2 sl2 (tab_of_laid hL)).mono fun e W' ⟨he, hg⟩ => ?_
  subst he
  have hb := hg.below (by simp)
  exact ⟨_, rfl, _, _, _, [], _, [], hW', (trodAll_cons_mk (shut_bool Tryd.underlying4 _) trodAll_mk0), (trodAll_cons_mk (Below.trod laidOut (by kernel_rfl) (of_decide_eq_true (by kernel_rfl)) k0 hb hlt0) (trodAll_cons_mk (Below.trod laidOut (by kernel_rfl) (of_decide_eq_true (by kernel_rfl)) k1 hb hlt1) (trodAll_cons_mk (Below.trod laidOut (by kernel_rfl) (of_decide_eq_true (by kernel_rfl)) k2 hb hlt2) trodAll_mk0))), rfl, hb.frame _, fun h => by cases h⟩

theorem helpTwo_over : Rows.HelpTwoSaid :=
  OpenClaim.holds_of_wide 5 Tryd.f5 rfl rfl rfl rfl rfl rfl rfl ⟨rfl, rfl, rfl, rfl, rfl⟩ rfl rfl rfl rfl rfl (by kernel_rfl) Tryd.func5 (by kernel_rfl)
    (of_decide_eq_true (by kernel_rfl)) (by unfold Func.isWrapper; first | (rw [if_pos (by decide +kernel)]; kernel_rfl) | (rw [if_neg (by decide +kernel)]; exact ⟨rfl, rfl⟩))
    (fun os started H enc _ => helpTwo_lifted os started H enc)

theorem helpTwo_holds : Rows.HelpTwoCardSaid :=
  Claim7.holds_tied_plain_at .later [] [.data] true (true, "8da01a15b0ed21f15b06d493984036c42457dccc076fb2a2ce17b33141c9b120") false
    helpTwo_over (fun _ h => by cases h) (by kernel_rfl) (fun _ h => by cases h) helpTwo_row_tie rfl ⟨rfl, rfl⟩ (by kernel_rfl) rfl
    (fun f fn hf hfn => by
      obtain rfl : f = 5 := Option.some.inj ((show Tryd.prog.funcNamed "stepstone/stepstonelaw12.HelpTwo" = some 5 by kernel_rfl).symm.trans hf) |>.symm
      obtain rfl : fn = Tryd.f5 := (Option.some.inj (Tryd.func5.symm.trans hfn)).symm
      exact ⟨by kernel_rfl, fun j t ht => by
          rw [Tryd.params5] at ht
          rcases j with _ | j
          · have : t = 23 := by simpa using ht.symm
            subst this; exact (show Tryd.prog.wantsStandIn 23 = false by kernel_rfl)
          rcases j with _ | j
          · have : t = 24 := by simpa using ht.symm
            subst this; exact (show Tryd.prog.wantsStandIn 24 = false by kernel_rfl)
          rcases j with _ | j
          · have : t = 63 := by simpa using ht.symm
            subst this; exact (show Tryd.prog.wantsStandIn 63 = false by kernel_rfl)
          simp at ht⟩)
    (by kernel_rfl)
#print axioms helpTwo_holds
end Go.Proofs.YtjbdaejkofkcpaaDoor
