/-
  Each step of a help, over any words, whoever writes into them meanwhile, is the access that the document says.
  Conditions: the package variable of handle that the code reads starts as the program's text lays it (the card ties it to that text).
-/
import Derived.Test.YtjbdaejkofkcpaaDoorJAlv
import Derived.Test.YtjbdaejkofkcpaaDoorJBoth
import Derived.Test.YtjbdaejkofkcpaaDoorHLaid
import Derived.Test.YtjbdaejkofkcpaaDoorPArgs
import Derived.Deep.CutRange
import Derived.ProofKit
import Derived.SizedLaws
import Derived.Carry
namespace Go.Proofs.YtjbdaejkofkcpaaDoor
open Go.ChangeShapes Go.WideShapes Go.ChangeAt Go.RowKit
open Go.Deep
open Go.Proofs.YtjbdaejkofkcpaaDoor.K
set_option maxRecDepth 100000

set_option maxRecDepth 100000 in
set_option maxHeartbeats 8000000 in
theorem helpSteps_walk (w : World) (c : Cfg) (_g : c.wf) (ao : Option Addr) (xs : List Int) (cap : Nat) (hs : Sl w ao xs) (hg : ∀ x ∈ xs, isWord x) (hc : ao = none → cap = 0) (h st : Int) (lo : Option Addr) (lc : Nat) (ps : List Pk) (wh : isW h) (hl : SlOf 3 pkL w lo ps) (hp : ∀ x ∈ ps, x.wf) (hT : Tab w) :
    Calls Tryd.prog 3 #[c.val, .slice ao xs.length cap, .agg (hpA h st lo ps.length lc)] w fun e w' => e = .returned (.bool true) ∧ Kept [] w w' := by
  simp only [Cfg.val]
  obtain ⟨n, hn⟩ : ∃ n, n = xs.length := ⟨_, rfl⟩
  rw [← hn]
  have HN := hidOf hn
  have HS := hidOf hs
  have HC := hidOf hc
  have HW := hidOf (wds_of hg)
  have HT := hidOf hT
  clear hn hs hc hg hT
  obtain ⟨k, hk⟩ : ∃ k, k = ps.length := ⟨_, rfl⟩
  rw [← hk]
  have HK := hidOf hk
  have HL := hidOf (And.intro hl hp)
  clear hk hl hp
  obtain ⟨q, hq⟩ : ∃ q, q = w.heap.size := ⟨_, rfl⟩
  have BX : Hid (Bx 28 ((w.alloc (.cells #[.int .i64 c.t, .int .i64 c.s, .int .i64 c.c, .int .i64 c.h, .int .i64 c.k, .int .i64 c.e, .int .i64 c.l] 23)).alloc (.cells (hpA h st lo k lc) 28)) q c (hpA h st lo k lc) ∧ Kept [] w ((w.alloc (.cells #[.int .i64 c.t, .int .i64 c.s, .int .i64 c.c, .int .i64 c.h, .int .i64 c.k, .int .i64 c.e, .int .i64 c.l] 23)).alloc (.cells (hpA h st lo k lc) 28))) := by
    have z := two_new 23 28 w #[.int .i64 c.t, .int .i64 c.s, .int .i64 c.c, .int .i64 c.h, .int .i64 c.k, .int .i64 c.e, .int .i64 c.l] (hpA h st lo k lc) hq
    exact ⟨⟨z.1, z.2.1⟩, z.2.2⟩
  by_cases hW : IsW c n
  · have HI := hidOf hW
    have n4 := hW.2.2
    clear hW
    go_enter Tryd.func3, Tryd.ntmps3
    go_upto_region 1 with (fail)
    rw [← hq]
    refine gen_world (fun W => Bx 28 W q c (hpA h st lo k lc) ∧ Kept [] w W) BX.out ?_
    have hqw : w.heap.size ≤ q := by omega
    clear BX hq
    rintro W ⟨CB, K0⟩
    have HX := hidOf (And.intro CB K0)
    clear CB K0
    have OF := hidOf (kof_yes c ao xs n cap W HI.out HN.out (HS.out.new HX.out.2) HC.out)
    go_wp2_with (first | ((with_reducible change wpList _ _ _ (Oper.mk _ (Op.load 23 (Operand.tmp 3)) _ _ _ _ :: _) _ _); refine wpList_load_rw 23 isT_cf rfl (.tmp 3) rfl q rfl #[.int .i64 c.t, .int .i64 c.s, .int .i64 c.c, .int .i64 c.h, .int .i64 c.k, .int .i64 c.e, .int .i64 c.l] rfl HX.out.1.c ?_))
    refine OF.out.mono ?_
    rintro e w1 ⟨m, p, r, g, c', rfl, ⟨a1, a2, a3, a4, a5⟩, M, R, K1⟩
    have HX1 := hidOf (And.intro (HX.out.1.new K1) (And.intro (show Jm w w1 m p r c xs 0 Acc.zero from ⟨M, HX.out.2.trans K1, HT.out, by have := HX.out.2.size; omega, by have := HX.out.2.size; omega, by have := HX.out.2.size; omega, riB_true.1 HI.out.1, HW.out, Int.le_refl _⟩) (And.intro R (show ¬ g = r ∧ w.heap.size ≤ w1.heap.size from ⟨a5, by have := (HX.out.2.trans K1).size; omega⟩))))
    clear M R K1 OF HX a1 a2 a3 a4 a5
    obtain ⟨qm, hqm⟩ : ∃ qm, qm = w1.heap.size := ⟨_, rfl⟩
    go_upto_region 2 with (first | ((with_reducible change wpList _ _ _ (Oper.mk _ (Op.store 35 (Operand.tmp 8) _) _ _ _ _ :: _) _ _); refine wpList_store_rw 35 isT_rm rfl (.tmp 8) (.tmp 18) rfl w1.heap.size (rmA c (some ⟨g, 0, none⟩) n c' 0 Acc.zero) rfl rfl rfl (rm_one _ _ _ _ _ _) rmZ (RW.new 35 w1 rmZ) rfl ?_))
    rw [← hqm]
    refine gen_world (fun V => Bx 28 V q c (hpA h st lo k lc) ∧ Jm w V m p r c xs 0 Acc.zero ∧ RowR V g xs c' ∧ RW 35 V qm (rmA c (some ⟨g, 0, none⟩) n c' 0 Acc.zero) ∧ (¬ g = r) ∧ w.heap.size ≤ qm) ?_ ?_
    · have KV : Kept [] w1 ((w1.alloc (.cells rmZ 35)).setRow w1.heap.size (rmA c (some ⟨g, 0, none⟩) n c' 0 Acc.zero)) := ((Kept.refl [] w1).alloc _).setRow (Or.inr (Nat.le_refl _)) _
      rw [hqm]
      exact ⟨HX1.out.1.new KV, HX1.out.2.1.new KV, HX1.out.2.2.1.kept KV (by simp), (RW.new 35 w1 rmZ).row _, HX1.out.2.2.2⟩
    clear HX1 hqm
    rintro V HX0
    have HX := hidOf HX0
    clear HX0
    have y0 := cell_of_blk HX.out.1.z (i := 0) (v := .int .u64 h) rfl
    go_wp2_with fail
    refine (hnew_any h _).mono ?_
    rintro e w2 ⟨a, rfl, ha, A2, K2⟩
    have HY := hidOf (And.intro (HX.out.1.new K2) (And.intro (HX.out.2.1.new K2) (And.intro (HX.out.2.2.1.kept K2 (by simp)) (And.intro (HX.out.2.2.2.1.kept K2 (by simp)) (And.intro HX.out.2.2.2.2 (And.intro A2 (show w.heap.size ≤ a by have := HX.out.2.1.kp.size; omega)))))))
    clear HX ha A2 K2 y0
    have HX := HY
    clear HY
    have y1 := cell_of_blk HX.out.1.z (i := 1) (v := .int .i64 st) rfl
    have y2 := cell_of_blk HX.out.1.z (i := 2) (v := .slice lo k lc) rfl
    by_cases s200 : 200 < st
    · 
      have AL := hidOf (alive_any _ (HT.out.kept HX.out.2.1.kp))
      go_wp2_with fail
      refine AL.out.mono ?_
      rintro e WA ⟨rfl, KA⟩
      have KF := hidOf ((HX.out.2.1.kp).trans KA)
      clear KA
      go_wp2
      go_ret
      exact ⟨rfl, KF.out⟩
    · by_cases k30 : 30 < (k : Int)
      · 
        have AL := hidOf (alive_any _ (HT.out.kept HX.out.2.1.kp))
        go_wp2_with fail
        refine AL.out.mono ?_
        rintro e WA ⟨rfl, KA⟩
        have KF := hidOf ((HX.out.2.1.kp).trans KA)
        clear KA
        go_wp2
        go_ret
        exact ⟨rfl, KF.out⟩
      · obtain ⟨qh, hqh⟩ : ∃ qh, qh = w2.heap.size := ⟨_, rfl⟩
        have y0 := cell_of_blk HX.out.1.z (i := 0) (v := .int .u64 h) rfl
        go_upto_region 6 with (first | ((with_reducible change wpList _ _ _ (Oper.mk _ (Op.store 42 (Operand.tmp 11) _) _ _ _ _ :: _) _ _); refine wpList_store_rw 42 isT_rh rfl (.tmp 11) (.tmp 47) rfl w2.heap.size (rhA ⟨h, 0, 0, 0, false⟩) rfl rfl rfl (rh_one _) rhZ (RW.new 42 w2 rhZ) rfl ?_))
        rw [← hqh]
        refine gen_world (fun U => Lb w U q qm qh a m p r c (hpA h st lo k lc) g c' ⟨h, 0, 0, 0⟩ (rmA c (some ⟨g, 0, none⟩) n c' 0 Acc.zero) (rhA ⟨h, 0, 0, 0, false⟩) xs 0 Acc.zero) ?_ ?_
        · have KV : Kept [] w2 ((w2.alloc (.cells rhZ 42)).setRow w2.heap.size (rhA ⟨h, 0, 0, 0, false⟩)) := ((Kept.refl [] w2).alloc _).setRow (Or.inr (Nat.le_refl _)) _
          rw [hqh]
          obtain ⟨x1, x2, x3, x4, ⟨x5, x6⟩, x7, x8⟩ := HX.out
          exact ⟨x7.kept KV (by simp), (RW.new 42 w2 rhZ).row _, x4.kept KV (by simp), x3.kept KV (by simp), x2.new KV, x1.new KV, x5, x8, x6, x2.kp.size⟩
        clear HX hqh y0 y1 y2
        rintro U LB0
        by_cases s0 : 0 < st
        · obtain ⟨N, rfl⟩ : ∃ N : Nat, st = (N : Int) := ⟨st.toNat, by omega⟩
          have N2 : N ≤ 200 := by omega
          have y1 := cell_of_blk LB0.bx.z (i := 1) (v := .int .i64 (N : Int)) rfl
          have HZ0 := hidOf (And.intro LB0 (And.intro (Go.Proofs.YtjbdaejkofkcpaaDoor.K.HI.start (c := c) wh) (And.intro (Rel.start (h := h)) (show xs.length = n ∧ (0 : Int) ≤ 40 * ((0 : Nat) : Int) from ⟨HN.out.symm, by omega⟩))))
          clear LB0
          go_wp2
          clear y1
          go_loopw [51] (fun s51 wr => ∃ (j g1 c1 : Nat) (s : Hm) (t : Rh) (x : Mst), j ≤ N ∧ s51 = .int .i64 j ∧ Lb w wr q qm qh a m p r c (hpA h (N : Int) lo k lc) g1 c1 s (rmA c (some ⟨g1, 0, none⟩) n c1 x.n x.a) (rhA t) x.cs x.n x.a ∧ Go.Proofs.YtjbdaejkofkcpaaDoor.K.HI c s ∧ Rel s t ∧ x.cs.length = n ∧ x.n ≤ 40 * (j : Int)) (fun s51 _ => N - (intOf s51).toNat)
          case atStart => exact ⟨0, g, c', _, _, ⟨xs, 0, Acc.zero⟩, Nat.zero_le _, by first | rfl | go_num, HZ0.out⟩
          case round =>
            clear HZ0
            obtain ⟨j, g1, c1, s, t, x, hj, rfl, Z⟩ := hrel
            have HZ := hidOf Z
            clear Z
            by_cases hlt : j < N
            · have hltz : (j : Int) < (N : Nat) := by omega
              have y2 := cell_of_blk HZ.out.1.bx.z (i := 2) (v := .slice lo k lc) rfl
              have PK := hidOf (poked_any m p r g1 c x c1 lo ps k lc j wr HZ.out.1.J.mm HZ.out.1.row HZ.out.1.gr (by rw [HZ.out.2.2.2.1]; omega) HK.out (HL.out.1.new HZ.out.1.J.kp) (fun h0 ad e => by obtain ⟨b1, o1, e1, lt1, _⟩ := HL.out.1 h0; rw [e1] at e; cases e; have z1 := HZ.out.1.J.op; have z2 := HZ.out.1.J.ow; show ¬ b1 = p ∧ ¬ b1 = r; omega) (by omega) HZ.out.1.J.n0 (by have := HZ.out.2.2.2.2; omega))
              rw [HZ.out.2.2.2.1] at PK
              obtain ⟨y, hy⟩ : ∃ y, y = pkF j ps x := ⟨_, rfl⟩
              rw [← hy] at PK
              have HY : Hid (Wds y.cs ∧ y.cs.length = n ∧ 0 ≤ y.n ∧ y.n ≤ 40 * j + 30) := hidOf (by
                have h1 := pkF_n j ps x
                have h2 := HZ.out.1.J.n0
                have h3 := HZ.out.2.2.2.2
                have h4 := HK.out
                rw [hy]
                exact ⟨pkF_wd12 HZ.out.1.J.wd HL.out.2, (pkF_len _ _ _).trans HZ.out.2.2.2.1, by omega, by omega⟩)
              clear hy
              go_wp2_with (first | ((with_reducible change wpList _ _ _ (Oper.mk _ (Op.load 35 (Operand.tmp 8)) _ _ _ _ :: _) _ _); refine wpList_load_rw 35 isT_rm rfl (.tmp 8) rfl qm rfl (rmA c (some ⟨g1, 0, none⟩) n c1 x.n x.a) rfl HZ.out.1.rm ?_))
              refine PK.out.mono ?_
              rintro e w3 ⟨g2, c2, rfl, hg2, R3, M3, K3⟩
              have J3 : Jm w w3 m p r c y.cs y.n y.a := ⟨M3, HZ.out.1.J.kp.then K3 (by have := HZ.out.1.J.op; have := HZ.out.1.J.ow; intro z hz; simp at hz; omega), HT.out, HZ.out.1.J.om, HZ.out.1.J.op, HZ.out.1.J.ow, HZ.out.1.J.R, HY.out.1, HY.out.2.2.1⟩
              have gr2 : ¬ g2 = r := by
                rcases hg2 with z | z
                · rw [z]; exact HZ.out.1.gr
                · have := lt_of_blk HZ.out.1.J.mm.bk.row; omega
              have HB3 := hidOf (And.intro (HZ.out.1.poke K3 J3 R3 gr2) (And.intro HZ.out.2.1 HZ.out.2.2.1))
              clear PK y2 HZ J3 gr2 hg2 R3 M3 K3
              go_upto_region 10 with (first | ((with_reducible change wpList _ _ _ (Oper.mk _ (Op.store 35 (Operand.tmp 8) _) _ _ _ _ :: _) _ _); refine wpList_store_rw 35 isT_rm rfl (.tmp 8) (.tmp 59) rfl qm (rmA c (some ⟨g2, 0, none⟩) n c2 y.n y.a) rfl rfl rfl (rm_one _ _ _ _ _ _) _ HB3.out.1.rm rfl ?_))
              refine gen_world (fun V => Lb w V q qm qh a m p r c (hpA h (N : Int) lo k lc) g2 c2 s (rmA c (some ⟨g2, 0, none⟩) n c2 y.n y.a) (rhA t) y.cs y.n y.a) (HB3.out.1.setm _) ?_
              rintro V3 B3
              have HB := hidOf (And.intro B3 HB3.out.2)
              clear B3 HB3
              have ST := hidOf (HB.out.1.J.step HB.out.1.hb HB.out.1.oa HB.out.2.1 (by have := HY.out.2.2.2; omega))
              go_wp2_with fail
              refine ST.out.mono ?_
              rintro e w4 ⟨rfl, J4, A4, K4⟩
              have HB4 := hidOf (HB.out.1.step K4 J4 A4)
              clear ST J4 A4 K4
              have RS := hidOf (rhstep_any s t c g2 y.cs c2 y.n y.a w4 HB.out.2.2 HB.out.2.1 (riB_true.1 HI.out.1) HY.out.1 HB4.out.2.2.2.1 (by rw [HY.out.2.1]; omega) HY.out.2.2.1 (by have := HY.out.2.2.2; omega))
              rw [HY.out.2.1] at RS
              go_wp2_with (first | ((with_reducible change wpList _ _ _ (Oper.mk _ (Op.load 42 (Operand.tmp 11)) _ _ _ _ :: _) _ _); refine wpList_load_rw 42 isT_rh rfl (.tmp 11) rfl qh rfl (rhA t) rfl HB4.out.2.1 ?_) | ((with_reducible change wpList _ _ _ (Oper.mk _ (Op.load 35 (Operand.tmp 8)) _ _ _ _ :: _) _ _); refine wpList_load_rw 35 isT_rm rfl (.tmp 8) rfl qm rfl (rmA c (some ⟨g2, 0, none⟩) n c2 y.n y.a) rfl HB4.out.2.2.1 ?_))
              refine RS.out.mono ?_
              rintro e w5 ⟨t2, B, rfl, rel2, ⟨g3, c3, rfl, hg3, R5⟩, K5⟩
              have gr3 : ¬ g3 = r := by
                rcases hg3 with z | z
                · rw [z]; exact HB.out.1.gr
                · have := lt_of_blk HB4.out.2.2.2.2.1.mm.bk.row; omega
              have HL5 : Hid (Lb w w5 q qm qh a m p r c (hpA h (N : Int) lo k lc) g3 c3 (hF c y.cs s) (rmA c (some ⟨g2, 0, none⟩) n c2 y.n y.a) (rhA t) (hC c y.cs s) (hN y.n s) (hA c y.cs y.a s)) := hidOf ⟨HB4.out.1.kept K5 (by simp), HB4.out.2.1.kept K5 (by simp), HB4.out.2.2.1.kept K5 (by simp), R5, HB4.out.2.2.2.2.1.new K5, HB4.out.2.2.2.2.2.new K5, gr3, HB.out.1.oa, HB.out.1.om, HB.out.1.oh⟩
              have HR2 : Hid (Go.Proofs.YtjbdaejkofkcpaaDoor.K.HI c (hF c y.cs s) ∧ Rel (hF c y.cs s) t2 ∧ (hC c y.cs s).length = n ∧ hN y.n s ≤ 40 * ((j + 1 : Nat) : Int)) := hidOf ⟨HB.out.2.1.step (riB_true.1 HI.out.1) HY.out.1, rel2, (hC_len _ _ _).trans HY.out.2.1, by have := (hN_le y.n s).2; have := HY.out.2.2.2; omega⟩
              clear RS HB HB4 rel2 hg3 R5 K5 gr3
              go_upto_region 12 with (first | ((with_reducible change wpList _ _ _ (Oper.mk _ (Op.store 42 (Operand.tmp 11) _) _ _ _ _ :: _) _ _); refine wpList_store_rw 42 isT_rh rfl (.tmp 11) (.tmp 67) rfl qh (rhA t2) rfl rfl rfl (rh_one _) _ HL5.out.rh rfl ?_) | ((with_reducible change wpList _ _ _ (Oper.mk _ (Op.store 35 (Operand.tmp 8) _) _ _ _ _ :: _) _ _); refine wpList_store_rw 35 isT_rm rfl (.tmp 8) (.tmp 68) rfl qm (rmA c (some ⟨g3, 0, none⟩) n c3 (hN y.n s) (hA c y.cs y.a s)) rfl rfl rfl (rm_one _ _ _ _ _ _) _ (HL5.out.seth _).rm rfl ?_))
              refine gen_world (fun V => Lb w V q qm qh a m p r c (hpA h (N : Int) lo k lc) g3 c3 (hF c y.cs s) (rmA c (some ⟨g3, 0, none⟩) n c3 (hN y.n s) (hA c y.cs y.a s)) (rhA t2) (hC c y.cs s) (hN y.n s) (hA c y.cs y.a s)) ((HL5.out.seth _).setm _) ?_
              clear HL5
              rintro V6 B6
              have F5' : RW 35 V6.drew qm (rmA c (some ⟨g3, 0, none⟩) n c3 (hN y.n s) (hA c y.cs y.a s)) ∧ RW 42 V6.drew qh (rhA t2) := ⟨B6.rm, B6.rh⟩
              have HSM : Hid (∀ U, Kept [] V6.drew U → Calls Tryd.prog 15 #[.pointer (some ⟨m, 0, none⟩), .agg (rmA c (some ⟨g3, 0, none⟩) n c3 (hN y.n s) (hA c y.cs y.a s))] U fun e w' => e = .returned (.bool true) ∧ Kept [] U w') := hidOf (fun U kk => ksame_any m p r g3 c c _ _ _ n c3 U (B6.new ((Kept.refl [] V6).drew.trans kk)).J.mm (B6.new ((Kept.refl [] V6).drew.trans kk)).row HR2.out.2.2.1.symm (by omega))
              have HDN : Hid (∀ U, Kept [] V6.drew U → Calls Tryd.prog 16 #[.pointer (some ⟨a, 0, none⟩)] U fun e w' => e = .returned (.bool t2.d) ∧ Kept [] U w') := hidOf (fun U kk => (hdone_any a _ U (B6.new ((Kept.refl [] V6).drew.trans kk)).hb HR2.out.1.ph).mono fun e w' hh => ⟨by rw [HR2.out.2.1.d]; exact hh.1, by rw [hh.2]; exact Kept.refl _ _⟩)
              have FN := hidOf (And.intro (B6.new (Kept.refl [] V6).drew) HR2.out)
              clear B6
              refine wp_region_held_drew (S := fun w' => RW 35 w' qm (rmA c (some ⟨g3, 0, none⟩) n c3 (hN y.n s) (hA c y.cs y.a s)) ∧ RW 42 w' qh (rhA t2)) (by kernel_rfl) F5' (fun hS => ?_)
              have F5 := F5'
              clear F5'
              generalize V6.drew = V5 at F5 HSM HDN FN hS ⊢
              refine wpAnyH_take (i := 0) (oi := { dst := some 69, op := Op.move (Operand.tmp 7), type := 29, pos := "law.go:61", after := #[], guard := none }) (v := Value.pointer (some ⟨m, 0, none⟩)) rfl (by kernel_rfl) (by kernel_rfl) (by kernel_rfl) (fun _ _ _ h => h) (Or.inl ⟨rfl, fun _ _ => by kernel_rfl⟩) hS ?_
              try simp only [Act.put, List.setIfInBounds_toArray, List.set_cons_zero, List.set_cons_succ]
              refine wpAnyH_take (i := 1) (oi := { dst := some 70, op := Op.load 35 (Operand.tmp 8), type := 35, pos := "law.go:61", after := #[], guard := none }) (v := Value.agg (rmA c (some ⟨g3, 0, none⟩) n c3 (hN y.n s) (hA c y.cs y.a s))) rfl (by kernel_rfl) (by kernel_rfl) (by kernel_rfl) (fun _ _ _ h => h) (yieldsIf_load_rw rfl 35 isT_rm (.tmp 8) rfl qm rfl (rmA c (some ⟨g3, 0, none⟩) n c3 (hN y.n s) (hA c y.cs y.a s)) rfl (fun _ h => h.1)) hS ?_
              try simp only [Act.put, List.setIfInBounds_toArray, List.set_cons_zero, List.set_cons_succ]
              refine wpAnyH_ready (rs := [2]) (by kernel_rfl) (by simp) ?_
              refine AllReadyH.cons (o := { dst := some 71, op := Op.call { callee := Callee.value (Operand.func 15), args := #[Operand.tmp 69, Operand.tmp 70], argTypes := #[29, 35] }, type := 4, pos := "law.go:61", after := #[{ on := 0, ground := Ground.data }, { on := 1, ground := Ground.data }], guard := none }) rfl (fun K hK => ?_) AllReadyH.nil
              rw [if_pos (by rfl)]
              refine wp_calls 15 #[.pointer (some ⟨m, 0, none⟩), .agg (rmA c (some ⟨g3, 0, none⟩) n c3 (hN y.n s) (hA c y.cs y.a s))] (by kernel_rfl) (fun v U => v = .bool true ∧ Kept [] V5 U) ((HSM.out _ (Kept.refl [] V5)).mono (fun e w' hh => ⟨_, hh.1, rfl, hh.2⟩)) ?_
              rintro _ u2 ⟨rfl, J2⟩
              have j2 := (Kept.refl [] V5).trans J2
              have f2 := And.intro (F5.1.kept J2 (by simp)) (F5.2.kept J2 (by simp))
              try simp only [Act.put, List.setIfInBounds_toArray, List.set_cons_zero, List.set_cons_succ]
              refine hK.out _ _ (f2) (fun hS => ?_)
              clear hK K
              refine wpAnyH_take (i := 3) (oi := { dst := some 72, op := Op.unOp UnOp.not 4 (Operand.tmp 71), type := 4, pos := "law.go:61", after := #[{ on := 2, ground := Ground.data }], guard := none }) (v := Value.bool false) rfl (by kernel_rfl) (by kernel_rfl) (by kernel_rfl) (fun _ _ _ h => h) (Or.inl ⟨rfl, fun _ _ => by kernel_rfl⟩) hS ?_
              try simp only [Act.put, List.setIfInBounds_toArray, List.set_cons_zero, List.set_cons_succ]
              refine wpAnyH_take (i := 4) (oi := { dst := some 73, op := Op.move (Operand.tmp 72), type := 4, pos := "law.go:61", after := #[{ on := 3, ground := Ground.data }, { on := 2, ground := Ground.chain }], guard := none }) (v := Value.bool false) rfl (by kernel_rfl) (by kernel_rfl) (by kernel_rfl) (fun _ _ _ h => h) (Or.inl ⟨rfl, fun _ _ => by kernel_rfl⟩) hS ?_
              try simp only [Act.put, List.setIfInBounds_toArray, List.set_cons_zero, List.set_cons_succ]
              refine wpAnyH_take (i := 5) (oi := { dst := some 74, op := Op.move (Operand.tmp 10), type := 38, pos := "law.go:61", after := #[{ on := 4, ground := Ground.guard }], guard := some (4, false) }) (v := Value.pointer (some ⟨a, 0, none⟩)) rfl (by kernel_rfl) (by kernel_rfl) (by kernel_rfl) (fun _ _ _ h => h) (Or.inl ⟨rfl, fun _ _ => by kernel_rfl⟩) hS ?_
              try simp only [Act.put, List.setIfInBounds_toArray, List.set_cons_zero, List.set_cons_succ]
              refine wpAnyH_take (i := 7) (oi := { dst := some 76, op := Op.fieldAddr 42 (Operand.tmp 11) 4, type := 0, pos := "law.go:61", after := #[{ on := 4, ground := Ground.guard }], guard := some (4, false) }) (v := Value.pointer (some ⟨qh, 4, none⟩)) rfl (by kernel_rfl) (by kernel_rfl) (by kernel_rfl) (fun _ _ _ h => h) (Or.inl ⟨rfl, fun _ _ => by kernel_rfl⟩) hS ?_
              try simp only [Act.put, List.setIfInBounds_toArray, List.set_cons_zero, List.set_cons_succ]
              refine wpAnyH_take (i := 8) (oi := { dst := some 77, op := Op.load 4 (Operand.tmp 76), type := 4, pos := "law.go:61", after := #[{ on := 7, ground := Ground.data }, { on := 4, ground := Ground.guard }], guard := some (4, false) }) (v := Value.bool t2.d) rfl (by kernel_rfl) (by kernel_rfl) (by kernel_rfl) (fun _ _ _ h => h) (Or.inl ⟨rfl, fun w hSw => by have z := cell_of_blk hSw.2 (i := 4) (v := .bool t2.d) rfl; go_simp⟩) hS ?_
              try simp only [Act.put, List.setIfInBounds_toArray, List.set_cons_zero, List.set_cons_succ]
              refine wpAnyH_ready (rs := [6]) (by kernel_rfl) (by simp) ?_
              refine AllReadyH.cons (o := { dst := some 75, op := Op.call { callee := Callee.value (Operand.func 16), args := #[Operand.tmp 74], argTypes := #[38] }, type := 4, pos := "law.go:61", after := #[{ on := 5, ground := Ground.data }, { on := 4, ground := Ground.chain }, { on := 4, ground := Ground.guard }], guard := some (4, false) }) rfl (fun K hK => ?_) AllReadyH.nil
              rw [if_pos (by rfl)]
              refine wp_calls 16 #[.pointer (some ⟨a, 0, none⟩)] (by kernel_rfl) (fun v U => v = .bool t2.d ∧ Kept [] u2 U) ((HDN.out _ j2).mono (fun e w' hh => ⟨_, hh.1, rfl, hh.2⟩)) ?_
              rintro _ u6 ⟨rfl, J6⟩
              have j6 := j2.trans J6
              have f6 := And.intro (f2.1.kept J6 (by simp)) (f2.2.kept J6 (by simp))
              try simp only [Act.put, List.setIfInBounds_toArray, List.set_cons_zero, List.set_cons_succ]
              refine hK.out _ _ (f6) (fun hS => ?_)
              clear hK K
              refine wpAnyH_take (i := 9) (oi := { dst := some 78, op := Op.binOp BinOp.neq 4 (Operand.tmp 75) (Operand.tmp 77) 4, type := 4, pos := "law.go:61", after := #[{ on := 6, ground := Ground.data }, { on := 8, ground := Ground.data }, { on := 4, ground := Ground.guard }], guard := some (4, false) }) (v := Value.bool false) rfl (by kernel_rfl) (by kernel_rfl) (by kernel_rfl) (fun _ _ _ h => h) (Or.inl ⟨rfl, fun _ _ => by go_simp⟩) hS ?_
              try simp only [Act.put, List.setIfInBounds_toArray, List.set_cons_zero, List.set_cons_succ]
              refine wpAnyH_take (i := 10) (oi := { dst := some 79, op := Op.pick (Operand.tmp 73) (Operand.const (Value.bool true)) (Operand.tmp 78), type := 4, pos := "law.go:61", after := #[{ on := 4, ground := Ground.data }, { on := 9, ground := Ground.data }], guard := none }) (v := Value.bool false) rfl (by kernel_rfl) (by kernel_rfl) (by kernel_rfl) (fun _ _ _ h => h) (Or.inl ⟨rfl, fun _ _ => by kernel_rfl⟩) hS ?_
              try simp only [Act.put, List.setIfInBounds_toArray, List.set_cons_zero, List.set_cons_succ]
              refine wpAnyH_done (by kernel_rfl) ?_ _
              have KF := hidOf (j6)
              clear hS HSM HDN f2 f6 J2 J6 j2 j6 F5
              go_wp2
              go_roundw
              case rel => exact ⟨j + 1, g3, c3, hF c y.cs s, t2, ⟨hC c y.cs s, hN y.n s, hA c y.cs y.a s⟩, by omega, by go_num, FN.out.1.new KF.out, FN.out.2⟩
              case measure => simp [intOf]; omega
            · have hje : j = N := by omega
              have hltz : ¬ (j : Int) < (N : Nat) := by omega
              have AL := hidOf (alive_any _ (HT.out.kept HZ.out.1.J.kp))
              go_wp2_with fail
              refine AL.out.mono ?_
              rintro e WA ⟨rfl, KA⟩
              have KF := hidOf ((HZ.out.1.J.kp).trans KA)
              clear KA
              go_wp2
              go_ret
              exact ⟨rfl, KF.out⟩
        · have HS0 := hidOf s0
          have y1 := cell_of_blk LB0.bx.z (i := 1) (v := .int .i64 st) rfl
          have HZ0 := hidOf (And.intro LB0 (And.intro (Go.Proofs.YtjbdaejkofkcpaaDoor.K.HI.start (c := c) wh) (And.intro (Rel.start (h := h)) (show xs.length = n ∧ (0 : Int) ≤ 40 * ((0 : Nat) : Int) from ⟨HN.out.symm, by omega⟩))))
          clear LB0
          go_wp2
          clear y1
          go_loopw [51] (fun s51 wr => ∃ (j g1 c1 : Nat) (s : Hm) (t : Rh) (x : Mst), j ≤ 0 ∧ s51 = .int .i64 j ∧ Lb w wr q qm qh a m p r c (hpA h st lo k lc) g1 c1 s (rmA c (some ⟨g1, 0, none⟩) n c1 x.n x.a) (rhA t) x.cs x.n x.a ∧ Go.Proofs.YtjbdaejkofkcpaaDoor.K.HI c s ∧ Rel s t ∧ x.cs.length = n ∧ x.n ≤ 40 * (j : Int)) (fun s51 _ => 0 - (intOf s51).toNat)
          case atStart => exact ⟨0, g, c', _, _, ⟨xs, 0, Acc.zero⟩, Nat.zero_le _, by first | rfl | go_num, HZ0.out⟩
          case round =>
            clear HZ0
            obtain ⟨j, g1, c1, s, t, x, hj, rfl, Z⟩ := hrel
            have HZ := hidOf Z
            clear Z
            by_cases hlt : j < 0
            · have hltz : (j : Int) < (0 : Nat) := by omega
              exact absurd hlt (by omega)
            · have hje : j = 0 := by omega
              subst hje
              have AL := hidOf (alive_any _ (HT.out.kept HZ.out.1.J.kp))
              go_wp2_with fail
              refine AL.out.mono ?_
              rintro e WA ⟨rfl, KA⟩
              have KF := hidOf ((HZ.out.1.J.kp).trans KA)
              clear KA
              go_wp2
              go_ret
              exact ⟨rfl, KF.out⟩
  · have HI := hidOf hW
    clear hW
    go_enter Tryd.func3, Tryd.ntmps3
    go_upto_region 1 with (fail)
    rw [← hq]
    refine gen_world (fun W => Bx 28 W q c (hpA h st lo k lc) ∧ Kept [] w W) BX.out ?_
    have hqw : w.heap.size ≤ q := by omega
    clear BX hq
    rintro W ⟨CB, K0⟩
    have HX := hidOf (And.intro CB K0)
    clear CB K0
    have OF := hidOf (kof_no c ao n cap W HI.out)
    go_wp2_with (first | ((with_reducible change wpList _ _ _ (Oper.mk _ (Op.load 23 (Operand.tmp 3)) _ _ _ _ :: _) _ _); refine wpList_load_rw 23 isT_cf rfl (.tmp 3) rfl q rfl #[.int .i64 c.t, .int .i64 c.s, .int .i64 c.c, .int .i64 c.h, .int .i64 c.k, .int .i64 c.e, .int .i64 c.l] rfl HX.out.1.c ?_))
    refine OF.out.mono ?_
    rintro e w1 ⟨rfl, K1⟩
    have HX1 := hidOf (And.intro (HX.out.1.new K1) (HX.out.2.trans K1))
    clear K1 OF HX
    go_upto_region 2 with (first | ((with_reducible change wpList _ _ _ (Oper.mk _ (Op.store 35 (Operand.tmp 8) _) _ _ _ _ :: _) _ _); refine wpList_store_rw 35 isT_rm rfl (.tmp 8) (.tmp 18) rfl w1.heap.size rmZ rfl rfl rfl rmZ_one rmZ (RW.new 35 w1 rmZ) rfl ?_))
    refine gen_world (fun V => Bx 28 V q c (hpA h st lo k lc) ∧ Kept [] w V) ?_ ?_
    · have KV : Kept [] w1 ((w1.alloc (.cells rmZ 35)).setRow w1.heap.size rmZ) := ((Kept.refl [] w1).alloc _).setRow (Or.inr (Nat.le_refl _)) _
      exact ⟨HX1.out.1.new KV, HX1.out.2.trans KV⟩
    clear HX1
    rintro V ⟨CB, J⟩
    have HX := hidOf (And.intro CB J)
    clear CB J
    have y0 := cell_of_blk HX.out.1.z (i := 0) (v := .int .u64 h) rfl
    go_wp2_with fail
    refine (hnew_any h _).mono ?_
    rintro e w2 ⟨b1, rfl, -, -, K2⟩
    have HY := hidOf (HX.out.2.trans K2)
    clear HX K2 y0
    have AL := hidOf (alive_any _ (HT.out.kept HY.out))
    go_wp2_with fail
    refine AL.out.mono ?_
    rintro e WA ⟨rfl, KA⟩
    have KF := hidOf ((HY.out).trans KA)
    clear KA
    go_wp2
    go_ret
    exact ⟨rfl, KF.out⟩

set_option maxRecDepth 100000 in
theorem helpSteps_lifted (os : Os) (started : os.Started) (H : Type) (enc : TypeId × Value → H) :
    ReturnsInHanded {} Tryd.checked os 3 .any (fun w args => (Rows.helpStepsSpec.pre enc Tryd.prog Tryd.f3 [] false w args ∧ laidMetH Tryd.prog laid1 w) ∧ sizedMet enc Tryd.prog Tryd.f3 (OpenSpec.ofChange Rows.helpStepsSpec) false w args)
      (Rows.helpStepsSpec.post enc Tryd.prog Tryd.f3 false true false false) := by
  refine returnsInHanded_of_change_and (C := Tryd.checked) (X := fun w _ => laidMetH Tryd.prog laid1 w) (fun _ _ _ hh h => h.of_heap hh) own started (by kernel_rfl) Tryd.func3
    (ChangeSpec.witness_shaped (enc := enc) (C := Tryd.checked) (os := os) (X := fun w _ => laidMetH Tryd.prog laid1 w) false (World.doorLaid Tryd.prog 400 os) #[.agg #[.int .i64 0, .int .i64 0, .int .i64 0, .int .i64 0, .int .i64 0, .int .i64 0, .int .i64 0], .slice none 0 0, .agg #[.int .u64 0, .int .i64 0, .slice none 0 0]] 8 rfl (World.shaped_of_RefB (by kernel_rfl) (by kernel_rfl)) (by kernel_rfl) (by kernel_rfl) (by kernel_rfl) (door_met os _)) ?_
  intro W base args ds gs before hval0 hW _ _ hL _
  have hval : ∀ (j : Nat) t v, Tryd.f3.params[j]? = some t → args[j]? = some v → Value.okWide Tryd.prog W .any base t v := hval0
  have hW' := hW
  obtain ⟨p, q, hA0, hV, rfl, _, _⟩ := hW
  have hA : DataW.TrodAll enc Tryd.prog W 0 (fun _ => true) true Tryd.f3.params.toList args.toList ds p := hA0
  rw [Tryd.params3] at hA hval
  clear hA0 hval0
  obtain ⟨v0, vs0, d0, ds0, p0, q0, hargs, rfl, rfl, h0, r0⟩ := trodAll_cons hA
  obtain ⟨v1, vs1, d1, ds1, p1, q1, rfl, rfl, rfl, h1, r1⟩ := trodAll_cons r0
  obtain ⟨v2, vs2, d2, ds2, p2, q2, rfl, rfl, rfl, h2, r2⟩ := trodAll_cons r1
  obtain ⟨rfl, rfl, rfl⟩ := trodAll_nil r2
  obtain rfl : args = #[v0, v1, v2] := by cases args; simp_all
  obtain ⟨rfl, rfl⟩ := trodVars_none hV
  have k0 := h0
  have k1 := h1
  have k2 := h2
  simp only [List.append_nil] at hW'
  have hlt0 : ∀ x ∈ p0, x.block < W.heap.size := fun x hx => hW'.lt x (by simp [hx])
  have hlt1 : ∀ x ∈ p1, x.block < W.heap.size := fun x hx => hW'.lt x (by simp [hx])
  have hlt2 : ∀ x ∈ p2, x.block < W.heap.size := fun x hx => hW'.lt x (by simp [hx])
  obtain ⟨c0, rfl, g0⟩ := open_cfg (hval 0 23 v0 rfl rfl) h0
  obtain ⟨ao1, cap1, xs1, rfl, s1, g1, z1, n1⟩ := open_words (hval 1 24 v1 rfl rfl) h1
  obtain ⟨hh2, st2, lo2, lc2, ps2, rfl, wh2, sl2, pw2⟩ := open_play (hval 2 28 v2 rfl rfl) h2
  refine (helpSteps_walk W c0 g0 ao1 xs1 cap1 s1 g1 n1 hh2 st2 lo2 lc2 ps2 wh2 sl2 pw2 (tab_of_laid hL)).mono fun e W' ⟨he, hg⟩ => ?_
  subst he
  have hb := hg.below (by simp)
  exact ⟨_, rfl, _, _, _, [], _, [], hW', (trodAll_cons_mk (shut_bool Tryd.underlying4 _) trodAll_mk0), (trodAll_cons_mk (Below.trod laidOut (by kernel_rfl) (of_decide_eq_true (by kernel_rfl)) k0 hb hlt0) (trodAll_cons_mk (Below.trod laidOut (by kernel_rfl) (of_decide_eq_true (by kernel_rfl)) k1 hb hlt1) (trodAll_cons_mk (Below.trod laidOut (by kernel_rfl) (of_decide_eq_true (by kernel_rfl)) k2 hb hlt2) trodAll_mk0))), rfl, hb.frame _, fun h => by cases h⟩

theorem helpSteps_over : Rows.HelpStepsSaid :=
  OpenClaim.holds_of_wide 3 Tryd.f3 rfl rfl rfl rfl rfl rfl rfl ⟨rfl, rfl, rfl, rfl, rfl⟩ rfl rfl rfl rfl rfl (by kernel_rfl) Tryd.func3 (by kernel_rfl)
    (of_decide_eq_true (by kernel_rfl)) (by unfold Func.isWrapper; first | (rw [if_pos (by decide +kernel)]; kernel_rfl) | (rw [if_neg (by decide +kernel)]; exact ⟨rfl, rfl⟩))
    (fun os started H enc _ => helpSteps_lifted os started H enc)

theorem helpSteps_holds : Rows.HelpStepsCardSaid :=
  Claim7.holds_tied_plain_at .later [] [.data] true (true, "8da01a15b0ed21f15b06d493984036c42457dccc076fb2a2ce17b33141c9b120") false
    helpSteps_over (fun _ h => by cases h) (by kernel_rfl) (fun _ h => by cases h) helpSteps_row_tie rfl ⟨rfl, rfl⟩ (by kernel_rfl) rfl
    (fun f fn hf hfn => by
      obtain rfl : f = 3 := Option.some.inj ((show Tryd.prog.funcNamed "stepstone/stepstonelaw12.HelpSteps" = some 3 by kernel_rfl).symm.trans hf) |>.symm
      obtain rfl : fn = Tryd.f3 := (Option.some.inj (Tryd.func3.symm.trans hfn)).symm
      exact ⟨by kernel_rfl, fun j t ht => by
          rw [Tryd.params3] at ht
          rcases j with _ | j
          · have : t = 23 := by simpa using ht.symm
            subst this; exact (show Tryd.prog.wantsStandIn 23 = false by kernel_rfl)
          rcases j with _ | j
          · have : t = 24 := by simpa using ht.symm
            subst this; exact (show Tryd.prog.wantsStandIn 24 = false by kernel_rfl)
          rcases j with _ | j
          · have : t = 28 := by simpa using ht.symm
            subst this; exact (show Tryd.prog.wantsStandIn 28 = false by kernel_rfl)
          simp at ht⟩)
    (by kernel_rfl)
#print axioms helpSteps_holds
end Go.Proofs.YtjbdaejkofkcpaaDoor
