/-
  What a thread publishes, or clears, changes no other thread's reservations, nor the clock.
  Conditions: the package variable of handle that the code reads starts as the program's text lays it (the card ties it to that text).
-/
import Derived.Test.YtpobanjpgdghlaaDoorGAlive
import Derived.Test.YtpobanjpgdghlaaDoorGArgs
import Derived.Test.YtpobanjpgdghlaaDoorHLaid
import Derived.Test.YtpobanjpgdghlaaDoorPArgs
import Derived.ProofKit
import Derived.SizedLaws
import Derived.Carry
namespace Go.Proofs.YtpobanjpgdghlaaDoor
open Go.ChangeShapes Go.WideShapes Go.ChangeAt Go.RowKit
open Go.Deep
open Go.Proofs.YtpobanjpgdghlaaDoor.K
set_option maxRecDepth 100000

/-- All cells but the thread's reservations are as they were. -/
def Oth (c : Cfg) (xs cs : List Int) (th : Int) : Prop := ∀ k : Nat, k < xs.length → cs.getD k 0 = xs.getD k 0 ∨ (0 ≤ th ∧ th < c.t ∧ 1 + th * c.s ≤ k ∧ (k : Int) < 1 + (th + 1) * c.s)
theorem Oth.store {c : Cfg} {xs cs : List Int} {th : Int} (h : Oth c xs cs th) (hl : cs.length = xs.length) (b v : Int) : Oth c xs (clV cs 2 (rsV c th b) 0 v) th := by
  intro k hk
  by_cases hx : hasC cs (rsV c th b)
  · have ec : clV cs 2 (rsV c th b) 0 v = cs.set (rsV c th b).toNat v := by unfold clV; rw [if_pos hx]; simp [bhV]
    rw [ec, getD_set _ _ _ _ (by omega)]
    by_cases he : (rsV c th b).toNat = k
    · right
      have hi : inR c th b := rs_in hx.1
      have e : rsV c th b = 1 + th * c.s + b := if_pos hi
      obtain ⟨_, a0, a1, b0, b1⟩ := hi
      have z := Int.add_mul th 1 c.s
      have := hx.1
      refine ⟨a0, a1, by omega, by omega⟩
    · rw [if_neg he]; exact h k hk
  · rw [show clV cs 2 (rsV c th b) 0 v = cs from if_neg hx]; exact h k hk
theorem mine_wrap {c : Cfg} (R : Rt c) {th : Int} (t0 : 0 ≤ th) (t1 : th < c.t) : wrap64 (1 + wrap64 (th * c.s)) = 1 + th * c.s ∧ wrap64 (1 + wrap64 (wrap64 (th + 1) * c.s)) = 1 + (th + 1) * c.s := by
  have a := mul_in t0 t1 (show 0 ≤ c.s by have := R.s0; omega)
  have b := ts_bd R
  have z := Int.add_mul th 1 c.s
  have := R.t1; have := R.s1; have := R.s0; have := R.t0
  rw [wrap_id (x := th + 1) (by omega) (by omega), wrap_id (x := th * c.s) (by omega) (by omega), wrap_id (x := (th + 1) * c.s) (by omega) (by omega), wrap_id (by omega) (by omega), wrap_id (by omega) (by omega)]
  exact ⟨rfl, rfl⟩
set_option maxRecDepth 100000 in
set_option maxHeartbeats 8000000 in
theorem guardOthers_walk (w : World) (c : Cfg) (_g : c.wf) (ao : Option Addr) (xs : List Int) (cap : Nat) (hs : Sl w ao xs) (_hg : ∀ x ∈ xs, isWord x) (hc : ao = none → cap = 0) (th : Int) (lo : Option Addr) (lc : Nat) (ps : List Gp) (hl : SlOf 3 gpL w lo ps) (_hp : ∀ x ∈ ps, x.wf) (hT : Tab w) :
    Calls Tryd.prog 5 #[c.val, .slice ao xs.length cap, .agg (plA th lo ps.length lc)] w fun e w' => e = .returned (.bool true) ∧ Kept [] w w' := by
  simp only [Cfg.val]
  obtain ⟨n, hn⟩ : ∃ n, n = xs.length := ⟨_, rfl⟩
  rw [← hn]
  have HN := hidOf hn
  have HS := hidOf hs
  have HC := hidOf hc
  have HT := hidOf hT
  clear hn hs hc hT
  obtain ⟨k, hk⟩ : ∃ k, k = ps.length := ⟨_, rfl⟩
  rw [← hk]
  have HK := hidOf hk
  have HL := hidOf hl
  clear hk hl
  obtain ⟨q, hq⟩ : ∃ q, q = w.heap.size := ⟨_, rfl⟩
  have BX := hidOf (two_new 23 27 w #[.int .i64 c.t, .int .i64 c.s, .int .i64 c.c, .int .i64 c.h, .int .i64 c.k, .int .i64 c.e, .int .i64 c.l] (plA th lo k lc) hq)
  by_cases hW : IsW c n
  · have HI := hidOf hW
    have n4 := hW.2.2
    have HRT := hidOf (riB_true.1 hW.1)
    have hn0 : 0 < n := by have h1 := ln_yes hW.1; have h2 := hW.2.1; have h3 := cf_bd HRT.out; have h4 := ts_bd HRT.out; omega
    clear hW
    obtain ⟨b1, o1, e1, l1, -⟩ := Sl.cell HS.out (i := 0) (by have := HN.out; omega)
    subst e1
    by_cases hlen : 60 < (k : Int)
    · go_enter Tryd.func5, Tryd.ntmps5
      go_upto_region 1 with (fail)
      rw [← hq]
      refine gen_world (fun W => RW 23 W q #[.int .i64 c.t, .int .i64 c.s, .int .i64 c.c, .int .i64 c.h, .int .i64 c.k, .int .i64 c.e, .int .i64 c.l] ∧ RW 27 W (q + 1) (plA th lo k lc) ∧ Kept [] w W) BX.out ?_
      have hqw : w.heap.size ≤ q := by omega
      clear BX hq
      rintro W ⟨CB, PB, K0⟩
      have HCB := hidOf CB
      have HPB := hidOf PB
      have HTW := hidOf (HT.out.kept K0)
      have HK0 := hidOf K0
      clear CB PB K0
      have OF := hidOf (kof_yes c (some ⟨b1, o1, none⟩) xs n cap W HI.out HN.out (HS.out.new HK0.out) HC.out)
      go_wp2_with (first | ((with_reducible change wpList _ _ _ (Oper.mk _ (Op.load 23 (Operand.tmp 3)) _ _ _ _ :: _) _ _); refine wpList_load_rw 23 isT_cf rfl (.tmp 3) rfl q rfl #[.int .i64 c.t, .int .i64 c.s, .int .i64 c.c, .int .i64 c.h, .int .i64 c.k, .int .i64 c.e, .int .i64 c.l] rfl HCB.out ?_))
      refine OF.out.mono ?_
      rintro e w1 ⟨m, p, r, gr, c', rfl, ⟨hm, hp, hr, hgr, hne⟩, M, R, K1⟩
      clear OF
      obtain ⟨qm, hqm⟩ : ∃ qm, qm = w1.heap.size := ⟨_, rfl⟩
      go_upto_region 2 with (first | ((with_reducible change wpList _ _ _ (Oper.mk _ (Op.store 35 (Operand.tmp 8) _) _ _ _ _ :: _) _ _); refine wpList_store_rw 35 isT_rm rfl (.tmp 8) (.tmp 21) rfl w1.heap.size (rmA c (some ⟨gr, 0, none⟩) n c' 0 Acc.zero) rfl rfl rfl (rm_one _ _ _ _ _ _) rmZ (RW.new 35 w1 rmZ) rfl ?_))
      rw [← hqm]
      refine gen_world (fun V => RW 35 V qm (rmA c (some ⟨gr, 0, none⟩) n c' 0 Acc.zero) ∧ Kept [] w1 V) ?_ ?_
      · rw [hqm]; exact ⟨(RW.new 35 w1 rmZ).row _, ((Kept.refl [] w1).alloc _).setRow (Or.inr (Nat.le_refl _)) _⟩
      have hqm1 : w1.heap.size ≤ qm := by omega
      clear hqm
      rintro V ⟨QM, KV⟩
      have p0 := cell_of_blk (HPB.out.kept (K1.trans KV) (by simp)) (i := 0) (v := .int .i64 th) rfl
      go_wp2_with fail
      refine (gnew_any th _).mono ?_
      rintro e w2 ⟨b, rfl, hb, G, K2⟩
      clear p0
      have HX := hidOf (Gw.start (K1.trans KV) hp hr (M.new KV) K2 hb G)
      have p1 := cell_of_blk (HPB.out.kept HX.out.kp (by simp)) (i := 1) (v := .slice lo k lc) rfl
      clear M R K1 K2 G hm hp hr hb hgr hne QM KV
      have AL := hidOf (alive_any _ (HTW.out.kept HX.out.kp))
      go_wp2_with fail
      refine AL.out.mono ?_
      rintro e WA ⟨rfl, KA⟩
      go_wp2
      go_ret
      exact ⟨rfl, HK0.out.trans (HX.out.kp.trans KA)⟩
    · go_enter Tryd.func5, Tryd.ntmps5
      go_upto_region 1 with (fail)
      rw [← hq]
      refine gen_world (fun W => RW 23 W q #[.int .i64 c.t, .int .i64 c.s, .int .i64 c.c, .int .i64 c.h, .int .i64 c.k, .int .i64 c.e, .int .i64 c.l] ∧ RW 27 W (q + 1) (plA th lo k lc) ∧ Kept [] w W) BX.out ?_
      have hqw : w.heap.size ≤ q := by omega
      clear BX hq
      rintro W ⟨CB, PB, K0⟩
      have HCB := hidOf CB
      have HPB := hidOf PB
      have HTW := hidOf (HT.out.kept K0)
      have HK0 := hidOf K0
      clear CB PB K0
      have OF := hidOf (kof_yes c (some ⟨b1, o1, none⟩) xs n cap W HI.out HN.out (HS.out.new HK0.out) HC.out)
      go_wp2_with (first | ((with_reducible change wpList _ _ _ (Oper.mk _ (Op.load 23 (Operand.tmp 3)) _ _ _ _ :: _) _ _); refine wpList_load_rw 23 isT_cf rfl (.tmp 3) rfl q rfl #[.int .i64 c.t, .int .i64 c.s, .int .i64 c.c, .int .i64 c.h, .int .i64 c.k, .int .i64 c.e, .int .i64 c.l] rfl HCB.out ?_))
      refine OF.out.mono ?_
      rintro e w1 ⟨m, p, r, gr, c', rfl, ⟨hm, hp, hr, hgr, hne⟩, M, R, K1⟩
      clear OF
      obtain ⟨qm, hqm⟩ : ∃ qm, qm = w1.heap.size := ⟨_, rfl⟩
      go_upto_region 2 with (first | ((with_reducible change wpList _ _ _ (Oper.mk _ (Op.store 35 (Operand.tmp 8) _) _ _ _ _ :: _) _ _); refine wpList_store_rw 35 isT_rm rfl (.tmp 8) (.tmp 21) rfl w1.heap.size (rmA c (some ⟨gr, 0, none⟩) n c' 0 Acc.zero) rfl rfl rfl (rm_one _ _ _ _ _ _) rmZ (RW.new 35 w1 rmZ) rfl ?_))
      rw [← hqm]
      refine gen_world (fun V => RW 35 V qm (rmA c (some ⟨gr, 0, none⟩) n c' 0 Acc.zero) ∧ Kept [] w1 V) ?_ ?_
      · rw [hqm]; exact ⟨(RW.new 35 w1 rmZ).row _, ((Kept.refl [] w1).alloc _).setRow (Or.inr (Nat.le_refl _)) _⟩
      have hqm1 : w1.heap.size ≤ qm := by omega
      clear hqm
      rintro V ⟨QM, KV⟩
      have p0 := cell_of_blk (HPB.out.kept (K1.trans KV) (by simp)) (i := 0) (v := .int .i64 th) rfl
      go_wp2_with fail
      refine (gnew_any th _).mono ?_
      rintro e w2 ⟨b, rfl, hb, G, K2⟩
      clear p0
      have HX := hidOf (Gw.start (K1.trans KV) hp hr (M.new KV) K2 hb G)
      have p1 := cell_of_blk (HPB.out.kept HX.out.kp (by simp)) (i := 1) (v := .slice lo k lc) rfl
      clear M R K1 K2 G hm hp hr hb hgr hne QM KV
      go_wp2
      clear p1
      go_loopw [46] (fun i wr => ∃ (j : Nat) (g : Gs) (cs : List Int) (cnt : Int), j ≤ k ∧ i = .int .i64 j ∧ Gw W wr b m p r c g cs cnt ∧ Hid (g.t = th ∧ 0 ≤ g.u ∧ g.u ≤ c.s ∧ cs.length = n ∧ 0 ≤ cnt ∧ cnt ≤ j ∧ Oth c xs cs th)) (fun i _ => k - (intOf i).toNat)
      case atStart => exact ⟨0, _, xs, 0, Nat.zero_le _, rfl, HX.out, ⟨rfl, Int.le_refl _, by show (0 : Int) ≤ c.s; have := HRT.out.s0; omega, HN.out.symm, Int.le_refl _, Int.le_refl _, fun _ _ => Or.inl rfl⟩⟩
      case round =>
        clear HX
        obtain ⟨j, g, cs, cnt, hj, rfl, X, HB⟩ := hrel
        have HX := hidOf X
        clear X
        by_cases hlt : j < k
        · have hltz : (j : Int) < (k : Int) := by omega
          obtain ⟨b2, o2, e2, l2, s0, s1, s2⟩ := gp_row (HL.out.new (HK0.out.trans HX.out.kp)) (k := j) (by rw [← HK.out]; exact hlt)
          generalize ps.getD j gp0 = o at s0 s1 s2
          obtain ⟨kk, sl, er⟩ := o
          have t0 : wr.cell? ⟨b2, o2 + j * 3, none⟩ = some (.int .i64 kk) := s0
          have t1 : wr.cell? ⟨b2, o2 + j * 3 + 1, none⟩ = some (.int .i64 sl) := s1
          have t2 : wr.cell? ⟨b2, o2 + j * 3 + 2, none⟩ = some (.int .u64 er) := s2
          clear s0 s1 s2
          rw [e2]
          obtain ⟨nb, hnb⟩ : ∃ nb, nb = wr.heap.size := ⟨_, rfl⟩
          by_cases hk0 : kk = 0
          · subst hk0
            go_upto_region 8 with (fail)
            rw [← hnb]
            refine gen_world (fun V => RW 44 V nb (gpA ⟨0, sl, er⟩) ∧ Kept [] wr V) ?_ ?_
            · rw [hnb]; exact ⟨RW.new _ _ _, (Kept.refl [] wr).alloc _⟩
            have nle : wr.heap.size ≤ nb := by omega
            clear hnb t0 t1 t2
            rintro V1 ⟨N1, KV1⟩
            have HX1 := hidOf (HX.out.new KV1)
            clear HX KV1 nle
            have HX := HX1
            clear HX1
            have d0 := cell_of_blk N1 (i := 0) (v := .int .i64 0) rfl
            have d1 := cell_of_blk N1 (i := 1) (v := .int .i64 sl) rfl
            have d2 := cell_of_blk N1 (i := 2) (v := .int .u64 er) rfl
            have ST := hidOf (HX.out.check HB.out.2.2.2.2.1 (by have := HB.out.2.2.2.2.2.1; omega))
            go_wp2_with fail
            refine ST.out.mono ?_
            rintro e w4 ⟨rfl, X⟩
            clear HX ST d0 d1 d2 N1
            have HX := hidOf X
            clear X
            go_wp2
            go_roundw
            case rel =>
              obtain ⟨z1, z2, z3, z4, z5, z6, z7⟩ := HB.out
              exact ⟨j + 1, g, cs, cnt + 1, by omega, by go_num, HX.out, ⟨z1, z2, z3, z4, by omega, by omega, z7⟩⟩
            case measure => simp [intOf]; omega
          · by_cases hk1 : kk = 1
            · subst hk1
              go_upto_region 8 with (fail)
              rw [← hnb]
              refine gen_world (fun V => RW 44 V nb (gpA ⟨1, sl, er⟩) ∧ Kept [] wr V) ?_ ?_
              · rw [hnb]; exact ⟨RW.new _ _ _, (Kept.refl [] wr).alloc _⟩
              have nle : wr.heap.size ≤ nb := by omega
              clear hnb t0 t1 t2
              rintro V1 ⟨N1, KV1⟩
              have HX1 := hidOf (HX.out.new KV1)
              clear HX KV1 nle
              have HX := HX1
              clear HX1
              have d0 := cell_of_blk N1 (i := 0) (v := .int .i64 1) rfl
              have d1 := cell_of_blk N1 (i := 1) (v := .int .i64 sl) rfl
              have d2 := cell_of_blk N1 (i := 2) (v := .int .u64 er) rfl
              have ST := hidOf (HX.out.publish er HB.out.2.1 (by have := HB.out.2.2.1; have := HRT.out.s1; omega) HB.out.2.2.2.2.1 (by have := HB.out.2.2.2.2.2.1; omega))
              go_wp2_with fail
              refine ST.out.mono ?_
              rintro e w4 ⟨rfl, X⟩
              clear HX ST d0 d1 d2 N1
              have HX := hidOf X
              clear X
              go_wp2
              go_roundw
              case rel =>
                obtain ⟨z1, z2, z3, z4, z5, z6, z7⟩ := HB.out
                exact ⟨j + 1, _, _, cnt + 1, by omega, by go_num, HX.out, ⟨z1, by have := (pubG_u (c := c) (g := g) HRT.out.s0 z2 er).1; omega, (pubG_u HRT.out.s0 z2 er).2, by rw [clV_len]; exact z4, by omega, by omega, by rw [z1]; exact z7.store (by rw [z4]; exact HN.out) _ _⟩⟩
              case measure => simp [intOf]; omega
            · by_cases hk2 : kk = 2
              · subst hk2
                go_upto_region 8 with (fail)
                rw [← hnb]
                refine gen_world (fun V => RW 44 V nb (gpA ⟨2, sl, er⟩) ∧ Kept [] wr V) ?_ ?_
                · rw [hnb]; exact ⟨RW.new _ _ _, (Kept.refl [] wr).alloc _⟩
                have nle : wr.heap.size ≤ nb := by omega
                clear hnb t0 t1 t2
                rintro V1 ⟨N1, KV1⟩
                have HX1 := hidOf (HX.out.new KV1)
                clear HX KV1 nle
                have HX := HX1
                clear HX1
                have d0 := cell_of_blk N1 (i := 0) (v := .int .i64 2) rfl
                have d1 := cell_of_blk N1 (i := 1) (v := .int .i64 sl) rfl
                have d2 := cell_of_blk N1 (i := 2) (v := .int .u64 er) rfl
                have ST := hidOf (HX.out.clear sl (by have := HRT.out.s0; omega) (by have := HRT.out.s1; omega) HB.out.2.2.2.2.1 (by have := HB.out.2.2.2.2.2.1; omega))
                go_wp2_with fail
                refine ST.out.mono ?_
                rintro e w4 ⟨rfl, X⟩
                clear HX ST d0 d1 d2 N1
                have HX := hidOf X
                clear X
                go_wp2
                go_roundw
                case rel =>
                  obtain ⟨z1, z2, z3, z4, z5, z6, z7⟩ := HB.out
                  exact ⟨j + 1, _, _, cnt + 1, by omega, by go_num, HX.out, ⟨(clrG_t _).trans z1, by rcases clrG_u (c := c) (g := g) sl with h | h <;> omega, by have := HRT.out.s0; rcases clrG_u (c := c) (g := g) sl with h | h <;> omega, by rw [clV_len]; exact z4, by omega, by omega, by rw [z1]; exact z7.store (by rw [z4]; exact HN.out) _ _⟩⟩
                case measure => simp [intOf]; omega
              · go_upto_region 8 with (fail)
                rw [← hnb]
                refine gen_world (fun V => RW 44 V nb (gpA ⟨kk, sl, er⟩) ∧ Kept [] wr V) ?_ ?_
                · rw [hnb]; exact ⟨RW.new _ _ _, (Kept.refl [] wr).alloc _⟩
                have nle : wr.heap.size ≤ nb := by omega
                clear hnb t0 t1 t2
                rintro V1 ⟨N1, KV1⟩
                have HX1 := hidOf (HX.out.new KV1)
                clear HX KV1 nle
                have HX := HX1
                clear HX1
                have d0 := cell_of_blk N1 (i := 0) (v := .int .i64 kk) rfl
                have d1 := cell_of_blk N1 (i := 1) (v := .int .i64 sl) rfl
                have d2 := cell_of_blk N1 (i := 2) (v := .int .u64 er) rfl
                go_wp2
                go_roundw
                case rel =>
                  obtain ⟨z1, z2, z3, z4, z5, z6, z7⟩ := HB.out
                  exact ⟨j + 1, g, cs, cnt, by omega, by go_num, HX.out, ⟨z1, z2, z3, z4, z5, by omega, z7⟩⟩
                case measure => simp [intOf]; omega
        · have hjz : ¬ (j : Int) < (k : Int) := by omega
          clear hj hlt
          have CE := hidOf (HX.out.cells)
          go_wp2_with (go_at_call 25; refine HX.out.bank.mono ?_; rintro e w9 ⟨rfl, rfl⟩)
          refine CE.out.mono ?_
          rintro e w5 ⟨gn, rfl, RN, K5⟩
          have FC : Hid (Row w5 gn cs ∧ Oth c xs cs th ∧ cs.length = n ∧ Kept [] W w5) := ⟨RN, HB.out.2.2.2.2.2.2, HB.out.2.2.2.1, HX.out.kp.trans K5⟩
          rw [HB.out.2.2.2.1]
          clear HX HB RN K5 CE
          go_wp2
          go_loopw [76] (fun i wr => ∃ (k2 : Nat), k2 ≤ n ∧ i = .int .i64 k2 ∧ Kept [] w5 wr) (fun i _ => n - (intOf i).toNat)
          case atStart => exact ⟨0, Nat.zero_le _, rfl, Kept.refl _ _⟩
          case round =>
            obtain ⟨k2, hk2, rfl, KC⟩ := hrel
            by_cases hlt2 : k2 < n
            · have hltz2 : (k2 : Int) < (n : Int) := by omega
              have cV : _ := (FC.out.1.kept KC (by simp)).cell (i := k2) (by rw [FC.out.2.2.1]; exact hlt2)
              obtain ⟨b3, o3, e3, l3, cX⟩ := Sl.cell (HS.out.new (HK0.out.trans (FC.out.2.2.2.trans KC))) (i := k2) (by rw [← HN.out]; exact hlt2)
              cases e3
              have hv := hidOf (FC.out.2.1 k2 (by rw [← HN.out]; exact hlt2))
              rw [show cs[k2]'(by rw [FC.out.2.2.1]; exact hlt2) = cs.getD k2 0 by simp [FC.out.2.2.1, hlt2]] at cV
              have r1 := (FC.out.1.kept KC (by simp)).lt
              have pz := cell_of_blk (HPB.out.kept (FC.out.2.2.2.trans KC) (by simp)) (i := 0) (v := .int .i64 th) rfl
              have z0 := cell_of_blk (HCB.out.kept (FC.out.2.2.2.trans KC) (by simp)) (i := 0) (v := .int .i64 c.t) rfl
              have z1 := cell_of_blk (HCB.out.kept (FC.out.2.2.2.trans KC) (by simp)) (i := 1) (v := .int .i64 c.s) rfl
              generalize cs.getD k2 0 = V at cV hv
              generalize xs.getD k2 0 = X at cX hv
              by_cases hA : wrap64 (1 + wrap64 (th * c.s)) ≤ (k2 : Int)
              · by_cases hB : (k2 : Int) < wrap64 (1 + wrap64 (wrap64 (th + 1) * c.s))
                · by_cases hC : 0 ≤ th
                  · by_cases hD : th < c.t
                    · clear hv
                      by_cases hE : V = X
                      · subst hE
                        go_wp2
                        go_roundw
                        case rel => exact ⟨k2 + 1, by omega, by go_num, KC⟩
                        case measure => simp [intOf]; omega
                      · go_wp2
                        go_roundw
                        case rel => exact ⟨k2 + 1, by omega, by go_num, KC⟩
                        case measure => simp [intOf]; omega
                    · have hE : V = X := by
                        rcases hv.out with h | ⟨f1, f2, f3, f4⟩
                        · exact h
                        · exfalso
                          have z := mine_wrap HRT.out f1 f2
                          omega
                      subst hE
                      clear hv
                      go_wp2
                      go_roundw
                      case rel => exact ⟨k2 + 1, by omega, by go_num, KC⟩
                      case measure => simp [intOf]; omega
                  · have hE : V = X := by
                      rcases hv.out with h | ⟨f1, f2, f3, f4⟩
                      · exact h
                      · exfalso
                        have z := mine_wrap HRT.out f1 f2
                        omega
                    subst hE
                    clear hv
                    go_wp2
                    go_roundw
                    case rel => exact ⟨k2 + 1, by omega, by go_num, KC⟩
                    case measure => simp [intOf]; omega
                · have hE : V = X := by
                    rcases hv.out with h | ⟨f1, f2, f3, f4⟩
                    · exact h
                    · exfalso
                      have z := mine_wrap HRT.out f1 f2
                      omega
                  subst hE
                  clear hv
                  go_wp2
                  go_roundw
                  case rel => exact ⟨k2 + 1, by omega, by go_num, KC⟩
                  case measure => simp [intOf]; omega
              · have hE : V = X := by
                  rcases hv.out with h | ⟨f1, f2, f3, f4⟩
                  · exact h
                  · exfalso
                    have z := mine_wrap HRT.out f1 f2
                    omega
                subst hE
                clear hv
                go_wp2
                go_roundw
                case rel => exact ⟨k2 + 1, by omega, by go_num, KC⟩
                case measure => simp [intOf]; omega
            · have hkz2 : ¬ (k2 : Int) < (n : Int) := by omega
              have AL := hidOf (alive_any _ (HTW.out.kept (FC.out.2.2.2.trans KC)))
              go_wp2_with fail
              refine AL.out.mono ?_
              rintro e WA ⟨rfl, KA⟩
              go_wp2
              go_ret
              exact ⟨rfl, HK0.out.trans (FC.out.2.2.2.trans (KC.trans KA))⟩
  · have HI := hidOf hW
    clear hW
    go_enter Tryd.func5, Tryd.ntmps5
    go_upto_region 1 with (fail)
    rw [← hq]
    refine gen_world (fun W => RW 23 W q #[.int .i64 c.t, .int .i64 c.s, .int .i64 c.c, .int .i64 c.h, .int .i64 c.k, .int .i64 c.e, .int .i64 c.l] ∧ RW 27 W (q + 1) (plA th lo k lc) ∧ Kept [] w W) BX.out ?_
    have hqw : w.heap.size ≤ q := by omega
    clear BX hq
    rintro W ⟨CB, PB, K0⟩
    have HCB := hidOf CB
    have HPB := hidOf PB
    have HTW := hidOf (HT.out.kept K0)
    have HK0 := hidOf K0
    clear CB PB K0
    have OF := hidOf (kof_no c ao n cap W HI.out)
    go_wp2_with (first | ((with_reducible change wpList _ _ _ (Oper.mk _ (Op.load 23 (Operand.tmp 3)) _ _ _ _ :: _) _ _); refine wpList_load_rw 23 isT_cf rfl (.tmp 3) rfl q rfl #[.int .i64 c.t, .int .i64 c.s, .int .i64 c.c, .int .i64 c.h, .int .i64 c.k, .int .i64 c.e, .int .i64 c.l] rfl HCB.out ?_))
    refine OF.out.mono ?_
    rintro e w1 ⟨rfl, K1⟩
    clear OF
    obtain ⟨qm, hqm⟩ : ∃ qm, qm = w1.heap.size := ⟨_, rfl⟩
    go_upto_region 2 with (first | ((with_reducible change wpList _ _ _ (Oper.mk _ (Op.store 35 (Operand.tmp 8) _) _ _ _ _ :: _) _ _); refine wpList_store_rw 35 isT_rm rfl (.tmp 8) (.tmp 21) rfl w1.heap.size rmZ rfl rfl rfl rmZ_one rmZ (RW.new 35 w1 rmZ) rfl ?_))
    rw [← hqm]
    refine gen_world (fun V => RW 35 V qm rmZ ∧ Kept [] w1 V) ?_ ?_
    · rw [hqm]; exact ⟨(RW.new 35 w1 rmZ).row _, ((Kept.refl [] w1).alloc _).setRow (Or.inr (Nat.le_refl _)) _⟩
    have hqm1 : w1.heap.size ≤ qm := by omega
    clear hqm
    rintro V ⟨QM, KV⟩
    have p0 := cell_of_blk (HPB.out.kept (K1.trans KV) (by simp)) (i := 0) (v := .int .i64 th) rfl
    go_wp2_with fail
    refine (gnew_any th _).mono ?_
    rintro e w2 ⟨b, rfl, hb, G, K2⟩
    clear p0
    have KX := hidOf (K1.trans (KV.trans K2))
    have p1 := cell_of_blk (HPB.out.kept KX.out (by simp)) (i := 1) (v := .slice lo k lc) rfl
    clear K1 KV K2 G hb QM
    have AL := hidOf (alive_any _ (HTW.out.kept KX.out))
    go_wp2_with fail
    refine AL.out.mono ?_
    rintro e WA ⟨rfl, KA⟩
    go_wp2
    go_ret
    exact ⟨rfl, HK0.out.trans (KX.out.trans KA)⟩

set_option maxRecDepth 100000 in
theorem guardOthers_lifted (os : Os) (started : os.Started) (H : Type) (enc : TypeId × Value → H) :
    ReturnsInHanded {} Tryd.checked os 5 .any (fun w args => (Rows.guardOthersSpec.pre enc Tryd.prog Tryd.f5 [] false w args ∧ laidMetH Tryd.prog laid1 w) ∧ sizedMet enc Tryd.prog Tryd.f5 (OpenSpec.ofChange Rows.guardOthersSpec) false w args)
      (Rows.guardOthersSpec.post enc Tryd.prog Tryd.f5 false true false false) := by
  refine returnsInHanded_of_change_and (C := Tryd.checked) (X := fun w _ => laidMetH Tryd.prog laid1 w) (fun _ _ _ hh h => h.of_heap hh) own started (by kernel_rfl) Tryd.func5
    (ChangeSpec.witness_shaped (enc := enc) (C := Tryd.checked) (os := os) (X := fun w _ => laidMetH Tryd.prog laid1 w) false (World.doorLaid Tryd.prog 400 os) #[.agg #[.int .i64 0, .int .i64 0, .int .i64 0, .int .i64 0, .int .i64 0, .int .i64 0, .int .i64 0], .slice none 0 0, .agg #[.int .i64 0, .slice none 0 0]] 8 rfl (World.shaped_of_RefB (by kernel_rfl) (by kernel_rfl)) (by kernel_rfl) (by kernel_rfl) (by kernel_rfl) (door_met os _)) ?_
  intro W base args ds gs before hval0 hW _ _ hL _
  have hval : ∀ (j : Nat) t v, Tryd.f5.params[j]? = some t → args[j]? = some v → Value.okWide Tryd.prog W .any base t v := hval0
  have hW' := hW
  obtain ⟨p, q, hA0, hV, rfl, _, _⟩ := hW
  have hA : DataW.TrodAll enc Tryd.prog W 0 (fun _ => true) true Tryd.f5.params.toList args.toList ds p := hA0
  rw [Tryd.params5] at hA hval
  clear hA0 hval0
  obtain ⟨v0, vs0, d0, ds0, p0, q0, hargs, rfl, rfl, h0, r0⟩ := trodAll_cons hA
  obtain ⟨v1, vs1, d1, ds1, p1, q1, rfl, rfl, rfl, h1, r1⟩ := trodAll_cons r0
  obtain ⟨v2, vs2, d2, ds2, p2, q2, rfl, rfl, rfl, h2, r2⟩ := trodAll_cons r1
  obtain ⟨rfl, rfl, rfl⟩ := trodAll_nil r2
  obtain rfl : args = #[v0, v1, v2] := by cases args; simp_all
  obtain ⟨rfl, rfl⟩ := trodVars_none hV
  have k0 := h0
  have k1 := h1
  have k2 := h2
  simp only [List.append_nil] at hW'
  have hlt0 : ∀ x ∈ p0, x.block < W.heap.size := fun x hx => hW'.lt x (by simp [hx])
  have hlt1 : ∀ x ∈ p1, x.block < W.heap.size := fun x hx => hW'.lt x (by simp [hx])
  have hlt2 : ∀ x ∈ p2, x.block < W.heap.size := fun x hx => hW'.lt x (by simp [hx])
  obtain ⟨c0, rfl, g0⟩ := open_cfg (hval 0 23 v0 rfl rfl) h0
  obtain ⟨ao1, cap1, xs1, rfl, s1, g1, z1, n1⟩ := open_words (hval 1 24 v1 rfl rfl) h1
  obtain ⟨th2, lo2, lc2, ps2, rfl, sl2, pw2⟩ := open_play (hval 2 27 v2 rfl rfl) h2
  refine (guardOthers_walk W c0 g0 ao1 xs1 cap1 s1 g1 n1 th2 lo2 lc2 ps2 sl2 pw2 (tab_of_laid hL)).mono fun e W' ⟨he, hg⟩ => ?_
  subst he
  have hb := hg.below (by simp)
  exact ⟨_, rfl, _, _, _, [], _, [], hW', (trodAll_cons_mk (shut_bool Tryd.underlying4 _) trodAll_mk0), (trodAll_cons_mk (Below.trod laidOut (by kernel_rfl) (of_decide_eq_true (by kernel_rfl)) k0 hb hlt0) (trodAll_cons_mk (Below.trod laidOut (by kernel_rfl) (of_decide_eq_true (by kernel_rfl)) k1 hb hlt1) (trodAll_cons_mk (Below.trod laidOut (by kernel_rfl) (of_decide_eq_true (by kernel_rfl)) k2 hb hlt2) trodAll_mk0))), rfl, hb.frame _, fun h => by cases h⟩

theorem guardOthers_over : Rows.GuardOthersSaid :=
  OpenClaim.holds_of_wide 5 Tryd.f5 rfl rfl rfl rfl rfl rfl rfl ⟨rfl, rfl, rfl, rfl, rfl⟩ rfl rfl rfl rfl rfl (by kernel_rfl) Tryd.func5 (by kernel_rfl)
    (of_decide_eq_true (by kernel_rfl)) (by unfold Func.isWrapper; first | (rw [if_pos (by decide +kernel)]; kernel_rfl) | (rw [if_neg (by decide +kernel)]; exact ⟨rfl, rfl⟩))
    (fun os started H enc _ => guardOthers_lifted os started H enc)

theorem guardOthers_holds : Rows.GuardOthersCardSaid :=
  Claim7.holds_tied_plain_at .later [] [.data] true (true, "b4883c6acc027d471720382080dd105359c62c6a05fa2fbd39293c40dd38c4e0") false
    guardOthers_over (fun _ h => by cases h) (by kernel_rfl) (fun _ h => by cases h) guardOthers_row_tie rfl ⟨rfl, rfl⟩ (by kernel_rfl) rfl
    (fun f fn hf hfn => by
      obtain rfl : f = 5 := Option.some.inj ((show Tryd.prog.funcNamed "stepstone/stepstonelaw10.GuardOthers" = some 5 by kernel_rfl).symm.trans hf) |>.symm
      obtain rfl : fn = Tryd.f5 := (Option.some.inj (Tryd.func5.symm.trans hfn)).symm
      exact ⟨by kernel_rfl, fun j t ht => by
          rw [Tryd.params5] at ht
          rcases j with _ | j
          · have : t = 23 := by simpa using ht.symm
            subst this; exact (show Tryd.prog.wantsStandIn 23 = false by kernel_rfl)
          rcases j with _ | j
          · have : t = 24 := by simpa using ht.symm
            subst this; exact (show Tryd.prog.wantsStandIn 24 = false by kernel_rfl)
          rcases j with _ | j
          · have : t = 27 := by simpa using ht.symm
            subst this; exact (show Tryd.prog.wantsStandIn 27 = false by kernel_rfl)
          simp at ht⟩)
    (by kernel_rfl)
#print axioms guardOthers_holds
end Go.Proofs.YtpobanjpgdghlaaDoor
