/-
  Each step of an owner that goes, over any words, whoever writes into them meanwhile, is the access that the document says, and so is the entry: the law RetireSteps is true for every input.
  Conditions: the package variable of handle that the code reads starts as the program's text lays it (the card ties it to that text).
-/
import Derived.Test.YtgafmklfpiipcaaGreatDoorRZRef
import Derived.Test.YtgafmklfpiipcaaGreatDoorRZLaws
import Derived.Test.YtgafmklfpiipcaaGreatDoorMSame
import Derived.Test.YtgafmklfpiipcaaGreatDoorHLaid
import Derived.Test.YtgafmklfpiipcaaGreatDoorPArgs
import Derived.Deep.CutRange
import Derived.ProofKit
import Derived.SizedLaws
import Derived.Carry
namespace Go.Proofs.YtgafmklfpiipcaaGreatDoor
open Go.ChangeShapes Go.WideShapes Go.ChangeAt Go.RowKit
open Go.Deep
open Go.Proofs.YtgafmklfpiipcaaGreatDoor.K
set_option maxRecDepth 100000

namespace K
section
variable {w : World} {H : Type} {enc : TypeId × Value → H}
def plR (h k t st : Int) (ao : Option Addr) (n cap : Nat) : Array Value := #[.int .u64 h, .int .u64 k, .int .i64 t, .int .i64 st, .slice ao n cap]
theorem open_play14 {r : Reach} {b0 : Nat} {v : Value} {d : DataW H} {p : List MemPlace} (hv : Value.okWide Tryz.prog w r b0 28 v) (h : DataW.Trod enc Tryz.prog w 0 (fun _ => true) true 28 v d p) :
    ∃ (h k t st : Int) (ao : Option Addr) (cap : Nat) (ps : List Pk), v = .agg (plR h k t st ao (List.length ps) cap) ∧ isW h ∧ isW k ∧ SlOf 3 pkL w ao ps ∧ (∀ x ∈ ps, x.wf) := by
  obtain ⟨cs, rfl, hsz⟩ := okWide_struct Tryz.underlying28 hv
  obtain ⟨fuel, h⟩ := h
  have h' : DataW.trod enc Tryz.prog w 0 (fun _ => true) true fuel 28 cs.toList = some (d, p) := by simpa [Value.cells] using h
  obtain ⟨xs, m, _, _, hlen, hxl, hx⟩ := DataW.trod_struct Tryz.underlying28 h'
  have cc : Tryz.prog.cellsOf 28 = 5 := by kernel_rfl
  have w0 : Tryz.prog.cellsOf 25 = 1 := by kernel_rfl
  have w1 : Tryz.prog.cellsOf 3 = 1 := by kernel_rfl
  have w2 : Tryz.prog.cellsOf 26 = 1 := by kernel_rfl
  rw [cc] at hlen
  have hxl3 : xs.length = 5 := hxl
  have x0 := hx 0 _ rfl
  have x1 := hx 1 _ rfl
  have x2 := hx 2 _ rfl
  have x3 := hx 3 _ rfl
  have x4 := hx 4 _ rfl
  rw [List.getElem?_eq_getElem (by omega)] at x0 x1 x2 x3 x4
  obtain ⟨h1, e0, b0⟩ := DataW.trod_int Tryz.underlying25 x0
  obtain ⟨k, e1, b1⟩ := DataW.trod_int Tryz.underlying25 x1
  obtain ⟨t, e2, b2⟩ := DataW.trod_int Tryz.underlying3 x2
  obtain ⟨st, e3, b3⟩ := DataW.trod_int Tryz.underlying3 x3
  obtain ⟨ao, cap, ks, e4, S, G⟩ := open_slice_cells pk0 (ks := [.int .i64, .int .i64, .int .u64]) pkL Pk.wf Tryz.underlying26 flat_pk cells_pk (by decide) (fun cs hF => pk_cells hF) x4
  change List.take (Tryz.prog.cellsOf 25) (List.drop 0 cs.toList) = _ at e0
  change List.take (Tryz.prog.cellsOf 25) (List.drop 1 cs.toList) = _ at e1
  change List.take (Tryz.prog.cellsOf 3) (List.drop 2 cs.toList) = _ at e2
  change List.take (Tryz.prog.cellsOf 3) (List.drop 3 cs.toList) = _ at e3
  change List.take (Tryz.prog.cellsOf 26) (List.drop 4 cs.toList) = _ at e4
  rw [w0] at e0
  rw [w0] at e1
  rw [w1] at e2
  rw [w1] at e3
  rw [w2] at e4
  refine ⟨h1, k, t, st, ao, cap, ks, ?_, ?_, ?_, S, G⟩
  · match hcs : cs.toList, hlen with
    | [a, b, d, e, f], _ =>
      rw [hcs] at e0 e1 e2 e3 e4
      simp at e0 e1 e2 e3 e4
      subst e0 e1 e2 e3 e4
      rw [show cs = cs.toList.toArray by simp, hcs]
      rfl
  · have := bounds_u64 b0.2; unfold isW; omega
  · have := bounds_u64 b1.2; unfold isW; omega
end
theorem req_ent6a (a0 a1 a2 b0 b1 b2 : Int) (w : World) :
    Sem.run Tryz.prog (Op.equalIn 10000 46 (.agg #[.int .u64 a0, .int .u64 a1, .int .u64 a2]) (.agg #[.int .u64 b0, .int .u64 b1, .int .u64 b2])) w = .ok (a0 == b0 && a1 == b1 && a2 == b2) w := by
  rw [show (10000 : Nat) = 9999 + 1 from rfl, run_equalIn_struct w 9999 46 _ _ Tryz.underlying46 (by kernel_rfl)]
  have hf : (Tryz.prog.fieldsOf 46).toList.map (fun f => (f.name, f.type, f.offset)) = [("Node", 25, 0), ("Birth", 25, 1), ("Retired", 25, 2)] := by kernel_rfl
  obtain ⟨f0, f1, f2, hl, g0, g1, g2⟩ := rfields3e hf
  have he := fun (a b : Int) w => run_equalIn_int (P := Tryz.prog) w 9998 25 .u64 .u64 a b Tryz.underlying25
  have ha0 : ∀ w, Sem.run Tryz.prog (part 25 #[Value.int IntKind.u64 a0, Value.int IntKind.u64 a1, Value.int IntKind.u64 a2] 0) w = .ok (.int .u64 a0) w := fun w => rpart_u64 _ 0 _ rfl w
  have ha1 : ∀ w, Sem.run Tryz.prog (part 25 #[Value.int IntKind.u64 a0, Value.int IntKind.u64 a1, Value.int IntKind.u64 a2] 1) w = .ok (.int .u64 a1) w := fun w => rpart_u64 _ 1 _ rfl w
  have ha2 : ∀ w, Sem.run Tryz.prog (part 25 #[Value.int IntKind.u64 a0, Value.int IntKind.u64 a1, Value.int IntKind.u64 a2] 2) w = .ok (.int .u64 a2) w := fun w => rpart_u64 _ 2 _ rfl w
  have hb0 : ∀ w, Sem.run Tryz.prog (part 25 #[Value.int IntKind.u64 b0, Value.int IntKind.u64 b1, Value.int IntKind.u64 b2] 0) w = .ok (.int .u64 b0) w := fun w => rpart_u64 _ 0 _ rfl w
  have hb1 : ∀ w, Sem.run Tryz.prog (part 25 #[Value.int IntKind.u64 b0, Value.int IntKind.u64 b1, Value.int IntKind.u64 b2] 1) w = .ok (.int .u64 b1) w := fun w => rpart_u64 _ 1 _ rfl w
  have hb2 : ∀ w, Sem.run Tryz.prog (part 25 #[Value.int IntKind.u64 b0, Value.int IntKind.u64 b1, Value.int IntKind.u64 b2] 2) w = .ok (.int .u64 b2) w := fun w => rpart_u64 _ 2 _ rfl w
  rw [hl]
  simp only at g0 g1 g2
  cases e0 : (a0 == b0) <;> cases e1 : (a1 == b1) <;> cases e2 : (a2 == b2) <;>
    simp [Op.eqFields, Sem.run_bind, ha0, ha1, ha2, hb0, hb1, hb2, he, e0, e1, e2, g0, g1, g2]
theorem isT_en6 : IsT 46 3 := ⟨by kernel_rfl, _, Tryz.underlying46⟩
theorem req_ent6 (H B E : Int) (w : World) : Sem.run Tryz.prog (Op.equalIn 10000 46 (.agg #[.int .u64 H, .int .u64 B, .int .u64 E]) (.agg #[.int .u64 H, .int .u64 B, .int .u64 E])) w = .ok true w := by
  have z := req_ent6a H B E H B E w
  simpa using z
theorem ent_any (s : Rtm) : ∃ H B E, s.ent = .agg #[.int .u64 H, .int .u64 B, .int .u64 E] := by
  unfold Rtm.ent entV
  split
  · exact ⟨_, _, _, rfl⟩
  · exact ⟨0, 0, 0, rfl⟩
end K
set_option maxRecDepth 100000 in
set_option maxHeartbeats 8000000 in
theorem retireSteps_walk (w : World) (c : Cfg) (_hg : c.wf) (ao : Option Addr) (xs : List Int) (cap : Nat) (hs : Sl w ao xs) (hg : ∀ x ∈ xs, isWord x) (hc : ao = none → cap = 0) (hh k t st : Int) (po : Option Addr) (pc : Nat) (ps : List Pk) (hhw : isW hh) (hkw : isW k) (hps : SlOf 3 pkL w po ps) (hpw : ∀ x ∈ ps, x.wf) (hT : Tab w) :
    Calls Tryz.prog 3 #[c.val, .slice ao xs.length cap, .agg (plR hh k t st po ps.length pc)] w fun e w' => e = .returned (.bool true) ∧ Kept [] w w' := by
  simp only [Cfg.val]
  obtain ⟨n, hn⟩ : ∃ n, n = xs.length := ⟨_, rfl⟩
  rw [← hn]
  obtain ⟨pn, hpn⟩ : ∃ pn, pn = ps.length := ⟨_, rfl⟩
  rw [← hpn]
  have HNN := hidOf hn
  have HPN := hidOf hpn
  have HS := hidOf hs
  have HC := hidOf hc
  have HW := hidOf (wds_of hg)
  have HT := hidOf hT
  have HPS := hidOf hps
  have HPW := hidOf hpw
  have HHK := hidOf (And.intro hhw hkw)
  clear hhw hkw
  clear hn hs hc hg hT hpn hps hpw
  obtain ⟨q, hq⟩ : ∃ q, q = w.heap.size := ⟨_, rfl⟩
  have BX := hidOf (two_new 23 28 w #[.int .i64 c.t, .int .i64 c.s, .int .i64 c.c, .int .i64 c.h, .int .i64 c.k, .int .i64 c.e, .int .i64 c.l] (plR hh k t st po pn pc) hq)
  go_enter Tryz.func3, Tryz.ntmps3
  go_upto_region 1 with (fail)
  rw [← hq]
  refine gen_world (fun W => RW 23 W q #[.int .i64 c.t, .int .i64 c.s, .int .i64 c.c, .int .i64 c.h, .int .i64 c.k, .int .i64 c.e, .int .i64 c.l] ∧ RW 28 W (q + 1) (plR hh k t st po pn pc) ∧ Kept [] w W) BX.out ?_
  clear BX hq
  rintro W ⟨CB0, PB0, K0⟩
  have HX := hidOf (And.intro CB0 (And.intro PB0 K0))
  clear CB0 PB0 K0
  by_cases hN : IsW c n
  · have hW := hidOf hN
    have hn4 : n ≤ 400 := hN.2.2
    have OF := hidOf (kof_yes c ao xs n cap W hN HNN.out (HS.out.new HX.out.2.2) HC.out)
    clear hN
    go_wp2_with (first | ((with_reducible change wpList _ _ _ (Oper.mk _ (Op.load 23 (Operand.tmp 3)) _ _ _ _ :: _) _ _); refine wpList_load_rw 23 isT_cf rfl (.tmp 3) rfl q rfl #[.int .i64 c.t, .int .i64 c.s, .int .i64 c.c, .int .i64 c.h, .int .i64 c.k, .int .i64 c.e, .int .i64 c.l] rfl HX.out.1 ?_))
    refine OF.out.mono ?_
    rintro e w1 ⟨m, p, r, gg, c', rfl, ⟨hm, hp, hr, hgg, hgr⟩, M, RR, K1⟩
    have HY := hidOf (And.intro M K1)
    have HB := hidOf (And.intro hp hr)
    have hGR := hidOf hgr
    have HRR0 := hidOf RR
    have HPL : Hid (0 < ps.length → ∀ ad, po = some ad → ¬ ad.block = p ∧ ¬ ad.block = r) := hidOf (fun h0 ad e => by
      obtain ⟨b1, o1, e1, l1, _⟩ := HPS.out h0
      have := HX.out.2.2.size
      rw [e1] at e; cases e
      show ¬ b1 = p ∧ ¬ b1 = r
      omega)
    clear M RR K1 OF hm hp hr hgg hgr
    go_upto_region 2 with (first | ((with_reducible change wpList _ _ _ (Oper.mk _ (Op.store 35 (Operand.tmp 8) _) _ _ _ _ :: _) _ _); refine wpList_store_rw 35 isT_rm rfl (.tmp 8) (.tmp 24) rfl w1.heap.size (rmA c (some ⟨gg, 0, none⟩) n c' 0 Acc.zero) rfl rfl rfl (rm_one _ _ _ _ _ _) rmZ (RW.new 35 w1 rmZ) rfl ?_))
    obtain ⟨q8, hq8⟩ : ∃ q8, q8 = w1.heap.size := ⟨_, rfl⟩
    rw [← hq8]
    refine gen_world (fun V => RW 35 V q8 (rmA c (some ⟨gg, 0, none⟩) n c' 0 Acc.zero) ∧ Kept [] w1 V) (by rw [hq8]; exact ⟨(RW.new 35 w1 rmZ).row _, ((Kept.refl [] w1).alloc _).setRow (Or.inr (Nat.le_refl _)) _⟩) ?_
    rintro V ⟨Q8, KV⟩
    have HQ8 := hidOf Q8
    have oq8 : W.heap.size ≤ q8 := by have := HY.out.2.size; omega
    have HY2 := hidOf (And.intro (Mm.new HY.out.1 KV) (HY.out.2.trans KV))
    have HRR1 := hidOf (HRR0.out.kept KV (by simp))
    clear HY KV Q8 hq8 HRR0
    have HY := HY2
    clear HY2
    have SX : Hid (∀ Y : World, Kept [] V Y → Y.cell? ⟨q + 1, 0, none⟩ = some (.int .u64 hh) ∧ Y.cell? ⟨q + 1, 1, none⟩ = some (.int .u64 k) ∧ Y.cell? ⟨q + 1, 2, none⟩ = some (.int .i64 t)) := hidOf (fun Y kk => by
      have z := HX.out.2.1.kept (HY.out.2.trans kk) (by simp)
      exact ⟨cell_of_blk z (i := 0) rfl, cell_of_blk z (i := 1) rfl, cell_of_blk z (i := 2) rfl⟩)
    have FNW : Hid (∀ Y : World, Kept [] V Y → Calls Tryz.prog 5 #[.int .u64 hh, .int .u64 k] Y fun e w' => ∃ b fb, e = .returned (.pointer (some ⟨b, 0, none⟩)) ∧ (V.heap.size ≤ b ∧ V.heap.size ≤ fb) ∧ (RtB w' b fb (K.ffV 23 b) false (plainV hh) 0 0 ∧ FB w' fb (K.ffV 46 fb) k 0 0 0 0 0 none 0 0) ∧ Kept [] V w' ∧ Kept [] Y w') := hidOf (fun Y kk => (rtnew_any hh k Y (HT.out.kept (HX.out.2.2.trans (HY.out.2.trans kk))) HHK.out.1.1 HHK.out.1.2).mono fun e w' x => by
      obtain ⟨b, fb, e1, e2, e3, e4, e5, e6⟩ := x
      exact ⟨b, fb, e1, ⟨Nat.le_trans kk.size e2, Nat.le_trans kk.size e3⟩, ⟨e4, e5⟩, kk.trans e6, e6⟩)
    have GNW : Hid (∀ Y : World, Kept [] V Y → Calls Tryz.prog 6 #[.int .i64 t] Y fun e w' => ∃ gb, e = .returned (.pointer (some ⟨gb, 0, none⟩)) ∧ V.heap.size ≤ gb ∧ GB w' gb ⟨0, 0, t⟩ ∧ Kept [] V w' ∧ Kept [] Y w') := hidOf (fun Y kk => (gnew_any t Y).mono fun e w' x => by
      obtain ⟨gb, e1, e2, e3, e4⟩ := x
      exact ⟨gb, e1, Nat.le_trans kk.size e2, e3, kk.trans e4, e4⟩)
    go_cut [10, 11] from 10 to 33 (fun s10 s11 W3 => ∃ b fb gb, s10 = .pointer (some ⟨b, 0, none⟩) ∧ s11 = .pointer (some ⟨gb, 0, none⟩) ∧ (V.heap.size ≤ b ∧ V.heap.size ≤ fb) ∧ V.heap.size ≤ gb ∧ (RtB W3 b fb (K.ffV 23 b) false (plainV hh) 0 0 ∧ FB W3 fb (K.ffV 46 fb) k 0 0 0 0 0 none 0 0) ∧ GB W3 gb ⟨0, 0, t⟩ ∧ Kept [] V W3)
    case first =>
      go_region_held3 (fun Y => Y.cell? ⟨q + 1, 0, none⟩ = some (.int .u64 hh) ∧ Y.cell? ⟨q + 1, 1, none⟩ = some (.int .u64 k) ∧ Y.cell? ⟨q + 1, 2, none⟩ = some (.int .i64 t))
        (exact SX.out _ (by first | assumption | exact (Kept.refl _ _).drew))
        (first | (go_at_call 5; with_reducible refine (FNW.out _ (by first | assumption | exact (Kept.refl _ _).drew)).mono ?_; rintro e w2 ⟨b, fb, rfl, hfb, F2, KV2, K2⟩) | (go_at_call 6; with_reducible refine (GNW.out _ (by first | assumption | exact (Kept.refl _ _).drew)).mono ?_; rintro e w3 ⟨gb, rfl, hgb, G2, KV3, K3⟩))
      all_goals
        go_wp2
        go_meet
        case rel => first | exact ⟨b, fb, gb, rfl, rfl, hfb, hgb, ⟨F2.1.kept K3 (by simp), F2.2.kept K3 (by simp)⟩, G2, KV3⟩ | exact ⟨b, fb, gb, rfl, rfl, hfb, hgb, F2, G2.kept K2 (by simp), KV2⟩
    case rest =>
      obtain ⟨b, fb, gb, rfl, rfl, hfb, hgb, F, G, K3⟩ := hcut
      have hb := HB.out
      have FWS := hidOf ((show Rp W wc b fb m p r c hh k xs 0 Acc.zero from ⟨F.1, F.2, HY.out.1.new K3, HY.out.2.trans K3, HT.out.kept HX.out.2.2, Nat.le_trans HY.out.2.size hfb.1, Nat.le_trans HY.out.2.size hfb.2, hb.1, hb.2, hW.out.1, HW.out, Int.le_refl 0, HHK.out.1⟩).start G (Nat.le_trans HY.out.2.size hgb))
      have hBB := hidOf (And.intro (lt_of_blk F.1) (And.intro (lt_of_blk G) oq8))
      have K3x := hidOf K3
      have HRR := HRR1
      clear F G hfb hgb hb SX FNW GNW HY K3 HRR1 oq8
      have y2 := cell_of_blk (HX.out.2.1.kept FWS.out.fw.kp (by simp)) (i := 3) (v := .int .i64 st) rfl
      have y3 := cell_of_blk (HX.out.2.1.kept FWS.out.fw.kp (by simp)) (i := 4) (v := .slice po pn pc) rfl
      by_cases h3 : 300 < st
      · have d1 : decide (300 < st) = true := by simpa using h3
        have AL := hidOf (alive_any wc FWS.out.fw.st.tb)
        go_wp2_with fail
        refine AL.out.mono ?_
        rintro e WA ⟨rfl, KA⟩
        go_wp2
        go_ret
        exact ⟨rfl, HX.out.2.2.trans (FWS.out.fw.kp.trans KA)⟩
      · have d1 : decide (300 < st) = false := by simpa using h3
        by_cases h30 : 30 < (pn : Int)
        · have d2 : decide (30 < (pn : Int)) = true := by simpa using h30
          have AL := hidOf (alive_any wc FWS.out.fw.st.tb)
          go_wp2_with fail
          refine AL.out.mono ?_
          rintro e WA ⟨rfl, KA⟩
          go_wp2
          go_ret
          exact ⟨rfl, HX.out.2.2.trans (FWS.out.fw.kp.trans KA)⟩
        · have d2 : decide (30 < (pn : Int)) = false := by simpa using h30
          have HTW := hidOf (HT.out.kept HX.out.2.2)
          obtain ⟨J, hJ⟩ : ∃ J : Nat, (J : Int) = if 0 ≤ st then st else 0 := ⟨st.toNat, by split <;> omega⟩
          have hJ3 : J ≤ 300 := by split at hJ <;> omega
          have HJ := hidOf hJ
          clear hJ
          go_upto_region 5 with (fail)
          have QM0 := HQ8.out.kept K3x.out (by simp)
          have HQ8w := hidOf QM0
          clear QM0
          obtain ⟨X, hX⟩ : ∃ X, X = rtJ (rdS hh k) (rfA (fmS k) none 0 0 none 0 0 none 0 0) := ⟨_, rfl⟩
          have sX : X.size = 19 := by rw [hX]; rfl
          have oX : X.all (·.oneCell') = true := by rw [hX]; exact (RT.start 0 wc hh k).one
          have RN : Hid (∀ Y : World, Calls Tryz.prog 8 #[.int .u64 hh, .int .u64 k] Y fun e w' => e = .returned (.agg X) ∧ Kept [] Y w') := hidOf (fun Y => by rw [hX]; exact rtnewd_any hh k Y)
          have HRX := hidOf (fun (Y : World) (bs : Nat) => show RT bs Y (rdS hh k) X by rw [hX]; exact RT.start bs Y hh k)
          clear hX y2 y3 d1 d2
          refine region_key (fun a0 a' w' => ∃ d1 d2, a' = ((((((((((a0.put (some 64) (.pointer (some ⟨q + 1, 0, none⟩))).put (some 65) (.int .u64 hh)).put (some 66) (.pointer (some ⟨q + 1, 1, none⟩))).put (some 67) (.int .u64 k)).put (some 68) (.agg X)).put (some 69) (.pointer (some ⟨q + 1, 2, none⟩))).put (some 70) (.int .i64 t)).put (some 71) (.agg (rgA ⟨0, 0, t⟩))).put (some 12) (.pointer (some ⟨d1, 0, none⟩))).put (some 13) (.pointer (some ⟨d2, 0, none⟩))) ∧ RW 48 w' d1 X ∧ RW 51 w' d2 (rgA ⟨0, 0, t⟩) ∧ wc.heap.size ≤ d1 ∧ wc.heap.size ≤ d2 ∧ Kept [] wc w') ?_ ?_
          · have P5 : RW 28 wc.drew (q + 1) (plR hh k t st po pn pc) := HX.out.2.1.kept (FWS.out.fw.kp.trans (Kept.refl [] wc).drew) (by simp)
            have K5 : Kept [] wc wc.drew := (Kept.refl [] wc).drew
            refine wp_region_held_drew (S := fun w' => RW 28 w' (q + 1) (plR hh k t st po pn pc)) (by kernel_rfl) P5 (fun hS => ?_)
            generalize wc.drew = W5 at P5 K5 hS ⊢
            refine wpAnyH_take (i := 0) (oi := { dst := some 64, op := Op.fieldAddr 28 (Operand.tmp 5) 0, type := 0, pos := "law.go:64", after := #[], guard := none }) (v := Value.pointer (some ⟨q + 1, 0, none⟩)) rfl (by kernel_rfl) (by kernel_rfl) (by kernel_rfl) (fun _ _ _ h => nomatch h.1) (Or.inl ⟨rfl, fun _ _ => by kernel_rfl⟩) hS ?_
            try simp only [Act.put, List.setIfInBounds_toArray, List.set_cons_zero, List.set_cons_succ]
            refine wpAnyH_take (i := 1) (oi := { dst := some 65, op := Op.load 25 (Operand.tmp 64), type := 25, pos := "law.go:64", after := #[{ on := 0, ground := Ground.data }], guard := none }) (v := Value.int .u64 hh) rfl (by kernel_rfl) (by kernel_rfl) (by kernel_rfl) (fun _ _ _ h => nomatch h.1) (Or.inl ⟨rfl, fun w hSw => by have z := cell_of_blk hSw (i := 0) (v := .int .u64 hh) rfl; go_simp⟩) hS ?_
            try simp only [Act.put, List.setIfInBounds_toArray, List.set_cons_zero, List.set_cons_succ]
            refine wpAnyH_take (i := 2) (oi := { dst := some 66, op := Op.fieldAddr 28 (Operand.tmp 5) 1, type := 0, pos := "law.go:64", after := #[], guard := none }) (v := Value.pointer (some ⟨q + 1, 1, none⟩)) rfl (by kernel_rfl) (by kernel_rfl) (by kernel_rfl) (fun _ _ _ h => nomatch h.1) (Or.inl ⟨rfl, fun _ _ => by kernel_rfl⟩) hS ?_
            try simp only [Act.put, List.setIfInBounds_toArray, List.set_cons_zero, List.set_cons_succ]
            refine wpAnyH_take (i := 3) (oi := { dst := some 67, op := Op.load 25 (Operand.tmp 66), type := 25, pos := "law.go:64", after := #[{ on := 2, ground := Ground.data }], guard := none }) (v := Value.int .u64 k) rfl (by kernel_rfl) (by kernel_rfl) (by kernel_rfl) (fun _ _ _ h => nomatch h.1) (Or.inl ⟨rfl, fun w hSw => by have z := cell_of_blk hSw (i := 1) (v := .int .u64 k) rfl; go_simp⟩) hS ?_
            try simp only [Act.put, List.setIfInBounds_toArray, List.set_cons_zero, List.set_cons_succ]
            refine wpAnyH_take (i := 5) (oi := { dst := some 69, op := Op.fieldAddr 28 (Operand.tmp 5) 2, type := 0, pos := "law.go:64", after := #[{ on := 10, ground := Ground.gcOnly Departure.lateStores }], guard := none }) (v := Value.pointer (some ⟨q + 1, 2, none⟩)) rfl (by kernel_rfl) (by kernel_rfl) (by kernel_rfl) (fun _ _ _ h => nomatch h.1) (Or.inl ⟨rfl, fun _ _ => by kernel_rfl⟩) hS ?_
            try simp only [Act.put, List.setIfInBounds_toArray, List.set_cons_zero, List.set_cons_succ]
            refine wpAnyH_take (i := 6) (oi := { dst := some 70, op := Op.load 3 (Operand.tmp 69), type := 3, pos := "law.go:64", after := #[{ on := 5, ground := Ground.data }, { on := 10, ground := Ground.gcOnly Departure.lateStores }], guard := none }) (v := Value.int .i64 t) rfl (by kernel_rfl) (by kernel_rfl) (by kernel_rfl) (fun _ _ _ h => nomatch h.1) (Or.inl ⟨rfl, fun w hSw => by have z := cell_of_blk hSw (i := 2) (v := .int .i64 t) rfl; go_simp⟩) hS ?_
            try simp only [Act.put, List.setIfInBounds_toArray, List.set_cons_zero, List.set_cons_succ]
            refine wpAnyH_take (i := 7) (oi := { dst := some 71, op := Op.build 51 #[(0, Operand.tmp 70)], type := 51, pos := "law.go:64", after := #[{ on := 6, ground := Ground.data }, { on := 10, ground := Ground.gcOnly Departure.lateStores }], guard := none }) (v := Value.agg (rgA ⟨0, 0, t⟩)) rfl (by kernel_rfl) (by kernel_rfl) (by kernel_rfl) (fun _ _ _ h => nomatch h.1) (Or.inl ⟨rfl, fun _ _ => by kernel_rfl⟩) hS ?_
            try simp only [Act.put, List.setIfInBounds_toArray, List.set_cons_zero, List.set_cons_succ]
            refine wpAnyH_ready (rs := [4, 8, 9]) (by kernel_rfl) (by simp) ?_
            refine AllReadyH.cons (o := { dst := some 68, op := Op.call { callee := Callee.value (Operand.func 8), args := #[Operand.tmp 65, Operand.tmp 67], argTypes := #[25, 25] }, type := 48, pos := "law.go:64", after := #[{ on := 1, ground := Ground.data }, { on := 3, ground := Ground.data }], guard := none }) rfl (fun K hK => ?_) ?_
            · rw [if_pos (by rfl)]
              refine wp_calls 8 #[.int .u64 hh, .int .u64 k] (by kernel_rfl) (fun v Y => v = .agg X ∧ Kept [] W5 Y) ((RN.out _).mono fun e w' hh => ⟨_, hh.1, rfl, hh.2⟩) ?_
              rintro _ x1 ⟨rfl, K1⟩
              have P2 := P5.kept K1 (by simp)
              have k2 := K5.trans K1
              try simp only [Act.put, List.setIfInBounds_toArray, List.set_cons_zero, List.set_cons_succ]
              refine hK.out _ _ (P2) (fun hS => ?_)
              clear hK K
              refine wpAnyH_ready (rs := [8, 9]) (by kernel_rfl) (by simp) ?_
              refine AllReadyH.cons (o := { dst := some 12, op := Op.alloc 48, type := 0, pos := "law.go:64", after := #[], guard := none }) rfl (fun K hK => ?_) ?_
              · rw [if_pos (by rfl)]
                refine wp_alloc_any 48 rtZ (by kernel_rfl) ?_
                intro d1 x3 D3 l3 K3
                have od1 : wc.heap.size ≤ d1 := by have := k2.size; omega
                have ltd1 := P2.lt
                have P4 := P2.kept K3 (by simp)
                have k4 := k2.trans K3
                try simp only [Act.put, List.setIfInBounds_toArray, List.set_cons_zero, List.set_cons_succ]
                refine hK.out _ _ (P4) (fun hS => ?_)
                clear hK K
                refine wpAnyH_ready (rs := [9]) (by kernel_rfl) (by simp) ?_
                refine AllReadyH.cons (o := { dst := some 13, op := Op.alloc 51, type := 0, pos := "law.go:64", after := #[], guard := none }) rfl (fun K hK => ?_) AllReadyH.nil
                rw [if_pos (by rfl)]
                refine wp_alloc_any 51 rgZ (by kernel_rfl) ?_
                intro d2 x5 D5 l5 K5
                have od2 : wc.heap.size ≤ d2 := by have := k4.size; omega
                have ltd2 := P4.lt
                have P6 := P4.kept K5 (by simp)
                have k6 := k4.trans K5
                have d1_6 := D3.kept K5 (by simp)
                try simp only [Act.put, List.setIfInBounds_toArray, List.set_cons_zero, List.set_cons_succ]
                refine hK.out _ _ (P6) (fun hS => ?_)
                clear hK K
                refine wpAnyH_ready (rs := [10]) (by kernel_rfl) (by simp) ?_
                refine AllReadyH.cons (o := { dst := none, op := Op.store 48 (Operand.tmp 12) (Operand.tmp 68), type := 0, pos := "law.go:64", after := #[{ on := 8, ground := Ground.data }, { on := 4, ground := Ground.data }, { on := 4, ground := Ground.chain }, { on := 0, ground := Ground.phase }, { on := 1, ground := Ground.phase }, { on := 2, ground := Ground.phase }, { on := 3, ground := Ground.phase }, { on := 4, ground := Ground.phase }, { on := 5, ground := Ground.textOnly Departure.lateStores }, { on := 6, ground := Ground.textOnly Departure.lateStores }, { on := 7, ground := Ground.textOnly Departure.lateStores }, { on := 8, ground := Ground.phase }, { on := 9, ground := Ground.phase }], guard := none }) rfl (fun K hK => ?_) AllReadyH.nil
                rw [if_pos (by rfl)]
                refine wp_store_row 48 (.tmp 12) (.tmp 68) rfl d1 X rfl rfl 48 rtZ d1_6 (by rw [isT_rt.1, sX]) (by rw [sX]; rfl) oX ?_
                have n12 := blk_ne D5 d1_6 (by decide)
                have p1 := blk_ne P6 d1_6 (by decide)
                have E1 := d1_6.row X
                have E2 := D5.rowOther X n12
                have P9 := P6.rowOther X p1
                simp only [Act.put]
                refine hK.out _ _ (P9) (fun hS => ?_)
                clear hK K
                refine wpAnyH_ready (rs := [11]) (by kernel_rfl) (by simp) ?_
                refine AllReadyH.cons (o := { dst := none, op := Op.store 51 (Operand.tmp 13) (Operand.tmp 71), type := 0, pos := "law.go:64", after := #[{ on := 9, ground := Ground.data }, { on := 7, ground := Ground.data }, { on := 10, ground := Ground.chain }, { on := 0, ground := Ground.phase }, { on := 1, ground := Ground.phase }, { on := 2, ground := Ground.phase }, { on := 3, ground := Ground.phase }, { on := 4, ground := Ground.phase }, { on := 5, ground := Ground.phase }, { on := 6, ground := Ground.phase }, { on := 7, ground := Ground.phase }, { on := 8, ground := Ground.phase }, { on := 9, ground := Ground.phase }, { on := 10, ground := Ground.phase }], guard := none }) rfl (fun K hK => ?_) AllReadyH.nil
                rw [if_pos (by rfl)]
                refine wp_store_row 51 (.tmp 13) (.tmp 71) rfl d2 (rgA ⟨0, 0, t⟩) rfl rfl 51 rgZ E2 (by rw [isT_rg.1]; rfl) rfl (rg_one _) ?_
                have p2 := blk_ne P9 E2 (by decide)
                simp only [Act.put]
                refine hK.out _ _ (P9.rowOther _ p2) (fun hS => ?_)
                clear hK K
                refine wpAnyH_done (by kernel_rfl) ?_ _
                have F1 := E1.rowOther (rgA ⟨0, 0, t⟩) (c := d2) (fun e => n12 e.symm)
                have F2 := E2.row (rgA ⟨0, 0, t⟩)
                exact ⟨rfl, d1, d2, rfl, F1, F2, od1, od2, (k6.setRow (b := d1) (Or.inr (by omega)) X).setRow (b := d2) (Or.inr (by omega)) _⟩
              refine AllReadyH.cons (o := { dst := some 13, op := Op.alloc 51, type := 0, pos := "law.go:64", after := #[], guard := none }) rfl (fun K hK => ?_) AllReadyH.nil
              rw [if_pos (by rfl)]
              refine wp_alloc_any 51 rgZ (by kernel_rfl) ?_
              intro d2 x7 D7 l7 K7
              have od2 : wc.heap.size ≤ d2 := by have := k2.size; omega
              have ltd2 := P2.lt
              have P8 := P2.kept K7 (by simp)
              have k8 := k2.trans K7
              try simp only [Act.put, List.setIfInBounds_toArray, List.set_cons_zero, List.set_cons_succ]
              refine hK.out _ _ (P8) (fun hS => ?_)
              clear hK K
              refine wpAnyH_ready (rs := [8]) (by kernel_rfl) (by simp) ?_
              refine AllReadyH.cons (o := { dst := some 12, op := Op.alloc 48, type := 0, pos := "law.go:64", after := #[], guard := none }) rfl (fun K hK => ?_) AllReadyH.nil
              rw [if_pos (by rfl)]
              refine wp_alloc_any 48 rtZ (by kernel_rfl) ?_
              intro d1 x9 D9 l9 K9
              have od1 : wc.heap.size ≤ d1 := by have := k8.size; omega
              have ltd1 := P8.lt
              have P10 := P8.kept K9 (by simp)
              have k10 := k8.trans K9
              have d2_10 := D7.kept K9 (by simp)
              try simp only [Act.put, List.setIfInBounds_toArray, List.set_cons_zero, List.set_cons_succ]
              refine hK.out _ _ (P10) (fun hS => ?_)
              clear hK K
              refine wpAnyH_ready (rs := [10]) (by kernel_rfl) (by simp) ?_
              refine AllReadyH.cons (o := { dst := none, op := Op.store 48 (Operand.tmp 12) (Operand.tmp 68), type := 0, pos := "law.go:64", after := #[{ on := 8, ground := Ground.data }, { on := 4, ground := Ground.data }, { on := 4, ground := Ground.chain }, { on := 0, ground := Ground.phase }, { on := 1, ground := Ground.phase }, { on := 2, ground := Ground.phase }, { on := 3, ground := Ground.phase }, { on := 4, ground := Ground.phase }, { on := 5, ground := Ground.textOnly Departure.lateStores }, { on := 6, ground := Ground.textOnly Departure.lateStores }, { on := 7, ground := Ground.textOnly Departure.lateStores }, { on := 8, ground := Ground.phase }, { on := 9, ground := Ground.phase }], guard := none }) rfl (fun K hK => ?_) AllReadyH.nil
              rw [if_pos (by rfl)]
              refine wp_store_row 48 (.tmp 12) (.tmp 68) rfl d1 X rfl rfl 48 rtZ D9 (by rw [isT_rt.1, sX]) (by rw [sX]; rfl) oX ?_
              have n12 := blk_ne d2_10 D9 (by decide)
              have p1 := blk_ne P10 D9 (by decide)
              have E1 := D9.row X
              have E2 := d2_10.rowOther X n12
              have P9 := P10.rowOther X p1
              simp only [Act.put]
              refine hK.out _ _ (P9) (fun hS => ?_)
              clear hK K
              refine wpAnyH_ready (rs := [11]) (by kernel_rfl) (by simp) ?_
              refine AllReadyH.cons (o := { dst := none, op := Op.store 51 (Operand.tmp 13) (Operand.tmp 71), type := 0, pos := "law.go:64", after := #[{ on := 9, ground := Ground.data }, { on := 7, ground := Ground.data }, { on := 10, ground := Ground.chain }, { on := 0, ground := Ground.phase }, { on := 1, ground := Ground.phase }, { on := 2, ground := Ground.phase }, { on := 3, ground := Ground.phase }, { on := 4, ground := Ground.phase }, { on := 5, ground := Ground.phase }, { on := 6, ground := Ground.phase }, { on := 7, ground := Ground.phase }, { on := 8, ground := Ground.phase }, { on := 9, ground := Ground.phase }, { on := 10, ground := Ground.phase }], guard := none }) rfl (fun K hK => ?_) AllReadyH.nil
              rw [if_pos (by rfl)]
              refine wp_store_row 51 (.tmp 13) (.tmp 71) rfl d2 (rgA ⟨0, 0, t⟩) rfl rfl 51 rgZ E2 (by rw [isT_rg.1]; rfl) rfl (rg_one _) ?_
              have p2 := blk_ne P9 E2 (by decide)
              simp only [Act.put]
              refine hK.out _ _ (P9.rowOther _ p2) (fun hS => ?_)
              clear hK K
              refine wpAnyH_done (by kernel_rfl) ?_ _
              have F1 := E1.rowOther (rgA ⟨0, 0, t⟩) (c := d2) (fun e => n12 e.symm)
              have F2 := E2.row (rgA ⟨0, 0, t⟩)
              exact ⟨rfl, d1, d2, rfl, F1, F2, od1, od2, (k10.setRow (b := d1) (Or.inr (by omega)) X).setRow (b := d2) (Or.inr (by omega)) _⟩
            refine AllReadyH.cons (o := { dst := some 12, op := Op.alloc 48, type := 0, pos := "law.go:64", after := #[], guard := none }) rfl (fun K hK => ?_) ?_
            · rw [if_pos (by rfl)]
              refine wp_alloc_any 48 rtZ (by kernel_rfl) ?_
              intro d1 x11 D11 l11 K11
              have od1 : wc.heap.size ≤ d1 := by have := K5.size; omega
              have ltd1 := P5.lt
              have P12 := P5.kept K11 (by simp)
              have k12 := K5.trans K11
              try simp only [Act.put, List.setIfInBounds_toArray, List.set_cons_zero, List.set_cons_succ]
              refine hK.out _ _ (P12) (fun hS => ?_)
              clear hK K
              refine wpAnyH_ready (rs := [4, 9]) (by kernel_rfl) (by simp) ?_
              refine AllReadyH.cons (o := { dst := some 68, op := Op.call { callee := Callee.value (Operand.func 8), args := #[Operand.tmp 65, Operand.tmp 67], argTypes := #[25, 25] }, type := 48, pos := "law.go:64", after := #[{ on := 1, ground := Ground.data }, { on := 3, ground := Ground.data }], guard := none }) rfl (fun K hK => ?_) ?_
              · rw [if_pos (by rfl)]
                refine wp_calls 8 #[.int .u64 hh, .int .u64 k] (by kernel_rfl) (fun v Y => v = .agg X ∧ Kept [] x11 Y) ((RN.out _).mono fun e w' hh => ⟨_, hh.1, rfl, hh.2⟩) ?_
                rintro _ x13 ⟨rfl, K13⟩
                have P14 := P12.kept K13 (by simp)
                have k14 := k12.trans K13
                have d1_14 := D11.kept K13 (by simp)
                try simp only [Act.put, List.setIfInBounds_toArray, List.set_cons_zero, List.set_cons_succ]
                refine hK.out _ _ (P14) (fun hS => ?_)
                clear hK K
                refine wpAnyH_ready (rs := [9]) (by kernel_rfl) (by simp) ?_
                refine AllReadyH.cons (o := { dst := some 13, op := Op.alloc 51, type := 0, pos := "law.go:64", after := #[], guard := none }) rfl (fun K hK => ?_) AllReadyH.nil
                rw [if_pos (by rfl)]
                refine wp_alloc_any 51 rgZ (by kernel_rfl) ?_
                intro d2 x15 D15 l15 K15
                have od2 : wc.heap.size ≤ d2 := by have := k14.size; omega
                have ltd2 := P14.lt
                have P16 := P14.kept K15 (by simp)
                have k16 := k14.trans K15
                have d1_16 := d1_14.kept K15 (by simp)
                try simp only [Act.put, List.setIfInBounds_toArray, List.set_cons_zero, List.set_cons_succ]
                refine hK.out _ _ (P16) (fun hS => ?_)
                clear hK K
                refine wpAnyH_ready (rs := [10]) (by kernel_rfl) (by simp) ?_
                refine AllReadyH.cons (o := { dst := none, op := Op.store 48 (Operand.tmp 12) (Operand.tmp 68), type := 0, pos := "law.go:64", after := #[{ on := 8, ground := Ground.data }, { on := 4, ground := Ground.data }, { on := 4, ground := Ground.chain }, { on := 0, ground := Ground.phase }, { on := 1, ground := Ground.phase }, { on := 2, ground := Ground.phase }, { on := 3, ground := Ground.phase }, { on := 4, ground := Ground.phase }, { on := 5, ground := Ground.textOnly Departure.lateStores }, { on := 6, ground := Ground.textOnly Departure.lateStores }, { on := 7, ground := Ground.textOnly Departure.lateStores }, { on := 8, ground := Ground.phase }, { on := 9, ground := Ground.phase }], guard := none }) rfl (fun K hK => ?_) AllReadyH.nil
                rw [if_pos (by rfl)]
                refine wp_store_row 48 (.tmp 12) (.tmp 68) rfl d1 X rfl rfl 48 rtZ d1_16 (by rw [isT_rt.1, sX]) (by rw [sX]; rfl) oX ?_
                have n12 := blk_ne D15 d1_16 (by decide)
                have p1 := blk_ne P16 d1_16 (by decide)
                have E1 := d1_16.row X
                have E2 := D15.rowOther X n12
                have P9 := P16.rowOther X p1
                simp only [Act.put]
                refine hK.out _ _ (P9) (fun hS => ?_)
                clear hK K
                refine wpAnyH_ready (rs := [11]) (by kernel_rfl) (by simp) ?_
                refine AllReadyH.cons (o := { dst := none, op := Op.store 51 (Operand.tmp 13) (Operand.tmp 71), type := 0, pos := "law.go:64", after := #[{ on := 9, ground := Ground.data }, { on := 7, ground := Ground.data }, { on := 10, ground := Ground.chain }, { on := 0, ground := Ground.phase }, { on := 1, ground := Ground.phase }, { on := 2, ground := Ground.phase }, { on := 3, ground := Ground.phase }, { on := 4, ground := Ground.phase }, { on := 5, ground := Ground.phase }, { on := 6, ground := Ground.phase }, { on := 7, ground := Ground.phase }, { on := 8, ground := Ground.phase }, { on := 9, ground := Ground.phase }, { on := 10, ground := Ground.phase }], guard := none }) rfl (fun K hK => ?_) AllReadyH.nil
                rw [if_pos (by rfl)]
                refine wp_store_row 51 (.tmp 13) (.tmp 71) rfl d2 (rgA ⟨0, 0, t⟩) rfl rfl 51 rgZ E2 (by rw [isT_rg.1]; rfl) rfl (rg_one _) ?_
                have p2 := blk_ne P9 E2 (by decide)
                simp only [Act.put]
                refine hK.out _ _ (P9.rowOther _ p2) (fun hS => ?_)
                clear hK K
                refine wpAnyH_done (by kernel_rfl) ?_ _
                have F1 := E1.rowOther (rgA ⟨0, 0, t⟩) (c := d2) (fun e => n12 e.symm)
                have F2 := E2.row (rgA ⟨0, 0, t⟩)
                exact ⟨rfl, d1, d2, rfl, F1, F2, od1, od2, (k16.setRow (b := d1) (Or.inr (by omega)) X).setRow (b := d2) (Or.inr (by omega)) _⟩
              refine AllReadyH.cons (o := { dst := some 13, op := Op.alloc 51, type := 0, pos := "law.go:64", after := #[], guard := none }) rfl (fun K hK => ?_) AllReadyH.nil
              rw [if_pos (by rfl)]
              refine wp_alloc_any 51 rgZ (by kernel_rfl) ?_
              intro d2 x17 D17 l17 K17
              have od2 : wc.heap.size ≤ d2 := by have := k12.size; omega
              have ltd2 := P12.lt
              have P18 := P12.kept K17 (by simp)
              have k18 := k12.trans K17
              have d1_18 := D11.kept K17 (by simp)
              try simp only [Act.put, List.setIfInBounds_toArray, List.set_cons_zero, List.set_cons_succ]
              refine hK.out _ _ (P18) (fun hS => ?_)
              clear hK K
              refine wpAnyH_ready (rs := [4]) (by kernel_rfl) (by simp) ?_
              refine AllReadyH.cons (o := { dst := some 68, op := Op.call { callee := Callee.value (Operand.func 8), args := #[Operand.tmp 65, Operand.tmp 67], argTypes := #[25, 25] }, type := 48, pos := "law.go:64", after := #[{ on := 1, ground := Ground.data }, { on := 3, ground := Ground.data }], guard := none }) rfl (fun K hK => ?_) AllReadyH.nil
              rw [if_pos (by rfl)]
              refine wp_calls 8 #[.int .u64 hh, .int .u64 k] (by kernel_rfl) (fun v Y => v = .agg X ∧ Kept [] x17 Y) ((RN.out _).mono fun e w' hh => ⟨_, hh.1, rfl, hh.2⟩) ?_
              rintro _ x19 ⟨rfl, K19⟩
              have P20 := P18.kept K19 (by simp)
              have k20 := k18.trans K19
              have d1_20 := d1_18.kept K19 (by simp)
              have d2_20 := D17.kept K19 (by simp)
              try simp only [Act.put, List.setIfInBounds_toArray, List.set_cons_zero, List.set_cons_succ]
              refine hK.out _ _ (P20) (fun hS => ?_)
              clear hK K
              refine wpAnyH_ready (rs := [10]) (by kernel_rfl) (by simp) ?_
              refine AllReadyH.cons (o := { dst := none, op := Op.store 48 (Operand.tmp 12) (Operand.tmp 68), type := 0, pos := "law.go:64", after := #[{ on := 8, ground := Ground.data }, { on := 4, ground := Ground.data }, { on := 4, ground := Ground.chain }, { on := 0, ground := Ground.phase }, { on := 1, ground := Ground.phase }, { on := 2, ground := Ground.phase }, { on := 3, ground := Ground.phase }, { on := 4, ground := Ground.phase }, { on := 5, ground := Ground.textOnly Departure.lateStores }, { on := 6, ground := Ground.textOnly Departure.lateStores }, { on := 7, ground := Ground.textOnly Departure.lateStores }, { on := 8, ground := Ground.phase }, { on := 9, ground := Ground.phase }], guard := none }) rfl (fun K hK => ?_) AllReadyH.nil
              rw [if_pos (by rfl)]
              refine wp_store_row 48 (.tmp 12) (.tmp 68) rfl d1 X rfl rfl 48 rtZ d1_20 (by rw [isT_rt.1, sX]) (by rw [sX]; rfl) oX ?_
              have n12 := blk_ne d2_20 d1_20 (by decide)
              have p1 := blk_ne P20 d1_20 (by decide)
              have E1 := d1_20.row X
              have E2 := d2_20.rowOther X n12
              have P9 := P20.rowOther X p1
              simp only [Act.put]
              refine hK.out _ _ (P9) (fun hS => ?_)
              clear hK K
              refine wpAnyH_ready (rs := [11]) (by kernel_rfl) (by simp) ?_
              refine AllReadyH.cons (o := { dst := none, op := Op.store 51 (Operand.tmp 13) (Operand.tmp 71), type := 0, pos := "law.go:64", after := #[{ on := 9, ground := Ground.data }, { on := 7, ground := Ground.data }, { on := 10, ground := Ground.chain }, { on := 0, ground := Ground.phase }, { on := 1, ground := Ground.phase }, { on := 2, ground := Ground.phase }, { on := 3, ground := Ground.phase }, { on := 4, ground := Ground.phase }, { on := 5, ground := Ground.phase }, { on := 6, ground := Ground.phase }, { on := 7, ground := Ground.phase }, { on := 8, ground := Ground.phase }, { on := 9, ground := Ground.phase }, { on := 10, ground := Ground.phase }], guard := none }) rfl (fun K hK => ?_) AllReadyH.nil
              rw [if_pos (by rfl)]
              refine wp_store_row 51 (.tmp 13) (.tmp 71) rfl d2 (rgA ⟨0, 0, t⟩) rfl rfl 51 rgZ E2 (by rw [isT_rg.1]; rfl) rfl (rg_one _) ?_
              have p2 := blk_ne P9 E2 (by decide)
              simp only [Act.put]
              refine hK.out _ _ (P9.rowOther _ p2) (fun hS => ?_)
              clear hK K
              refine wpAnyH_done (by kernel_rfl) ?_ _
              have F1 := E1.rowOther (rgA ⟨0, 0, t⟩) (c := d2) (fun e => n12 e.symm)
              have F2 := E2.row (rgA ⟨0, 0, t⟩)
              exact ⟨rfl, d1, d2, rfl, F1, F2, od1, od2, (k20.setRow (b := d1) (Or.inr (by omega)) X).setRow (b := d2) (Or.inr (by omega)) _⟩
            refine AllReadyH.cons (o := { dst := some 13, op := Op.alloc 51, type := 0, pos := "law.go:64", after := #[], guard := none }) rfl (fun K hK => ?_) AllReadyH.nil
            rw [if_pos (by rfl)]
            refine wp_alloc_any 51 rgZ (by kernel_rfl) ?_
            intro d2 x21 D21 l21 K21
            have od2 : wc.heap.size ≤ d2 := by have := K5.size; omega
            have ltd2 := P5.lt
            have P22 := P5.kept K21 (by simp)
            have k22 := K5.trans K21
            try simp only [Act.put, List.setIfInBounds_toArray, List.set_cons_zero, List.set_cons_succ]
            refine hK.out _ _ (P22) (fun hS => ?_)
            clear hK K
            refine wpAnyH_ready (rs := [4, 8]) (by kernel_rfl) (by simp) ?_
            refine AllReadyH.cons (o := { dst := some 68, op := Op.call { callee := Callee.value (Operand.func 8), args := #[Operand.tmp 65, Operand.tmp 67], argTypes := #[25, 25] }, type := 48, pos := "law.go:64", after := #[{ on := 1, ground := Ground.data }, { on := 3, ground := Ground.data }], guard := none }) rfl (fun K hK => ?_) ?_
            · rw [if_pos (by rfl)]
              refine wp_calls 8 #[.int .u64 hh, .int .u64 k] (by kernel_rfl) (fun v Y => v = .agg X ∧ Kept [] x21 Y) ((RN.out _).mono fun e w' hh => ⟨_, hh.1, rfl, hh.2⟩) ?_
              rintro _ x23 ⟨rfl, K23⟩
              have P24 := P22.kept K23 (by simp)
              have k24 := k22.trans K23
              have d2_24 := D21.kept K23 (by simp)
              try simp only [Act.put, List.setIfInBounds_toArray, List.set_cons_zero, List.set_cons_succ]
              refine hK.out _ _ (P24) (fun hS => ?_)
              clear hK K
              refine wpAnyH_ready (rs := [8]) (by kernel_rfl) (by simp) ?_
              refine AllReadyH.cons (o := { dst := some 12, op := Op.alloc 48, type := 0, pos := "law.go:64", after := #[], guard := none }) rfl (fun K hK => ?_) AllReadyH.nil
              rw [if_pos (by rfl)]
              refine wp_alloc_any 48 rtZ (by kernel_rfl) ?_
              intro d1 x25 D25 l25 K25
              have od1 : wc.heap.size ≤ d1 := by have := k24.size; omega
              have ltd1 := P24.lt
              have P26 := P24.kept K25 (by simp)
              have k26 := k24.trans K25
              have d2_26 := d2_24.kept K25 (by simp)
              try simp only [Act.put, List.setIfInBounds_toArray, List.set_cons_zero, List.set_cons_succ]
              refine hK.out _ _ (P26) (fun hS => ?_)
              clear hK K
              refine wpAnyH_ready (rs := [10]) (by kernel_rfl) (by simp) ?_
              refine AllReadyH.cons (o := { dst := none, op := Op.store 48 (Operand.tmp 12) (Operand.tmp 68), type := 0, pos := "law.go:64", after := #[{ on := 8, ground := Ground.data }, { on := 4, ground := Ground.data }, { on := 4, ground := Ground.chain }, { on := 0, ground := Ground.phase }, { on := 1, ground := Ground.phase }, { on := 2, ground := Ground.phase }, { on := 3, ground := Ground.phase }, { on := 4, ground := Ground.phase }, { on := 5, ground := Ground.textOnly Departure.lateStores }, { on := 6, ground := Ground.textOnly Departure.lateStores }, { on := 7, ground := Ground.textOnly Departure.lateStores }, { on := 8, ground := Ground.phase }, { on := 9, ground := Ground.phase }], guard := none }) rfl (fun K hK => ?_) AllReadyH.nil
              rw [if_pos (by rfl)]
              refine wp_store_row 48 (.tmp 12) (.tmp 68) rfl d1 X rfl rfl 48 rtZ D25 (by rw [isT_rt.1, sX]) (by rw [sX]; rfl) oX ?_
              have n12 := blk_ne d2_26 D25 (by decide)
              have p1 := blk_ne P26 D25 (by decide)
              have E1 := D25.row X
              have E2 := d2_26.rowOther X n12
              have P9 := P26.rowOther X p1
              simp only [Act.put]
              refine hK.out _ _ (P9) (fun hS => ?_)
              clear hK K
              refine wpAnyH_ready (rs := [11]) (by kernel_rfl) (by simp) ?_
              refine AllReadyH.cons (o := { dst := none, op := Op.store 51 (Operand.tmp 13) (Operand.tmp 71), type := 0, pos := "law.go:64", after := #[{ on := 9, ground := Ground.data }, { on := 7, ground := Ground.data }, { on := 10, ground := Ground.chain }, { on := 0, ground := Ground.phase }, { on := 1, ground := Ground.phase }, { on := 2, ground := Ground.phase }, { on := 3, ground := Ground.phase }, { on := 4, ground := Ground.phase }, { on := 5, ground := Ground.phase }, { on := 6, ground := Ground.phase }, { on := 7, ground := Ground.phase }, { on := 8, ground := Ground.phase }, { on := 9, ground := Ground.phase }, { on := 10, ground := Ground.phase }], guard := none }) rfl (fun K hK => ?_) AllReadyH.nil
              rw [if_pos (by rfl)]
              refine wp_store_row 51 (.tmp 13) (.tmp 71) rfl d2 (rgA ⟨0, 0, t⟩) rfl rfl 51 rgZ E2 (by rw [isT_rg.1]; rfl) rfl (rg_one _) ?_
              have p2 := blk_ne P9 E2 (by decide)
              simp only [Act.put]
              refine hK.out _ _ (P9.rowOther _ p2) (fun hS => ?_)
              clear hK K
              refine wpAnyH_done (by kernel_rfl) ?_ _
              have F1 := E1.rowOther (rgA ⟨0, 0, t⟩) (c := d2) (fun e => n12 e.symm)
              have F2 := E2.row (rgA ⟨0, 0, t⟩)
              exact ⟨rfl, d1, d2, rfl, F1, F2, od1, od2, (k26.setRow (b := d1) (Or.inr (by omega)) X).setRow (b := d2) (Or.inr (by omega)) _⟩
            refine AllReadyH.cons (o := { dst := some 12, op := Op.alloc 48, type := 0, pos := "law.go:64", after := #[], guard := none }) rfl (fun K hK => ?_) AllReadyH.nil
            rw [if_pos (by rfl)]
            refine wp_alloc_any 48 rtZ (by kernel_rfl) ?_
            intro d1 x27 D27 l27 K27
            have od1 : wc.heap.size ≤ d1 := by have := k22.size; omega
            have ltd1 := P22.lt
            have P28 := P22.kept K27 (by simp)
            have k28 := k22.trans K27
            have d2_28 := D21.kept K27 (by simp)
            try simp only [Act.put, List.setIfInBounds_toArray, List.set_cons_zero, List.set_cons_succ]
            refine hK.out _ _ (P28) (fun hS => ?_)
            clear hK K
            refine wpAnyH_ready (rs := [4]) (by kernel_rfl) (by simp) ?_
            refine AllReadyH.cons (o := { dst := some 68, op := Op.call { callee := Callee.value (Operand.func 8), args := #[Operand.tmp 65, Operand.tmp 67], argTypes := #[25, 25] }, type := 48, pos := "law.go:64", after := #[{ on := 1, ground := Ground.data }, { on := 3, ground := Ground.data }], guard := none }) rfl (fun K hK => ?_) AllReadyH.nil
            rw [if_pos (by rfl)]
            refine wp_calls 8 #[.int .u64 hh, .int .u64 k] (by kernel_rfl) (fun v Y => v = .agg X ∧ Kept [] x27 Y) ((RN.out _).mono fun e w' hh => ⟨_, hh.1, rfl, hh.2⟩) ?_
            rintro _ x29 ⟨rfl, K29⟩
            have P30 := P28.kept K29 (by simp)
            have k30 := k28.trans K29
            have d1_30 := D27.kept K29 (by simp)
            have d2_30 := d2_28.kept K29 (by simp)
            try simp only [Act.put, List.setIfInBounds_toArray, List.set_cons_zero, List.set_cons_succ]
            refine hK.out _ _ (P30) (fun hS => ?_)
            clear hK K
            refine wpAnyH_ready (rs := [10]) (by kernel_rfl) (by simp) ?_
            refine AllReadyH.cons (o := { dst := none, op := Op.store 48 (Operand.tmp 12) (Operand.tmp 68), type := 0, pos := "law.go:64", after := #[{ on := 8, ground := Ground.data }, { on := 4, ground := Ground.data }, { on := 4, ground := Ground.chain }, { on := 0, ground := Ground.phase }, { on := 1, ground := Ground.phase }, { on := 2, ground := Ground.phase }, { on := 3, ground := Ground.phase }, { on := 4, ground := Ground.phase }, { on := 5, ground := Ground.textOnly Departure.lateStores }, { on := 6, ground := Ground.textOnly Departure.lateStores }, { on := 7, ground := Ground.textOnly Departure.lateStores }, { on := 8, ground := Ground.phase }, { on := 9, ground := Ground.phase }], guard := none }) rfl (fun K hK => ?_) AllReadyH.nil
            rw [if_pos (by rfl)]
            refine wp_store_row 48 (.tmp 12) (.tmp 68) rfl d1 X rfl rfl 48 rtZ d1_30 (by rw [isT_rt.1, sX]) (by rw [sX]; rfl) oX ?_
            have n12 := blk_ne d2_30 d1_30 (by decide)
            have p1 := blk_ne P30 d1_30 (by decide)
            have E1 := d1_30.row X
            have E2 := d2_30.rowOther X n12
            have P9 := P30.rowOther X p1
            simp only [Act.put]
            refine hK.out _ _ (P9) (fun hS => ?_)
            clear hK K
            refine wpAnyH_ready (rs := [11]) (by kernel_rfl) (by simp) ?_
            refine AllReadyH.cons (o := { dst := none, op := Op.store 51 (Operand.tmp 13) (Operand.tmp 71), type := 0, pos := "law.go:64", after := #[{ on := 9, ground := Ground.data }, { on := 7, ground := Ground.data }, { on := 10, ground := Ground.chain }, { on := 0, ground := Ground.phase }, { on := 1, ground := Ground.phase }, { on := 2, ground := Ground.phase }, { on := 3, ground := Ground.phase }, { on := 4, ground := Ground.phase }, { on := 5, ground := Ground.phase }, { on := 6, ground := Ground.phase }, { on := 7, ground := Ground.phase }, { on := 8, ground := Ground.phase }, { on := 9, ground := Ground.phase }, { on := 10, ground := Ground.phase }], guard := none }) rfl (fun K hK => ?_) AllReadyH.nil
            rw [if_pos (by rfl)]
            refine wp_store_row 51 (.tmp 13) (.tmp 71) rfl d2 (rgA ⟨0, 0, t⟩) rfl rfl 51 rgZ E2 (by rw [isT_rg.1]; rfl) rfl (rg_one _) ?_
            have p2 := blk_ne P9 E2 (by decide)
            simp only [Act.put]
            refine hK.out _ _ (P9.rowOther _ p2) (fun hS => ?_)
            clear hK K
            refine wpAnyH_done (by kernel_rfl) ?_ _
            have F1 := E1.rowOther (rgA ⟨0, 0, t⟩) (c := d2) (fun e => n12 e.symm)
            have F2 := E2.row (rgA ⟨0, 0, t⟩)
            exact ⟨rfl, d1, d2, rfl, F1, F2, od1, od2, (k30.setRow (b := d1) (Or.inr (by omega)) X).setRow (b := d2) (Or.inr (by omega)) _⟩
          · rintro a' w5 ⟨d1, d2, rfl, D1, D2, od1, od2, K5⟩
            simp only [Act.put, List.setIfInBounds_toArray, List.set_cons_zero, List.set_cons_succ]
            have FW5 := FWS.out.new K5
            have LI0 : Hid (LRt W w5 q8 d1 d2 b fb gb m p r w5.heap.size n c ⟨0, 0, t⟩ (rdS hh k).m ⟨xs, 0, Acc.zero⟩ ⟨0, 0, t⟩ (rdS hh k) ⟨xs, 0, Acc.zero⟩ gg c' X) := by
              have s5 := K5.size
              have sw := FWS.out.fw.kp.size
              have b1 := hBB.out.1
              have b2 := hBB.out.2.1
              have b3 := hBB.out.2.2
              have b4 := lt_of_blk FW5.fw.st.mm.bk.st
              have b5 := lt_of_blk FW5.fw.st.mm.bk.row
              exact ⟨FW5, HQ8w.out.kept K5 (by simp), HRR.out.kept (K3x.out.trans K5) (by simp), D1, HRX.out _ _, D2, HNN.out.symm, hGR.out, ⟨by omega, by omega, b4, b5⟩, ⟨by omega, by omega, by omega⟩, Nat.le_refl _⟩
            obtain ⟨base2, hb2⟩ : ∃ z : Nat, z = w5.heap.size := ⟨_, rfl⟩
            rw [← hb2] at LI0
            clear hb2 FW5 D1 D2 od1 od2 K5 HRX RN HQ8w sX oX FWS HQ8 HRR K3x hGR hBB
            have y2 := cell_of_blk (HX.out.2.1.kept LI0.out.fw.fw.kp (by simp)) (i := 3) (v := .int .i64 st) rfl
            go_upto_region 6 with (fail)
            go_cut [74, 75] from 14 to 75 (fun s66 s67 Y => s66 = .int .i64 (J : Int) ∧ s67 = .int .i64 0 ∧ LRt W Y q8 d1 d2 b fb gb m p r base2 n c ⟨0, 0, t⟩ (rdS hh k).m ⟨xs, 0, Acc.zero⟩ ⟨0, 0, t⟩ (rdS hh k) ⟨xs, 0, Acc.zero⟩ gg c' X)
            case first =>
              by_cases hs0 : 0 < st
              · have hJs : (J : Int) = st := by have z := HJ.out; rw [if_pos (by omega)] at z; exact z
                have d3 : decide (0 < st) = true := by simpa using hs0
                have d4 : decide (0 ≤ st) = true := by simp; omega
                have d5 : decide (st < 0) = false := by simp; omega
                have d6 : decide (st ≤ 0) = false := by simp; omega
                have hmx : max (0 : Int) st = st := by omega
                go_wp2
                go_meet
                case rel => exact ⟨by rw [hJs], rfl, LI0.out⟩
              · have hJs : (J : Int) = 0 := by have z := HJ.out; split at z <;> omega
                have d3 : decide (0 < st) = false := by simpa using hs0
                have d6 : decide (st ≤ 0) = true := by simp; omega
                have hmx : max (0 : Int) st = 0 := by omega
                go_wp2
                all_goals
                  go_meet
                  case rel => exact ⟨by first | (rw [hJs]; done) | (rw [hJs]; congr 1; omega), rfl, LI0.out⟩
            case rest =>
              obtain ⟨rfl, rfl, LIX⟩ := hcut
              have LIY := hidOf LIX
              clear y2 LI0 LIX
              have LI0 := LIY
              clear LIY
              go_wp2_with fail
              go_loopw [75, 14] (fun s67 _ wr => ∃ j : Nat, j ≤ J ∧ s67 = .int .i64 j ∧ ∃ g s x gg c' A, LRt W wr q8 d1 d2 b fb gb m p r base2 n c g s.m x g s x gg c' A ∧ Hid (s.ok ∧ isW s.h) ∧ Hid (x.n ≤ 40 * j)) (fun s67 _ _ => J - (intOf s67).toNat)
              case atStart => exact ⟨0, by omega, by first | rfl | go_num, ⟨0, 0, t⟩, rdS hh k, ⟨xs, 0, Acc.zero⟩, gg, c', X, LI0.out, hidOf ⟨(fun z => by cases z), HHK.out.1⟩, hidOf (by show (0 : Int) ≤ 40 * ((0 : Nat) : Int); omega)⟩
              case round =>
                clear LI0
                obtain ⟨j, hj, rfl, g, s, x, g1, c1, A, Z, HOK, HN1⟩ := hrel
                have HZ := hidOf Z
                clear Z
                by_cases hlt : j < J
                · have hltz : (j : Int) < (J : Int) := by omega
                  have y3 := cell_of_blk (HX.out.2.1.kept HZ.out.fw.fw.kp (by simp)) (i := 4) (v := .slice po pn pc) rfl
                  have QM := HZ.out.rm
                  have PK := hidOf (poked_any m p r g1 c x c1 po ps pn pc j wr HZ.out.fw.fw.st.mm HZ.out.row HZ.out.gr (by rw [HZ.out.len]; omega) HPN.out (HPS.out.kept (HX.out.2.2.trans HZ.out.fw.fw.kp) (by simp)) HPL.out (by omega) HZ.out.fw.fw.n0 (by have := HN1.out; omega))
                  rw [HZ.out.len] at PK
                  go_wp2_with (first
              | ((with_reducible change wpList _ _ _ (Oper.mk _ (Op.load 35 (Operand.tmp 8)) _ _ _ _ :: _) _ _); refine wpList_load_rw 35 isT_rm rfl (.tmp 8) rfl q8 rfl (rmA c (some ⟨g1, 0, none⟩) n c1 x.n x.a) rfl QM ?_))
                  refine PK.out.mono ?_
                  rintro e w6 ⟨g2, c2, rfl, hg2, R2, M2, K6⟩
                  obtain ⟨y, hy⟩ : ∃ y, y = pkF j ps x := ⟨_, rfl⟩
                  have yn := pkF_n j ps x
                  have yl := pkF_len j ps x
                  have yw := pkF_wd (k := j) (ps := ps) (x := x) HZ.out.fw.fw.st.wd HPW.out
                  rw [← hy] at R2 M2 yn yl yw ⊢
                  rw [HZ.out.len] at yl
                  have yn' := hidOf yn
                  have HLP := hidOf (HZ.out.poke K6 M2 hg2 R2 yl yw (by have := HZ.out.fw.fw.n0; omega))
                  have QM6 := HZ.out.rm.kept K6 (by have z := HZ.out.apM; simp; omega)
                  have hn2 : Hid (y.n ≤ 40 * j + 30) := hidOf (by have := HN1.out; have := HPN.out; omega)
                  clear PK hy yn yl yw R2 M2 K6 hg2 QM y3 HZ yn'
                  go_upto_region 10 with (first
              | ((with_reducible change wpList _ _ _ (Oper.mk _ (Op.store 35 (Operand.tmp 8) _) _ _ _ _ :: _) _ _); refine wpList_store_rw 35 isT_rm rfl (.tmp 8) (.tmp 83) rfl q8 (rmA c (some ⟨g2, 0, none⟩) n c2 y.n y.a) rfl rfl rfl (rm_one _ _ _ _ _ _) _ QM6 rfl ?_))
                  refine gen_world (fun V => LRt W V q8 d1 d2 b fb gb m p r base2 n c g s.m y g s y g2 c2 A) HLP.out ?_
                  clear HLP QM6
                  rintro w7 Z7
                  have HZ7 := hidOf Z7
                  clear Z7
                  have SP := hidOf (rtstep_any HZ7.out.fw (by have := hn2.out; omega))
                  go_wp2_with fail
                  with_reducible refine SP.out.mono ?_
                  rintro e w8 ⟨rfl, F8, FK8⟩
                  rw [← rdF_m] at F8
                  have Z8 : LRt W w8 q8 d1 d2 b fb gb m p r base2 n c (rtG c g s.m) (rdF c y.cs y.n g s).m ⟨rtC c y.cs g s.m, rtN y.n s.m, rtA c y.cs g s.m y.a⟩ g s y g2 c2 A := HZ7.out.fk (xp2 := ⟨rtC c y.cs g s.m, rtN y.n s.m, rtA c y.cs g s.m y.a⟩) F8 FK8
                  have sq : SR base2 w8 g2 c s A g y.cs c2 y.n := by
                    have z := HZ7.out
                    exact ⟨Z8.rf, HOK.out.2, Z8.row, by rw [z.len]; omega, z.fw.fw.n0, by have := hn2.out; omega, z.fw.fw.st.R, z.fw.ri, z.fw.fw.st.wd, Z8.bw, z.fw.fw.st.u0, z.fw.fw.st.u1⟩
                  have RS := hidOf (rtdstep_any y.a sq)
                  rw [HZ7.out.len] at RS
                  have hl8 : (rtC c y.cs g s.m).length = n := by rw [rtC_len]; exact HZ7.out.len
                  have hn8 : Hid (rtN y.n s.m ≤ 40 * ((j + 1 : Nat) : Int)) := hidOf (by have := hn2.out; unfold rtN; split <;> omega)
                  have hok8 : Hid ((rdF c y.cs y.n g s).ok ∧ isW (rdF c y.cs y.n g s).h) := hidOf ⟨Rd.ok_step HOK.out.1 _ _ _ _, by rw [rdF_h]; exact HOK.out.2⟩
                  have HZ8 := hidOf Z8
                  clear Z8
                  obtain ⟨g9, hg9⟩ : ∃ z, z = rtG c g s.m := ⟨_, rfl⟩
                  obtain ⟨s9, hf9⟩ : ∃ z, z = rdF c y.cs y.n g s := ⟨_, rfl⟩
                  obtain ⟨y9, hy9⟩ : ∃ z : Mst, z = ⟨rtC c y.cs g s.m, rtN y.n s.m, rtA c y.cs g s.m y.a⟩ := ⟨_, rfl⟩
                  have e1 : rtC c y.cs g s.m = y9.cs := by rw [hy9]
                  have e2 : rtN y.n s.m = y9.n := by rw [hy9]
                  have e3 : rtA c y.cs g s.m y.a = y9.a := by rw [hy9]
                  rw [← hy9, ← hf9, ← hg9] at HZ8
                  rw [← hf9, ← hg9, e1, e2, e3] at RS
                  rw [← hf9] at hok8
                  rw [e1] at hl8
                  rw [e2] at hn8
                  clear hg9 hf9 hy9 e1 e2 e3 sq F8 FK8 SP HZ7 hn2 HOK
                  have QF := HZ8.out.rf1
                  have QM := HZ8.out.rm
                  have QG := HZ8.out.rg
                  have sA := HZ8.out.rf.size
                  go_wp2_with (first
              | ((with_reducible change wpList _ _ _ (Oper.mk _ (Op.load 48 (Operand.tmp 12)) _ _ _ _ :: _) _ _); refine wpList_load_rw 48 isT_rt rfl (.tmp 12) rfl d1 rfl A sA QF ?_)
              | ((with_reducible change wpList _ _ _ (Oper.mk _ (Op.load 35 (Operand.tmp 8)) _ _ _ _ :: _) _ _); refine wpList_load_rw 35 isT_rm rfl (.tmp 8) rfl q8 rfl (rmA c (some ⟨g2, 0, none⟩) n c2 y.n y.a) rfl QM ?_)
              | ((with_reducible change wpList _ _ _ (Oper.mk _ (Op.load 51 (Operand.tmp 13)) _ _ _ _ :: _) _ _); refine wpList_load_rw 51 isT_rg rfl (.tmp 13) rfl d2 rfl (rgA g) rfl QG ?_))
                  refine RS.out.mono ?_
                  rintro e w9 ⟨X9, B9, rfl, RX9, WB9, K9⟩
                  obtain ⟨g3, c3, eB, Z9⟩ := HZ8.out.sync K9 RX9 WB9 hl8
                  have HZ9 := hidOf Z9
                  have H9 := HZ8.out.new K9
                  have n1 : ¬ q8 = d1 := blk_ne H9.rm H9.rf1 (by decide)
                  have n2 : ¬ d2 = d1 := blk_ne H9.rg H9.rf1 (by decide)
                  have n3 : ¬ d2 = q8 := blk_ne H9.rg H9.rm (by decide)
                  have QF9 := H9.rf1
                  have QM9 := H9.rm.rowOther X9 n1
                  have QG9 := (H9.rg.rowOther X9 n2).rowOther B9 (c := q8) n3
                  have sX := RX9.size
                  have oX := RX9.one
                  have sB := WB9.size
                  have oB := WB9.allOne
                  have HeB := hidOf eB
                  clear RS QF QM QG Z9 H9 RX9 WB9 K9 HZ8 eB
                  go_upto_region 12 with (first
              | ((with_reducible change wpList _ _ _ (Oper.mk _ (Op.store 48 (Operand.tmp 12) _) _ _ _ _ :: _) _ _); refine wpList_store_rw 48 isT_rt rfl (.tmp 12) (.tmp 93) rfl d1 X9 rfl rfl sX oX A QF9 sA ?_)
              | ((with_reducible change wpList _ _ _ (Oper.mk _ (Op.store 35 (Operand.tmp 8) _) _ _ _ _ :: _) _ _); refine wpList_store_rw 35 isT_rm rfl (.tmp 8) (.tmp 94) rfl q8 B9 rfl rfl sB oB _ QM9 rfl ?_)
              | ((with_reducible change wpList _ _ _ (Oper.mk _ (Op.store 51 (Operand.tmp 13) _) _ _ _ _ :: _) _ _); refine wpList_store_rw 51 isT_rg rfl (.tmp 13) (.tmp 95) rfl d2 (rgA g9) rfl rfl rfl (rg_one _) _ QG9 rfl ?_))
                  refine gen_world (fun V => LRt W V q8 d1 d2 b fb gb m p r base2 n c g9 s9.m y9 g9 s9 y9 g3 c3 X9) HZ9.out ?_
                  clear HZ9 QF9 QM9 QG9 sB oB n1 n2 n3 oX sX
                  rw [HeB.out]
                  clear HeB
                  rintro w10 Z10
                  have HZA := hidOf Z10
                  clear Z10
                  have ET := hidOf (rtentry_any b fb s9.m w10 HZA.out.fw.rb)
                  obtain ⟨EH, EB, EE, hen⟩ := ent_any s9.m
                  obtain ⟨TD, hTD⟩ : ∃ TD, s9.m.told = TD := ⟨_, rfl⟩
                  have EX := hidOf (fun (Y : World) (kk : Kept [] w10 Y) => rdentry_any (w := Y) (HZA.out.rf.new kk))
                  rw [hen, hTD] at ET
                  rw [Rd.ent_m hok8.out.1, hen, hTD] at EX
                  clear hen hTD
                  go_wp2_with fail
                  with_reducible refine ET.out.mono ?_
                  rintro e w11 ⟨rfl, K11⟩
                  obtain ⟨x15, hx15⟩ : ∃ x, x = w11.heap.size := ⟨_, rfl⟩
                  have BX : Hid (RW 56 (w11.alloc (.cells #[.int .u64 EH, .int .u64 EB, .int .u64 EE] 56)) x15 #[.int .u64 EH, .int .u64 EB, .int .u64 EE] ∧ Kept [] w10 (w11.alloc (.cells #[.int .u64 EH, .int .u64 EB, .int .u64 EE] 56))) := by rw [hx15]; exact ⟨RW.new _ _ _, K11.alloc _⟩
                  clear ET K11
                  go_upto_region 13 with (fail)
                  rw [← hx15]
                  refine gen_world (fun Y => RW 56 Y x15 #[.int .u64 EH, .int .u64 EB, .int .u64 EE] ∧ Kept [] w10 Y) BX.out ?_
                  clear BX hx15
                  rintro w12 ⟨R15, K12⟩
                  have HZB := hidOf (And.intro (HZA.out.new K12) R15)
                  have ET := hidOf (EX.out w12 K12)
                  clear R15 K12 HZA EX
                  have QF := HZB.out.1.rf1
                  have sX := HZB.out.1.rf.size
                  go_wp2_with (first
              | ((with_reducible change wpList _ _ _ (Oper.mk _ (Op.load 48 (Operand.tmp 12)) _ _ _ _ :: _) _ _); refine wpList_load_rw 48 isT_rt rfl (.tmp 12) rfl d1 rfl X9 sX QF ?_))
                  with_reducible refine ET.out.mono ?_
                  rintro e w13 ⟨rfl, K13⟩
                  obtain ⟨x17, hx17⟩ : ∃ x, x = w13.heap.size := ⟨_, rfl⟩
                  have BX : Hid (RW 46 (w13.alloc (.cells #[.int .u64 EH, .int .u64 EB, .int .u64 EE] 46)) x17 #[.int .u64 EH, .int .u64 EB, .int .u64 EE] ∧ Kept [] w12 (w13.alloc (.cells #[.int .u64 EH, .int .u64 EB, .int .u64 EE] 46))) := by rw [hx17]; exact ⟨RW.new _ _ _, K13.alloc _⟩
                  clear ET K13 QF
                  go_upto_region 14 with (fail)
                  rw [← hx17]
                  refine gen_world (fun Y => RW 46 Y x17 #[.int .u64 EH, .int .u64 EB, .int .u64 EE] ∧ Kept [] w12 Y) BX.out ?_
                  clear BX hx17
                  rintro w14 ⟨R17, K14⟩
                  have HZ4 := hidOf (HZB.out.1.new K14)
                  have HX2 := hidOf (And.intro (HZB.out.2.kept K14 (by simp)) R17)
                  clear R17 K14 HZB
                  have HSM := hidOf (fun (Y : World) (kk : Kept [] w14 Y) => ksame_any m p r g3 c c y9.cs y9.n y9.a n c3 Y (HZ4.out.fw.fw.st.mm.new kk) (HZ4.out.row.kept kk (by simp)) HZ4.out.len.symm (by omega))
                  have HDN := hidOf (fun (Y : World) (kk : Kept [] w14 Y) => (rtdone_any b fb s9.m _ _ _ _ Y (HZ4.out.fw.new kk).rb).mono fun _ w' x => (⟨x.1, by rw [x.2]; exact Kept.refl _ _⟩ : _ ∧ Kept [] Y w'))
                  have e18 := HZ4.out.rf.cells.2.2.2.2.2.2
                  have HEQ := hidOf (fun (Y : World) => req_ent6 EH EB EE Y)
                  have SS : Hid (∀ Y : World, Kept [] w14 Y → RW 35 Y q8 (rmA c (some ⟨g3, 0, none⟩) n c3 y9.n y9.a) ∧ RW 48 Y d1 X9 ∧ RW 56 Y x15 #[.int .u64 EH, .int .u64 EB, .int .u64 EE] ∧ RW 46 Y x17 #[.int .u64 EH, .int .u64 EB, .int .u64 EE]) := hidOf (fun Y kk => ⟨HZ4.out.rm.kept kk (by simp), HZ4.out.rf1.kept kk (by simp), HX2.out.1.kept kk (by simp), HX2.out.2.kept kk (by simp)⟩)
                  have K6 : Kept [] w14 w14.drew := (Kept.refl [] w14).drew
                  have HN2 := hn8
                  have HOK2 := hok8
                  clear hn8 hl8 hok8
                  refine wp_region_held_drew (S := fun Y => RW 35 Y q8 (rmA c (some ⟨g3, 0, none⟩) n c3 y9.n y9.a) ∧ RW 48 Y d1 X9 ∧ RW 56 Y x15 #[.int .u64 EH, .int .u64 EB, .int .u64 EE] ∧ RW 46 Y x17 #[.int .u64 EH, .int .u64 EB, .int .u64 EE]) (by kernel_rfl) (SS.out _ K6) (fun hS => ?_)
                  generalize w14.drew = V6 at K6 hS ⊢
                  refine wpAnyH_take (i := 0) (oi := { dst := some 106, op := Op.move (Operand.tmp 7), type := 29, pos := "law.go:71", after := #[], guard := none }) (v := Value.pointer (some ⟨m, 0, none⟩)) rfl (by kernel_rfl) (by kernel_rfl) (by kernel_rfl) (fun _ _ _ h => h) (Or.inl ⟨rfl, fun _ _ => by kernel_rfl⟩) hS ?_
                  try simp only [Act.put, List.setIfInBounds_toArray, List.set_cons_zero, List.set_cons_succ]
                  refine wpAnyH_take (i := 1) (oi := { dst := some 107, op := Op.load 35 (Operand.tmp 8), type := 35, pos := "law.go:71", after := #[], guard := none }) (v := Value.agg (rmA c (some ⟨g3, 0, none⟩) n c3 y9.n y9.a)) rfl (by kernel_rfl) (by kernel_rfl) (by kernel_rfl) (fun _ _ _ h => h) (yieldsIf_load_rw rfl 35 isT_rm (.tmp 8) rfl q8 rfl (rmA c (some ⟨g3, 0, none⟩) n c3 y9.n y9.a) rfl (fun _ h => h.1)) hS ?_
                  try simp only [Act.put, List.setIfInBounds_toArray, List.set_cons_zero, List.set_cons_succ]
                  refine wpAnyH_ready (rs := [2]) (by kernel_rfl) (by simp) ?_
                  refine AllReadyH.cons (o := { dst := some 108, op := Op.call { callee := Callee.value (Operand.func 14), args := #[Operand.tmp 106, Operand.tmp 107], argTypes := #[29, 35] }, type := 4, pos := "law.go:71", after := #[{ on := 0, ground := Ground.data }, { on := 1, ground := Ground.data }], guard := none }) rfl (fun K hK => ?_) AllReadyH.nil
                  rw [if_pos (by rfl)]
                  refine wp_calls 14 #[.pointer (some ⟨m, 0, none⟩), .agg (rmA c (some ⟨g3, 0, none⟩) n c3 y9.n y9.a)] (by kernel_rfl) (fun v V => v = .bool true ∧ Kept [] V6 V) ((HSM.out _ K6).mono fun e w' hh => ⟨_, hh.1, rfl, hh.2⟩) ?_
                  rintro _ y2 ⟨rfl, J2⟩
                  have j2 := K6.trans J2
                  try simp only [Act.put, List.setIfInBounds_toArray, List.set_cons_zero, List.set_cons_succ]
                  refine hK.out _ _ (SS.out _ j2) (fun hS => ?_)
                  clear hK K
                  refine wpAnyH_take (i := 3) (oi := { dst := some 109, op := Op.unOp UnOp.not 4 (Operand.tmp 108), type := 4, pos := "law.go:71", after := #[{ on := 2, ground := Ground.data }], guard := none }) (v := Value.bool false) rfl (by kernel_rfl) (by kernel_rfl) (by kernel_rfl) (fun _ _ _ h => h) (Or.inl ⟨rfl, fun _ _ => by kernel_rfl⟩) hS ?_
                  try simp only [Act.put, List.setIfInBounds_toArray, List.set_cons_zero, List.set_cons_succ]
                  refine wpAnyH_take (i := 4) (oi := { dst := some 110, op := Op.move (Operand.tmp 109), type := 4, pos := "law.go:71", after := #[{ on := 3, ground := Ground.data }, { on := 2, ground := Ground.chain }], guard := none }) (v := Value.bool false) rfl (by kernel_rfl) (by kernel_rfl) (by kernel_rfl) (fun _ _ _ h => h) (Or.inl ⟨rfl, fun _ _ => by kernel_rfl⟩) hS ?_
                  try simp only [Act.put, List.setIfInBounds_toArray, List.set_cons_zero, List.set_cons_succ]
                  refine wpAnyH_take (i := 5) (oi := { dst := some 111, op := Op.move (Operand.tmp 10), type := 38, pos := "law.go:71", after := #[{ on := 4, ground := Ground.guard }], guard := some (4, false) }) (v := Value.pointer (some ⟨b, 0, none⟩)) rfl (by kernel_rfl) (by kernel_rfl) (by kernel_rfl) (fun _ _ _ h => h) (Or.inl ⟨rfl, fun _ _ => by kernel_rfl⟩) hS ?_
                  try simp only [Act.put, List.setIfInBounds_toArray, List.set_cons_zero, List.set_cons_succ]
                  refine wpAnyH_take (i := 7) (oi := { dst := some 113, op := Op.fieldAddr 48 (Operand.tmp 12) 5, type := 0, pos := "law.go:71", after := #[{ on := 4, ground := Ground.guard }], guard := some (4, false) }) (v := Value.pointer (some ⟨d1, 18, none⟩)) rfl (by kernel_rfl) (by kernel_rfl) (by kernel_rfl) (fun _ _ _ h => h) (Or.inl ⟨rfl, fun _ _ => by kernel_rfl⟩) hS ?_
                  try simp only [Act.put, List.setIfInBounds_toArray, List.set_cons_zero, List.set_cons_succ]
                  refine wpAnyH_take (i := 8) (oi := { dst := some 114, op := Op.load 4 (Operand.tmp 113), type := 4, pos := "law.go:71", after := #[{ on := 7, ground := Ground.data }, { on := 4, ground := Ground.guard }], guard := some (4, false) }) (v := Value.bool s9.d) rfl (by kernel_rfl) (by kernel_rfl) (by kernel_rfl) (fun _ _ _ h => h) (Or.inl ⟨rfl, fun w hSw => by have z := cell_of_blk hSw.2.1 (i := 18) (v := .bool s9.d) e18; go_simp⟩) hS ?_
                  try simp only [Act.put, List.setIfInBounds_toArray, List.set_cons_zero, List.set_cons_succ]
                  refine wpAnyH_ready (rs := [6]) (by kernel_rfl) (by simp) ?_
                  refine AllReadyH.cons (o := { dst := some 112, op := Op.call { callee := Callee.value (Operand.func 15), args := #[Operand.tmp 111], argTypes := #[38] }, type := 4, pos := "law.go:71", after := #[{ on := 5, ground := Ground.data }, { on := 4, ground := Ground.chain }, { on := 4, ground := Ground.guard }], guard := some (4, false) }) rfl (fun K hK => ?_) AllReadyH.nil
                  rw [if_pos (by rfl)]
                  refine wp_calls 15 #[.pointer (some ⟨b, 0, none⟩)] (by kernel_rfl) (fun v V => v = .bool s9.d ∧ Kept [] y2 V) ((HDN.out _ j2).mono fun e w' hh => ⟨_, hh.1, rfl, hh.2⟩) ?_
                  rintro _ y6 ⟨rfl, J6⟩
                  have j6 := j2.trans J6
                  try simp only [Act.put, List.setIfInBounds_toArray, List.set_cons_zero, List.set_cons_succ]
                  refine hK.out _ _ (SS.out _ j6) (fun hS => ?_)
                  clear hK K
                  refine wpAnyH_take (i := 9) (oi := { dst := some 115, op := Op.binOp BinOp.neq 4 (Operand.tmp 112) (Operand.tmp 114) 4, type := 4, pos := "law.go:71", after := #[{ on := 6, ground := Ground.data }, { on := 8, ground := Ground.data }, { on := 4, ground := Ground.guard }], guard := some (4, false) }) (v := Value.bool false) rfl (by kernel_rfl) (by kernel_rfl) (by kernel_rfl) (fun _ _ _ h => h) (Or.inl ⟨rfl, fun _ _ => by go_simp⟩) hS ?_
                  try simp only [Act.put, List.setIfInBounds_toArray, List.set_cons_zero, List.set_cons_succ]
                  refine wpAnyH_take (i := 10) (oi := { dst := some 116, op := Op.pick (Operand.tmp 110) (Operand.const (Value.bool true)) (Operand.tmp 115), type := 4, pos := "law.go:71", after := #[{ on := 4, ground := Ground.data }, { on := 9, ground := Ground.data }], guard := none }) (v := Value.bool false) rfl (by kernel_rfl) (by kernel_rfl) (by kernel_rfl) (fun _ _ _ h => h) (Or.inl ⟨rfl, fun _ _ => by kernel_rfl⟩) hS ?_
                  try simp only [Act.put, List.setIfInBounds_toArray, List.set_cons_zero, List.set_cons_succ]
                  refine wpAnyH_take (i := 11) (oi := { dst := some 117, op := Op.move (Operand.tmp 116), type := 4, pos := "law.go:71", after := #[{ on := 10, ground := Ground.data }, { on := 6, ground := Ground.chain }], guard := none }) (v := Value.bool false) rfl (by kernel_rfl) (by kernel_rfl) (by kernel_rfl) (fun _ _ _ h => h) (Or.inl ⟨rfl, fun _ _ => by kernel_rfl⟩) hS ?_
                  try simp only [Act.put, List.setIfInBounds_toArray, List.set_cons_zero, List.set_cons_succ]
                  refine wpAnyH_take (i := 12) (oi := { dst := some 118, op := Op.load 56 (Operand.tmp 15), type := 56, pos := "law.go:71", after := #[{ on := 11, ground := Ground.guard }], guard := some (11, false) }) (v := Value.agg #[.int .u64 EH, .int .u64 EB, .int .u64 EE]) rfl (by kernel_rfl) (by kernel_rfl) (by kernel_rfl) (fun _ _ _ h => h) (yieldsIf_load_rw rfl 56 isT_en (.tmp 15) rfl x15 rfl #[.int .u64 EH, .int .u64 EB, .int .u64 EE] rfl (fun _ h => h.2.2.1)) hS ?_
                  try simp only [Act.put, List.setIfInBounds_toArray, List.set_cons_zero, List.set_cons_succ]
                  refine wpAnyH_take (i := 13) (oi := { dst := some 119, op := Op.load 46 (Operand.tmp 17), type := 46, pos := "law.go:71", after := #[{ on := 11, ground := Ground.guard }], guard := some (11, false) }) (v := Value.agg #[.int .u64 EH, .int .u64 EB, .int .u64 EE]) rfl (by kernel_rfl) (by kernel_rfl) (by kernel_rfl) (fun _ _ _ h => h) (yieldsIf_load_rw rfl 46 isT_en6 (.tmp 17) rfl x17 rfl #[.int .u64 EH, .int .u64 EB, .int .u64 EE] rfl (fun _ h => h.2.2.2)) hS ?_
                  try simp only [Act.put, List.setIfInBounds_toArray, List.set_cons_zero, List.set_cons_succ]
                  refine wpAnyH_take (i := 14) (oi := { dst := some 120, op := Op.binOp BinOp.neq 46 (Operand.tmp 118) (Operand.tmp 119) 46, type := 4, pos := "law.go:71", after := #[{ on := 12, ground := Ground.data }, { on := 13, ground := Ground.data }, { on := 11, ground := Ground.guard }], guard := some (11, false) }) (v := Value.bool false) rfl (by kernel_rfl) (by kernel_rfl) (by kernel_rfl) (fun _ _ _ h => h) (Or.inl ⟨rfl, fun w hSw => by have z := HEQ.out w; go_simp⟩) hS ?_
                  try simp only [Act.put, List.setIfInBounds_toArray, List.set_cons_zero, List.set_cons_succ]
                  refine wpAnyH_take (i := 15) (oi := { dst := some 121, op := Op.pick (Operand.tmp 117) (Operand.const (Value.bool true)) (Operand.tmp 120), type := 4, pos := "law.go:71", after := #[{ on := 11, ground := Ground.data }, { on := 14, ground := Ground.data }], guard := none }) (v := Value.bool false) rfl (by kernel_rfl) (by kernel_rfl) (by kernel_rfl) (fun _ _ _ h => h) (Or.inl ⟨rfl, fun _ _ => by kernel_rfl⟩) hS ?_
                  try simp only [Act.put, List.setIfInBounds_toArray, List.set_cons_zero, List.set_cons_succ]
                  refine wpAnyH_take (i := 16) (oi := { dst := some 122, op := Op.move (Operand.tmp 121), type := 4, pos := "law.go:71", after := #[{ on := 15, ground := Ground.data }, { on := 11, ground := Ground.chain }], guard := none }) (v := Value.bool false) rfl (by kernel_rfl) (by kernel_rfl) (by kernel_rfl) (fun _ _ _ h => h) (Or.inl ⟨rfl, fun _ _ => by kernel_rfl⟩) hS ?_
                  try simp only [Act.put, List.setIfInBounds_toArray, List.set_cons_zero, List.set_cons_succ]
                  refine wpAnyH_take (i := 17) (oi := { dst := some 123, op := Op.move (Operand.tmp 16), type := 4, pos := "law.go:71", after := #[{ on := 16, ground := Ground.guard }], guard := some (16, false) }) (v := Value.bool TD) rfl (by kernel_rfl) (by kernel_rfl) (by kernel_rfl) (fun _ _ _ h => h) (Or.inl ⟨rfl, fun _ _ => by kernel_rfl⟩) hS ?_
                  try simp only [Act.put, List.setIfInBounds_toArray, List.set_cons_zero, List.set_cons_succ]
                  refine wpAnyH_take (i := 18) (oi := { dst := some 124, op := Op.move (Operand.tmp 18), type := 4, pos := "law.go:71", after := #[{ on := 16, ground := Ground.guard }], guard := some (16, false) }) (v := Value.bool TD) rfl (by kernel_rfl) (by kernel_rfl) (by kernel_rfl) (fun _ _ _ h => h) (Or.inl ⟨rfl, fun _ _ => by kernel_rfl⟩) hS ?_
                  try simp only [Act.put, List.setIfInBounds_toArray, List.set_cons_zero, List.set_cons_succ]
                  refine wpAnyH_take (i := 19) (oi := { dst := some 125, op := Op.binOp BinOp.neq 4 (Operand.tmp 123) (Operand.tmp 124) 4, type := 4, pos := "law.go:71", after := #[{ on := 17, ground := Ground.data }, { on := 18, ground := Ground.data }, { on := 16, ground := Ground.guard }], guard := some (16, false) }) (v := Value.bool false) rfl (by kernel_rfl) (by kernel_rfl) (by kernel_rfl) (fun _ _ _ h => h) (Or.inl ⟨rfl, fun _ _ => by go_simp⟩) hS ?_
                  try simp only [Act.put, List.setIfInBounds_toArray, List.set_cons_zero, List.set_cons_succ]
                  refine wpAnyH_take (i := 20) (oi := { dst := some 126, op := Op.pick (Operand.tmp 122) (Operand.const (Value.bool true)) (Operand.tmp 125), type := 4, pos := "law.go:71", after := #[{ on := 16, ground := Ground.data }, { on := 19, ground := Ground.data }], guard := none }) (v := Value.bool false) rfl (by kernel_rfl) (by kernel_rfl) (by kernel_rfl) (fun _ _ _ h => h) (Or.inl ⟨rfl, fun _ _ => by kernel_rfl⟩) hS ?_
                  try simp only [Act.put, List.setIfInBounds_toArray, List.set_cons_zero, List.set_cons_succ]
                  refine wpAnyH_done (by kernel_rfl) ?_ _
                  have nouse := hS
                  clear nouse hS SS HSM HDN HEQ
                  have ZZ := hidOf (HZ4.out.new j6)
                  go_wp2
                  go_roundw
                  case rel => exact ⟨j + 1, by omega, by go_num, g9, s9, y9, g3, c3, X9, ZZ.out, HOK2.out, HN2.out⟩
                  case measure => simp [intOf]; omega
                · have hJn : ¬ (j : Int) < (J : Int) := by omega
                  have AL := hidOf (alive_any wr HZ.out.fw.fw.st.tb)
                  go_wp2_with fail
                  refine AL.out.mono ?_
                  rintro e WA ⟨rfl, KA⟩
                  go_wp2
                  go_ret
                  exact ⟨rfl, HX.out.2.2.trans (HZ.out.fw.fw.kp.trans KA)⟩
  · have OF := hidOf (kof_no c ao n cap W hN)
    clear hN
    go_wp2_with (first | ((with_reducible change wpList _ _ _ (Oper.mk _ (Op.load 23 (Operand.tmp 3)) _ _ _ _ :: _) _ _); refine wpList_load_rw 23 isT_cf rfl (.tmp 3) rfl q rfl #[.int .i64 c.t, .int .i64 c.s, .int .i64 c.c, .int .i64 c.h, .int .i64 c.k, .int .i64 c.e, .int .i64 c.l] rfl HX.out.1 ?_))
    refine OF.out.mono ?_
    rintro e w1 ⟨rfl, K1⟩
    have HK1 := hidOf K1
    clear K1 OF
    go_upto_region 2 with (first | ((with_reducible change wpList _ _ _ (Oper.mk _ (Op.store 35 (Operand.tmp 8) _) _ _ _ _ :: _) _ _); refine wpList_store_rw 35 isT_rm rfl (.tmp 8) (.tmp 24) rfl w1.heap.size rmZ rfl rfl rfl rmZ_one rmZ (RW.new 35 w1 rmZ) rfl ?_))
    refine gen_world (fun V => Kept [] w1 V) (((Kept.refl [] w1).alloc _).setRow (Or.inr (Nat.le_refl _)) _) ?_
    rintro V KV
    have HY := hidOf (And.intro True.intro (HK1.out.trans KV))
    clear KV HK1
    have SX : Hid (∀ Y : World, Kept [] V Y → Y.cell? ⟨q + 1, 0, none⟩ = some (.int .u64 hh) ∧ Y.cell? ⟨q + 1, 1, none⟩ = some (.int .u64 k) ∧ Y.cell? ⟨q + 1, 2, none⟩ = some (.int .i64 t)) := hidOf (fun Y kk => by
      have z := HX.out.2.1.kept (HY.out.2.trans kk) (by simp)
      exact ⟨cell_of_blk z (i := 0) rfl, cell_of_blk z (i := 1) rfl, cell_of_blk z (i := 2) rfl⟩)
    have FNW : Hid (∀ Y : World, Kept [] V Y → Calls Tryz.prog 5 #[.int .u64 hh, .int .u64 k] Y fun e w' => ∃ b fb, e = .returned (.pointer (some ⟨b, 0, none⟩)) ∧ (V.heap.size ≤ b ∧ V.heap.size ≤ fb) ∧ (RtB w' b fb (K.ffV 23 b) false (plainV hh) 0 0 ∧ FB w' fb (K.ffV 46 fb) k 0 0 0 0 0 none 0 0) ∧ Kept [] V w' ∧ Kept [] Y w') := hidOf (fun Y kk => (rtnew_any hh k Y (HT.out.kept (HX.out.2.2.trans (HY.out.2.trans kk))) HHK.out.1.1 HHK.out.1.2).mono fun e w' x => by
      obtain ⟨b, fb, e1, e2, e3, e4, e5, e6⟩ := x
      exact ⟨b, fb, e1, ⟨Nat.le_trans kk.size e2, Nat.le_trans kk.size e3⟩, ⟨e4, e5⟩, kk.trans e6, e6⟩)
    have GNW : Hid (∀ Y : World, Kept [] V Y → Calls Tryz.prog 6 #[.int .i64 t] Y fun e w' => ∃ gb, e = .returned (.pointer (some ⟨gb, 0, none⟩)) ∧ V.heap.size ≤ gb ∧ GB w' gb ⟨0, 0, t⟩ ∧ Kept [] V w' ∧ Kept [] Y w') := hidOf (fun Y kk => (gnew_any t Y).mono fun e w' x => by
      obtain ⟨gb, e1, e2, e3, e4⟩ := x
      exact ⟨gb, e1, Nat.le_trans kk.size e2, e3, kk.trans e4, e4⟩)
    go_cut [10, 11] from 10 to 33 (fun s10 s11 W3 => ∃ b fb gb, s10 = .pointer (some ⟨b, 0, none⟩) ∧ s11 = .pointer (some ⟨gb, 0, none⟩) ∧ (V.heap.size ≤ b ∧ V.heap.size ≤ fb) ∧ V.heap.size ≤ gb ∧ (RtB W3 b fb (K.ffV 23 b) false (plainV hh) 0 0 ∧ FB W3 fb (K.ffV 46 fb) k 0 0 0 0 0 none 0 0) ∧ GB W3 gb ⟨0, 0, t⟩ ∧ Kept [] V W3)
    case first =>
      go_region_held3 (fun Y => Y.cell? ⟨q + 1, 0, none⟩ = some (.int .u64 hh) ∧ Y.cell? ⟨q + 1, 1, none⟩ = some (.int .u64 k) ∧ Y.cell? ⟨q + 1, 2, none⟩ = some (.int .i64 t))
        (exact SX.out _ (by first | assumption | exact (Kept.refl _ _).drew))
        (first | (go_at_call 5; with_reducible refine (FNW.out _ (by first | assumption | exact (Kept.refl _ _).drew)).mono ?_; rintro e w2 ⟨b, fb, rfl, hfb, F2, KV2, K2⟩) | (go_at_call 6; with_reducible refine (GNW.out _ (by first | assumption | exact (Kept.refl _ _).drew)).mono ?_; rintro e w3 ⟨gb, rfl, hgb, G2, KV3, K3⟩))
      all_goals
        go_wp2
        go_meet
        case rel => first | exact ⟨b, fb, gb, rfl, rfl, hfb, hgb, ⟨F2.1.kept K3 (by simp), F2.2.kept K3 (by simp)⟩, G2, KV3⟩ | exact ⟨b, fb, gb, rfl, rfl, hfb, hgb, F2, G2.kept K2 (by simp), KV2⟩
    case rest =>
      obtain ⟨b, fb, gb, rfl, rfl, hfb, hgb, F, G, K3⟩ := hcut
      have HKK := hidOf (HX.out.2.2.trans (HY.out.2.trans K3))
      clear F G hfb hgb SX FNW GNW HY K3
      have AL := hidOf (alive_any wc (HT.out.kept HKK.out))
      go_wp2_with fail
      refine AL.out.mono ?_
      rintro e WA ⟨rfl, KA⟩
      go_wp2
      go_ret
      exact ⟨rfl, HKK.out.trans KA⟩

set_option maxRecDepth 100000 in
theorem retireSteps_lifted (os : Os) (started : os.Started) (H : Type) (enc : TypeId × Value → H) :
    ReturnsInHanded {} Tryz.checked os 3 .any (fun w args => (Rows.retireStepsSpec.pre enc Tryz.prog Tryz.f3 [] false w args ∧ laidMetH Tryz.prog laid1 w) ∧ sizedMet enc Tryz.prog Tryz.f3 (OpenSpec.ofChange Rows.retireStepsSpec) false w args)
      (Rows.retireStepsSpec.post enc Tryz.prog Tryz.f3 false true false false) := by
  refine returnsInHanded_of_change_and (C := Tryz.checked) (X := fun w _ => laidMetH Tryz.prog laid1 w) (fun _ _ _ hh h => h.of_heap hh) own started (by kernel_rfl) Tryz.func3
    (ChangeSpec.witness_shaped (enc := enc) (C := Tryz.checked) (os := os) (X := fun w _ => laidMetH Tryz.prog laid1 w) false (World.doorLaid Tryz.prog 400 os) #[.agg #[.int .i64 0, .int .i64 0, .int .i64 0, .int .i64 0, .int .i64 0, .int .i64 0, .int .i64 0], .slice none 0 0, .agg #[.int .u64 0, .int .u64 0, .int .i64 0, .int .i64 0, .slice none 0 0]] 8 rfl (World.shaped_of_RefB (by kernel_rfl) (by kernel_rfl)) (by kernel_rfl) (by kernel_rfl) (by kernel_rfl) (door_met os _)) ?_
  intro W base args ds gs before hval0 hW _ _ hL _
  have hval : ∀ (j : Nat) t v, Tryz.f3.params[j]? = some t → args[j]? = some v → Value.okWide Tryz.prog W .any base t v := hval0
  have hW' := hW
  obtain ⟨p, q, hA0, hV, rfl, _, _⟩ := hW
  have hA : DataW.TrodAll enc Tryz.prog W 0 (fun _ => true) true Tryz.f3.params.toList args.toList ds p := hA0
  rw [Tryz.params3] at hA hval
  clear hA0 hval0
  obtain ⟨v0, vs0, d0, ds0, p0, q0, hargs, rfl, rfl, h0, r0⟩ := trodAll_cons hA
  obtain ⟨v1, vs1, d1, ds1, p1, q1, rfl, rfl, rfl, h1, r1⟩ := trodAll_cons r0
  obtain ⟨v2, vs2, d2, ds2, p2, q2, rfl, rfl, rfl, h2, r2⟩ := trodAll_cons r1
  obtain ⟨rfl, rfl, rfl⟩ := trodAll_nil r2
  obtain rfl : args = #[v0, v1, v2] := by cases args; simp_all
  obtain ⟨rfl, rfl⟩ := trodVars_none hV
  have k0 := h0
  have k1 := h1
  have k2 := h2
  simp only [List.append_nil] at hW'
  have hlt0 : ∀ x ∈ p0, x.block < W.heap.size := fun x hx => hW'.lt x (by simp [hx])
  have hlt1 : ∀ x ∈ p1, x.block < W.heap.size := fun x hx => hW'.lt x (by simp [hx])
  have hlt2 : ∀ x ∈ p2, x.block < W.heap.size := fun x hx => hW'.lt x (by simp [hx])
  obtain ⟨c0, rfl, g0⟩ := open_cfg (hval 0 23 v0 rfl rfl) h0
  obtain ⟨ao1, cap1, xs1, rfl, s1, g1, z1, n1⟩ := open_words (hval 1 24 v1 rfl rfl) h1
  obtain ⟨hh2, kk2, tt2, st2, po2, pc2, ps2, rfl, wh2, wk2, u2, v2⟩ := open_play14 (hval 2 28 v2 rfl rfl) h2
  refine (retireSteps_walk W c0 g0 ao1 xs1 cap1 s1 g1 n1 hh2 kk2 tt2 st2 po2 pc2 ps2 wh2 wk2 u2 v2 (tab_of_laid hL)).mono fun e W' ⟨he, hg⟩ => ?_
  subst he
  have hb := hg.below (by simp)
  exact ⟨_, rfl, _, _, _, [], _, [], hW', (trodAll_cons_mk (shut_bool Tryz.underlying4 _) trodAll_mk0), (trodAll_cons_mk (Below.trod laidOut (by kernel_rfl) (of_decide_eq_true (by kernel_rfl)) k0 hb hlt0) (trodAll_cons_mk (Below.trod laidOut (by kernel_rfl) (of_decide_eq_true (by kernel_rfl)) k1 hb hlt1) (trodAll_cons_mk (Below.trod laidOut (by kernel_rfl) (of_decide_eq_true (by kernel_rfl)) k2 hb hlt2) trodAll_mk0))), rfl, hb.frame _, fun h => by cases h⟩

theorem retireSteps_over : Rows.RetireStepsSaid :=
  OpenClaim.holds_of_wide 3 Tryz.f3 rfl rfl rfl rfl rfl rfl rfl ⟨rfl, rfl, rfl, rfl, rfl⟩ rfl rfl rfl rfl rfl (by kernel_rfl) Tryz.func3 (by kernel_rfl)
    (of_decide_eq_true (by kernel_rfl)) (by unfold Func.isWrapper; first | (rw [if_pos (by decide +kernel)]; kernel_rfl) | (rw [if_neg (by decide +kernel)]; exact ⟨rfl, rfl⟩))
    (fun os started H enc _ => retireSteps_lifted os started H enc)

theorem retireSteps_holds : Rows.RetireStepsCardSaid :=
  Claim7.holds_tied_plain_at .later [] [.data] true (true, "90e0bf2d49eb816682fc9abb9962e801d5eaf8a7585c30a12c576ffbe2b868c5") false
    retireSteps_over (fun _ h => by cases h) (by kernel_rfl) (fun _ h => by cases h) retireSteps_row_tie rfl ⟨rfl, rfl⟩ (by kernel_rfl) rfl
    (fun f fn hf hfn => by
      obtain rfl : f = 3 := Option.some.inj ((show Tryz.prog.funcNamed "stepstone/stepstonelaw14.RetireSteps" = some 3 by kernel_rfl).symm.trans hf) |>.symm
      obtain rfl : fn = Tryz.f3 := (Option.some.inj (Tryz.func3.symm.trans hfn)).symm
      exact ⟨by kernel_rfl, fun j t ht => by
          rw [Tryz.params3] at ht
          rcases j with _ | j
          · have : t = 23 := by simpa using ht.symm
            subst this; exact (show Tryz.prog.wantsStandIn 23 = false by kernel_rfl)
          rcases j with _ | j
          · have : t = 24 := by simpa using ht.symm
            subst this; exact (show Tryz.prog.wantsStandIn 24 = false by kernel_rfl)
          rcases j with _ | j
          · have : t = 28 := by simpa using ht.symm
            subst this; exact (show Tryz.prog.wantsStandIn 28 = false by kernel_rfl)
          simp at ht⟩)
    (by kernel_rfl)
#print axioms retireSteps_holds
end Go.Proofs.YtgafmklfpiipcaaGreatDoor
