/-
  The law's question which node a handle names.
-/
import Derived.Test.YtgnkgkbjjeipbaaDoorFSame
namespace Go.Proofs.YtgnkgkbjjeipbaaDoor
open Go.RowKit (Grown Hid Below)
open Go.Deep
namespace K
set_option maxRecDepth 100000
def nnZ : Array Value := #[.int .u64 0, .int .u64 0, .int .i64 0, .int .i64 0, .bool false]
set_option maxHeartbeats 4000000 in
theorem at_yes (ns : List Nn) (ao : Option Addr) (n cap j : Nat) (h : Int) (w : World) (hT : Tab w) (hs : SlOf 5 nnL w ao ns) (hn : n = ns.length) (h64 : n ≤ 64) (hw : isW h) (hv : vlB h = true) (hi : ixV h = (j : Int) + 1) (hj : j < n) :
    Calls Tryd.prog 13 #[.slice ao n cap, .int .u64 h] w fun e w' => e = .returned (.tuple #[.agg #[.int .u64 (ns.getD j nn0).k, .int .u64 (ns.getD j nn0).v, .int .i64 (ns.getD j nn0).t, .int .i64 (ns.getD j nn0).m, .bool (ns.getD j nn0).d], .bool true]) ∧ Kept [] w w' := by
  obtain ⟨x, hx⟩ : ∃ x, x = ns.getD j nn0 := ⟨_, rfl⟩
  rw [← hx]
  have HXE := hidOf hx
  clear hx
  have K0 : Kept [] w (w.alloc (.cells nnZ 34)) := (Kept.refl [] w).alloc _
  have IX := hidOf (fun (Y : World) (T : Tab Y) => index_is hi Y T hw.1 hw.2)
  have VL : Hid (∀ Y : World, Tab Y → Calls Tryd.prog 32 #[.int .u64 h] Y fun e w' => e = .returned (.bool true) ∧ Kept [] Y w') := hidOf (fun Y T => hv ▸ valid_any h Y T hw.1 hw.2)
  have HS := hidOf hs
  have HNN := hidOf hn
  have HT := hidOf (hT.kept K0)
  have B0 := hidOf (show RW 34 (w.alloc (.cells nnZ 34)) w.heap.size nnZ ∧ Kept [] w (w.alloc (.cells nnZ 34)) from ⟨RW.new _ _ _, K0⟩)
  obtain ⟨qb, hqb⟩ : ∃ qb, qb = w.heap.size := ⟨_, rfl⟩
  have e1 : (j : Int) + 1 - 1 = j := by omega
  have hjz : (j : Int) < n := by omega
  have j64 : (j : Int) ≤ 64 := by omega
  clear hs hn hT K0 hv hi hw
  go_enter Tryd.func13, Tryd.ntmps13
  go_upto_region 1 with (fail)
  rw [← hqb] at B0 ⊢
  refine gen_world (fun W => RW 34 W qb nnZ ∧ Kept [] w W ∧ Tab W) ⟨B0.out.1, B0.out.2, HT.out⟩ ?_
  have hq1 : w.heap.size ≤ qb := by omega
  clear B0 HT hqb
  rintro W ⟨C0, K0, T0⟩
  have HX := hidOf (And.intro C0 (And.intro K0 T0))
  clear C0 K0 T0
  go_wp2_with fail
  refine (IX.out W HX.out.2.2).mono ?_
  rintro e w1 ⟨rfl, K1⟩
  have HX1 := hidOf (And.intro (HX.out.1.kept K1 (by simp)) (And.intro (HX.out.2.1.trans K1) (HX.out.2.2.kept K1)))
  clear K1 HX IX
  go_wp2_with fail
  refine (VL.out w1 HX1.out.2.2).mono ?_
  rintro e w2 ⟨rfl, K2⟩
  have HX2 := hidOf (And.intro (HX1.out.1.kept K2 (by simp)) (HX1.out.2.1.trans K2))
  obtain ⟨b1, o1, e2, l1, s0, s1, s2, s3, s4⟩ := nn_row (HS.out.new HX2.out.2) (k := j) (by rw [← HNN.out]; exact hj)
  rw [← HXE.out] at s0 s1 s2 s3 s4
  have z0 := cell_of_blk HX2.out.1 (i := 0) (v := .int .u64 0) rfl
  have z1 := cell_of_blk HX2.out.1 (i := 1) (v := .int .u64 0) rfl
  have z2 := cell_of_blk HX2.out.1 (i := 2) (v := .int .i64 0) rfl
  have z3 := cell_of_blk HX2.out.1 (i := 3) (v := .int .i64 0) rfl
  have z4 := cell_of_blk HX2.out.1 (i := 4) (v := .bool false) rfl
  have zf := free_of_blk HX2.out.1
  have zl := lt_of_blk HX2.out.1
  rw [e2]
  clear K2 HX1 VL
  go_wp2
  have R5 : RW 34 (((((w2.setCell ⟨qb, 0, none⟩ (.int .u64 x.k)).setCell ⟨qb, 1, none⟩ (.int .u64 x.v)).setCell ⟨qb, 2, none⟩ (.int .i64 x.t)).setCell ⟨qb, 3, none⟩ (.int .i64 x.m)).setCell ⟨qb, 4, none⟩ (.bool x.d)) qb #[.int .u64 x.k, .int .u64 x.v, .int .i64 x.t, .int .i64 x.m, .bool x.d] := by
    have z := blk_set (blk_set (blk_set (blk_set (blk_set HX2.out.1 0 (.int .u64 x.k)) 1 (.int .u64 x.v)) 2 (.int .i64 x.t)) 3 (.int .i64 x.m)) 4 (.bool x.d)
    simpa [RW, nnZ] using z
  have ks : Kept [] w (((((w2.setCell ⟨qb, 0, none⟩ (.int .u64 x.k)).setCell ⟨qb, 1, none⟩ (.int .u64 x.v)).setCell ⟨qb, 2, none⟩ (.int .i64 x.t)).setCell ⟨qb, 3, none⟩ (.int .i64 x.m)).setCell ⟨qb, 4, none⟩ (.bool x.d)) := ((((HX2.out.2.setCell (Or.inr hq1) _).setCell (Or.inr hq1) _).setCell (Or.inr hq1) _).setCell (Or.inr hq1) _).setCell (Or.inr hq1) _
  have y0 := cell_of_blk R5 (i := 0) (v := .int .u64 x.k) rfl
  have y1 := cell_of_blk R5 (i := 1) (v := .int .u64 x.v) rfl
  have y2 := cell_of_blk R5 (i := 2) (v := .int .i64 x.t) rfl
  have y3 := cell_of_blk R5 (i := 3) (v := .int .i64 x.m) rfl
  have y4 := cell_of_blk R5 (i := 4) (v := .bool x.d) rfl
  generalize (((((w2.setCell ⟨qb, 0, none⟩ (.int .u64 x.k)).setCell ⟨qb, 1, none⟩ (.int .u64 x.v)).setCell ⟨qb, 2, none⟩ (.int .i64 x.t)).setCell ⟨qb, 3, none⟩ (.int .i64 x.m)).setCell ⟨qb, 4, none⟩ (.bool x.d)) = WF at y0 y1 y2 y3 y4 ks ⊢
  exact bodyPost_ret (v := .tuple #[.agg #[.int .u64 x.k, .int .u64 x.v, .int .i64 x.t, .int .i64 x.m, .bool x.d], .bool true]) (by simp [results, Tryd.results13, go_sem, y0, y1, y2, y3, y4]) rfl ⟨rfl, ks⟩
set_option maxHeartbeats 4000000 in
theorem at_no (ao : Option Addr) (n cap : Nat) (h : Int) (w : World) (hT : Tab w) (hw : isW h) (hv : vlB h = false ∨ (vlB h = true ∧ ixV h = 0)) :
    Calls Tryd.prog 13 #[.slice ao n cap, .int .u64 h] w fun e w' => e = .returned (.tuple #[.agg #[.int .u64 0, .int .u64 0, .int .i64 0, .int .i64 0, .bool false], .bool false]) ∧ Kept [] w w' := by
  have K0 : Kept [] w (w.alloc (.cells nnZ 34)) := (Kept.refl [] w).alloc _
  have ib : 0 ≤ ixV h ∧ ixV h < 4294967296 := by unfold ixV; omega
  obtain ⟨I, hI⟩ : ∃ I, ixV h = I := ⟨_, rfl⟩
  obtain ⟨V, hV⟩ : ∃ V, vlB h = V := ⟨_, rfl⟩
  have IX := hidOf (fun (Y : World) (T : Tab Y) => index_is hI Y T hw.1 hw.2)
  have VL : Hid (∀ Y : World, Tab Y → Calls Tryd.prog 32 #[.int .u64 h] Y fun e w' => e = .returned (.bool V) ∧ Kept [] Y w') := hidOf (fun Y T => hV ▸ valid_any h Y T hw.1 hw.2)
  rw [hI] at ib hv
  rw [hV] at hv
  have HT := hidOf (hT.kept K0)
  have B0 := hidOf (show RW 34 (w.alloc (.cells nnZ 34)) w.heap.size nnZ ∧ Kept [] w (w.alloc (.cells nnZ 34)) from ⟨RW.new _ _ _, K0⟩)
  obtain ⟨qb, hqb⟩ : ∃ qb, qb = w.heap.size := ⟨_, rfl⟩
  have HV := hidOf hv
  have i0 := ib.1
  have i1 := ib.2
  clear hT K0 hv hw hI hV ib
  go_enter Tryd.func13, Tryd.ntmps13
  go_upto_region 1 with (fail)
  rw [← hqb] at B0 ⊢
  refine gen_world (fun W => RW 34 W qb nnZ ∧ Kept [] w W ∧ Tab W) ⟨B0.out.1, B0.out.2, HT.out⟩ ?_
  have hq1 : w.heap.size ≤ qb := by omega
  clear B0 HT hqb
  rintro W ⟨C0, K0, T0⟩
  have HX := hidOf (And.intro C0 (And.intro K0 T0))
  clear C0 K0 T0
  go_wp2_with fail
  refine (IX.out W HX.out.2.2).mono ?_
  rintro e w1 ⟨rfl, K1⟩
  have HX1 := hidOf (And.intro (HX.out.1.kept K1 (by simp)) (And.intro (HX.out.2.1.trans K1) (HX.out.2.2.kept K1)))
  clear K1 HX IX
  go_wp2_with fail
  refine (VL.out w1 HX1.out.2.2).mono ?_
  rintro e w2 ⟨rfl, K2⟩
  have HX2 := hidOf (And.intro (HX1.out.1.kept K2 (by simp)) (HX1.out.2.1.trans K2))
  have z0 := cell_of_blk HX2.out.1 (i := 0) (v := .int .u64 0) rfl
  have z1 := cell_of_blk HX2.out.1 (i := 1) (v := .int .u64 0) rfl
  have z2 := cell_of_blk HX2.out.1 (i := 2) (v := .int .i64 0) rfl
  have z3 := cell_of_blk HX2.out.1 (i := 3) (v := .int .i64 0) rfl
  have z4 := cell_of_blk HX2.out.1 (i := 4) (v := .bool false) rfl
  have zf := free_of_blk HX2.out.1
  have zl := lt_of_blk HX2.out.1
  clear K2 HX1 VL
  have R5 : RW 34 (((((w2.setCell ⟨qb, 0, none⟩ (.int .u64 0)).setCell ⟨qb, 1, none⟩ (.int .u64 0)).setCell ⟨qb, 2, none⟩ (.int .i64 0)).setCell ⟨qb, 3, none⟩ (.int .i64 0)).setCell ⟨qb, 4, none⟩ (.bool false)) qb #[.int .u64 0, .int .u64 0, .int .i64 0, .int .i64 0, .bool false] := by
    have z := blk_set (blk_set (blk_set (blk_set (blk_set HX2.out.1 0 (.int .u64 0)) 1 (.int .u64 0)) 2 (.int .i64 0)) 3 (.int .i64 0)) 4 (.bool false)
    simpa [RW, nnZ] using z
  have ks : Kept [] w (((((w2.setCell ⟨qb, 0, none⟩ (.int .u64 0)).setCell ⟨qb, 1, none⟩ (.int .u64 0)).setCell ⟨qb, 2, none⟩ (.int .i64 0)).setCell ⟨qb, 3, none⟩ (.int .i64 0)).setCell ⟨qb, 4, none⟩ (.bool false)) := ((((HX2.out.2.setCell (Or.inr hq1) _).setCell (Or.inr hq1) _).setCell (Or.inr hq1) _).setCell (Or.inr hq1) _).setCell (Or.inr hq1) _
  have HY := hidOf (And.intro R5 ks)
  clear R5 ks
  have FIN := hidOf (show ∀ WF, WF = (((((w2.setCell ⟨qb, 0, none⟩ (.int .u64 0)).setCell ⟨qb, 1, none⟩ (.int .u64 0)).setCell ⟨qb, 2, none⟩ (.int .i64 0)).setCell ⟨qb, 3, none⟩ (.int .i64 0)).setCell ⟨qb, 4, none⟩ (.bool false)) → RW 34 WF qb #[.int .u64 0, .int .u64 0, .int .i64 0, .int .i64 0, .bool false] ∧ Kept [] w WF from fun WF e => by subst e; exact HY.out)
  cases V with
  | false =>
    go_wp2
    generalize hWF : (((((w2.setCell ⟨qb, 0, none⟩ (.int .u64 0)).setCell ⟨qb, 1, none⟩ (.int .u64 0)).setCell ⟨qb, 2, none⟩ (.int .i64 0)).setCell ⟨qb, 3, none⟩ (.int .i64 0)).setCell ⟨qb, 4, none⟩ (.bool false)) = WF
    obtain ⟨R5, ks⟩ := FIN.out WF hWF.symm
    have y0 := cell_of_blk R5 (i := 0) (v := .int .u64 0) rfl
    have y1 := cell_of_blk R5 (i := 1) (v := .int .u64 0) rfl
    have y2 := cell_of_blk R5 (i := 2) (v := .int .i64 0) rfl
    have y3 := cell_of_blk R5 (i := 3) (v := .int .i64 0) rfl
    have y4 := cell_of_blk R5 (i := 4) (v := .bool false) rfl
    exact bodyPost_ret (v := .tuple #[.agg #[.int .u64 0, .int .u64 0, .int .i64 0, .int .i64 0, .bool false], .bool false]) (by simp [results, Tryd.results13, go_sem, y0, y1, y2, y3, y4]) rfl ⟨rfl, ks⟩
  | true =>
    have hI0 : I = 0 := by rcases HV.out with z | z; cases z; exact z.2
    have hneg : I - 1 < 0 := by omega
    clear HV
    go_wp2
    generalize hWF : (((((w2.setCell ⟨qb, 0, none⟩ (.int .u64 0)).setCell ⟨qb, 1, none⟩ (.int .u64 0)).setCell ⟨qb, 2, none⟩ (.int .i64 0)).setCell ⟨qb, 3, none⟩ (.int .i64 0)).setCell ⟨qb, 4, none⟩ (.bool false)) = WF
    obtain ⟨R5, ks⟩ := FIN.out WF hWF.symm
    have y0 := cell_of_blk R5 (i := 0) (v := .int .u64 0) rfl
    have y1 := cell_of_blk R5 (i := 1) (v := .int .u64 0) rfl
    have y2 := cell_of_blk R5 (i := 2) (v := .int .i64 0) rfl
    have y3 := cell_of_blk R5 (i := 3) (v := .int .i64 0) rfl
    have y4 := cell_of_blk R5 (i := 4) (v := .bool false) rfl
    exact bodyPost_ret (v := .tuple #[.agg #[.int .u64 0, .int .u64 0, .int .i64 0, .int .i64 0, .bool false], .bool false]) (by simp [results, Tryd.results13, go_sem, y0, y1, y2, y3, y4]) rfl ⟨rfl, ks⟩
/-- What a handle that was noted names: a node, or none. -/
theorem at_any (ns : List Nn) (ao : Option Addr) (n cap j : Nat) (h : Int) (hs0 : n = ns.length) (h64 : n ≤ 64) (hw : isW h) (hj : (1 ≤ j ∧ j ≤ n ∧ vlB h = true ∧ ixV h = j) ∨ (¬ (1 ≤ j ∧ j ≤ n) ∧ (vlB h = false ∨ (vlB h = true ∧ ixV h = 0)))) :
    ∃ (x : Nn) (b : Bool), (b = true → 1 ≤ j ∧ j ≤ n ∧ x = ns.getD (j - 1) nn0) ∧ (b = false → ¬ (1 ≤ j ∧ j ≤ n)) ∧ ∀ w : World, Tab w → SlOf 5 nnL w ao ns → Calls Tryd.prog 13 #[.slice ao n cap, .int .u64 h] w fun e w' => e = .returned (.tuple #[.agg #[.int .u64 x.k, .int .u64 x.v, .int .i64 x.t, .int .i64 x.m, .bool x.d], .bool b]) ∧ Kept [] w w' := by
  rcases hj with ⟨j1, j2, v, i⟩ | ⟨q, v⟩
  · exact ⟨ns.getD (j - 1) nn0, true, fun _ => ⟨j1, j2, rfl⟩, fun z => (by cases z), fun w hT hs => at_yes ns ao n cap (j - 1) h w hT hs hs0 h64 hw v (by omega) (by omega)⟩
  · exact ⟨nn0, false, fun z => (by cases z), fun _ => q, fun w hT hs => at_no ao n cap h w hT hw v⟩
end K
end Go.Proofs.YtgnkgkbjjeipbaaDoor
