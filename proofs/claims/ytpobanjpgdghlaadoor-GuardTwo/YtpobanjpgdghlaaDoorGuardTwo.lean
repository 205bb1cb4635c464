/-
  Two threads' guards, however their calls are mixed, leave each what it leaves alone.
  Conditions: the package variable of handle that the code reads starts as the program's text lays it (the card ties it to that text).
-/
import Derived.Test.YtpobanjpgdghlaaDoorGAlive
import Derived.Test.YtpobanjpgdghlaaDoorGTwo
import Derived.Test.YtpobanjpgdghlaaDoorHLaid
import Derived.Test.YtpobanjpgdghlaaDoorPArgs
import Derived.ProofKit
import Derived.SizedLaws
import Derived.Carry
namespace Go.Proofs.YtpobanjpgdghlaaDoor
open Go.ChangeShapes Go.WideShapes Go.ChangeAt Go.RowKit
open Go.Deep
open Go.Proofs.YtpobanjpgdghlaaDoor.K
set_option maxRecDepth 100000

theorem flat_bool : flat Tryd.prog 2 4 = some [.bool] := by kernel_rfl
theorem cells_bool : Tryd.prog.cellsOf 4 = 1 := by kernel_rfl
def bL (b : Bool) : List Value := [.bool b]
theorem bool_cells {cs : List Value} (h : F2 [.bool] cs) : ∃ b : Bool, cs = bL b ∧ True := by
  obtain ⟨b, r, rfl, h2⟩ := F2_bool h
  exact ⟨b, by rw [F2_nil h2]; rfl, trivial⟩
theorem open_bools {H : Type} {enc : TypeId × Value → H} {w : World} {r : Reach} {b0 : Nat} {v : Value} {d : DataW H} {p : List MemPlace} (hv : Value.okWide Tryd.prog w r b0 75 v) (h : DataW.Trod enc Tryd.prog w 0 (fun _ => true) true 75 v d p) :
    ∃ ao cap ts, v = .slice ao (List.length ts) cap ∧ SlOf 1 bL w ao ts := by
  obtain ⟨ao, cap, xs, h1, h2, h3, h4, h5⟩ := open_slice_of (ks := [.bool]) bL (fun _ => True) Tryd.underlying75 flat_bool cells_bool (by decide) (fun cs hF => bool_cells hF) hv h
  exact ⟨ao, cap, xs, h1, h2⟩
theorem bool_row {w : World} {ao : Option Addr} {ts : List Bool} (h : SlOf 1 bL w ao ts) {k : Nat} (hk : k < ts.length) : ∃ b off, ao = some ⟨b, off, none⟩ ∧ b < w.heap.size ∧ w.cell? ⟨b, off + k, none⟩ = some (.bool (ts.getD k false)) := by
  obtain ⟨b, off, rfl, hb, hc⟩ := h (by omega)
  have e : ts.getD k false = ts[k] := by simp [hk]
  rw [e]
  have := hc k hk 0 _ rfl
  rw [Nat.mul_one, Nat.add_zero] at this
  exact ⟨b, off, rfl, hb, this⟩
theorem wp_alloc_rw {o : Oper} {a : Act} {w : World} {K : Act → World → Prop} {Q : Exit → Act → World → Prop} (T : TypeId) (Z : Array Value) (hrun : (execOp a.eval o).run Tryd.prog w = .ok (.value (.pointer (some ⟨w.heap.size, 0, none⟩))) (w.alloc (.cells Z T)))
    (h : K (a.put o.dst (.pointer (some ⟨w.heap.size, 0, none⟩))) (w.alloc (.cells Z T))) : o.wp Tryd.prog a w K Q := by
  unfold Oper.wp; rw [hrun, Oper.upon_value]; exact h
set_option maxRecDepth 100000 in
set_option maxHeartbeats 8000000 in
theorem guardTwo_walk (w : World) (c : Cfg) (_g : c.wf) (ao : Option Addr) (xs : List Int) (cap : Nat) (hs : Sl w ao xs) (_hg : ∀ x ∈ xs, isWord x) (_hc : ao = none → cap = 0) (lo : Option Addr) (ts : List Bool) (lc : Nat) (hl : SlOf 1 bL w lo ts) (hT : Tab w) :
    Calls Tryd.prog 8 #[c.val, .slice ao xs.length cap, .slice lo ts.length lc] w fun e w' => e = .returned (.bool true) ∧ Kept [] w w' := by
  simp only [Cfg.val]
  obtain ⟨n, hn⟩ : ∃ n, n = xs.length := ⟨_, rfl⟩
  obtain ⟨k, hk⟩ : ∃ k, k = ts.length := ⟨_, rfl⟩
  rw [← hn, ← hk]
  have HN := hidOf hn
  have HK := hidOf hk
  have HS := hidOf hs
  have HL := hidOf hl
  have HT := hidOf hT
  clear hn hk hs hl hT
  obtain ⟨q, hq⟩ : ∃ q, q = w.heap.size := ⟨_, rfl⟩
  have BX : Hid (RW 23 (w.alloc (.cells #[.int .i64 c.t, .int .i64 c.s, .int .i64 c.c, .int .i64 c.h, .int .i64 c.k, .int .i64 c.e, .int .i64 c.l] 23)) q #[.int .i64 c.t, .int .i64 c.s, .int .i64 c.c, .int .i64 c.h, .int .i64 c.k, .int .i64 c.e, .int .i64 c.l] ∧ Kept [] w (w.alloc (.cells #[.int .i64 c.t, .int .i64 c.s, .int .i64 c.c, .int .i64 c.h, .int .i64 c.k, .int .i64 c.e, .int .i64 c.l] 23))) := by rw [hq]; exact ⟨RW.new _ _ _, (Kept.refl [] w).alloc _⟩
  by_cases hri : riB c = true
  · have HRT := hidOf (riB_true.1 hri)
    obtain ⟨LL, hLL⟩ : ∃ LL, lnN c = LL := ⟨_, rfl⟩
    obtain ⟨FC, hFC⟩ : ∃ FC, fcV c = FC := ⟨_, rfl⟩
    by_cases ht : c.t < 2
    · go_enter Tryd.func8, Tryd.ntmps8
      go_upto_region 1 with (fail)
      rw [← hq]
      refine gen_world (fun W => RW 23 W q #[.int .i64 c.t, .int .i64 c.s, .int .i64 c.c, .int .i64 c.h, .int .i64 c.k, .int .i64 c.e, .int .i64 c.l] ∧ Kept [] w W) BX.out ?_
      have hqw : w.heap.size ≤ q := by omega
      clear BX hq
      rintro W ⟨CB, K0⟩
      have HCB := hidOf CB
      have HTW := hidOf (HT.out.kept K0)
      have HK0 := hidOf K0
      clear CB K0
      have NW := hidOf (mnew_yes c W HTW.out hri)
      go_wp2_with (first | ((with_reducible change wpList _ _ _ (Oper.mk _ (Op.load 23 (Operand.tmp 3)) _ _ _ _ :: _) _ _); refine wpList_load_rw 23 isT_cf rfl (.tmp 3) rfl q rfl #[.int .i64 c.t, .int .i64 c.s, .int .i64 c.c, .int .i64 c.h, .int .i64 c.k, .int .i64 c.e, .int .i64 c.l] rfl HCB.out ?_))
      refine NW.out.mono ?_
      rintro e w1 ⟨m, p, r, rfl, ⟨hm, hp, hr⟩, M, K1⟩
      go_wp2_with fail
      refine (gnew_any 0 _).mono ?_
      rintro e w2 ⟨a, rfl, ha, GA, K2⟩
      go_wp2_with fail
      refine (gnew_any 1 _).mono ?_
      rintro e w3 ⟨b, rfl, hb, GB3, K3⟩
      have hab : ¬ a = b := by have := GA.lt; omega
      have HG := hidOf (And.intro (GA.kept K3 (by simp)) (And.intro GB3 (And.intro (M.new (K2.trans K3)) (And.intro hab (And.intro (show W.heap.size ≤ a by have := K1.size; omega) (And.intro (show W.heap.size ≤ b by have h1 := K1.size; have h2 := K2.size; omega) (And.intro hp hr)))))))
      have HKX := hidOf (K1.trans (K2.trans K3))
      clear NW M K1 K2 K3 GA GB3 hm hp hr ha hb hab
      have q0 := cell_of_blk (HCB.out.kept HKX.out (by simp)) (i := 0) (v := .int .i64 c.t) rfl
      have AL := hidOf (alive_any _ (HTW.out.kept HKX.out))
      go_wp2_with fail
      refine AL.out.mono ?_
      rintro e WA ⟨rfl, KA⟩
      go_wp2
      go_ret
      exact ⟨rfl, HK0.out.trans (HKX.out.trans KA)⟩
    · by_cases h1 : 40 < (n : Int)
      · go_enter Tryd.func8, Tryd.ntmps8
        go_upto_region 1 with (fail)
        rw [← hq]
        refine gen_world (fun W => RW 23 W q #[.int .i64 c.t, .int .i64 c.s, .int .i64 c.c, .int .i64 c.h, .int .i64 c.k, .int .i64 c.e, .int .i64 c.l] ∧ Kept [] w W) BX.out ?_
        have hqw : w.heap.size ≤ q := by omega
        clear BX hq
        rintro W ⟨CB, K0⟩
        have HCB := hidOf CB
        have HTW := hidOf (HT.out.kept K0)
        have HK0 := hidOf K0
        clear CB K0
        have NW := hidOf (mnew_yes c W HTW.out hri)
        go_wp2_with (first | ((with_reducible change wpList _ _ _ (Oper.mk _ (Op.load 23 (Operand.tmp 3)) _ _ _ _ :: _) _ _); refine wpList_load_rw 23 isT_cf rfl (.tmp 3) rfl q rfl #[.int .i64 c.t, .int .i64 c.s, .int .i64 c.c, .int .i64 c.h, .int .i64 c.k, .int .i64 c.e, .int .i64 c.l] rfl HCB.out ?_))
        refine NW.out.mono ?_
        rintro e w1 ⟨m, p, r, rfl, ⟨hm, hp, hr⟩, M, K1⟩
        go_wp2_with fail
        refine (gnew_any 0 _).mono ?_
        rintro e w2 ⟨a, rfl, ha, GA, K2⟩
        go_wp2_with fail
        refine (gnew_any 1 _).mono ?_
        rintro e w3 ⟨b, rfl, hb, GB3, K3⟩
        have hab : ¬ a = b := by have := GA.lt; omega
        have HG := hidOf (And.intro (GA.kept K3 (by simp)) (And.intro GB3 (And.intro (M.new (K2.trans K3)) (And.intro hab (And.intro (show W.heap.size ≤ a by have := K1.size; omega) (And.intro (show W.heap.size ≤ b by have h1 := K1.size; have h2 := K2.size; omega) (And.intro hp hr)))))))
        have HKX := hidOf (K1.trans (K2.trans K3))
        clear NW M K1 K2 K3 GA GB3 hm hp hr ha hb hab
        have q0 := cell_of_blk (HCB.out.kept HKX.out (by simp)) (i := 0) (v := .int .i64 c.t) rfl
        have AL := hidOf (alive_any _ (HTW.out.kept HKX.out))
        go_wp2_with fail
        refine AL.out.mono ?_
        rintro e WA ⟨rfl, KA⟩
        go_wp2
        go_ret
        exact ⟨rfl, HK0.out.trans (HKX.out.trans KA)⟩
      · by_cases h2 : 40 < (k : Int)
        · go_enter Tryd.func8, Tryd.ntmps8
          go_upto_region 1 with (fail)
          rw [← hq]
          refine gen_world (fun W => RW 23 W q #[.int .i64 c.t, .int .i64 c.s, .int .i64 c.c, .int .i64 c.h, .int .i64 c.k, .int .i64 c.e, .int .i64 c.l] ∧ Kept [] w W) BX.out ?_
          have hqw : w.heap.size ≤ q := by omega
          clear BX hq
          rintro W ⟨CB, K0⟩
          have HCB := hidOf CB
          have HTW := hidOf (HT.out.kept K0)
          have HK0 := hidOf K0
          clear CB K0
          have NW := hidOf (mnew_yes c W HTW.out hri)
          go_wp2_with (first | ((with_reducible change wpList _ _ _ (Oper.mk _ (Op.load 23 (Operand.tmp 3)) _ _ _ _ :: _) _ _); refine wpList_load_rw 23 isT_cf rfl (.tmp 3) rfl q rfl #[.int .i64 c.t, .int .i64 c.s, .int .i64 c.c, .int .i64 c.h, .int .i64 c.k, .int .i64 c.e, .int .i64 c.l] rfl HCB.out ?_))
          refine NW.out.mono ?_
          rintro e w1 ⟨m, p, r, rfl, ⟨hm, hp, hr⟩, M, K1⟩
          go_wp2_with fail
          refine (gnew_any 0 _).mono ?_
          rintro e w2 ⟨a, rfl, ha, GA, K2⟩
          go_wp2_with fail
          refine (gnew_any 1 _).mono ?_
          rintro e w3 ⟨b, rfl, hb, GB3, K3⟩
          have hab : ¬ a = b := by have := GA.lt; omega
          have HG := hidOf (And.intro (GA.kept K3 (by simp)) (And.intro GB3 (And.intro (M.new (K2.trans K3)) (And.intro hab (And.intro (show W.heap.size ≤ a by have := K1.size; omega) (And.intro (show W.heap.size ≤ b by have h1 := K1.size; have h2 := K2.size; omega) (And.intro hp hr)))))))
          have HKX := hidOf (K1.trans (K2.trans K3))
          clear NW M K1 K2 K3 GA GB3 hm hp hr ha hb hab
          have q0 := cell_of_blk (HCB.out.kept HKX.out (by simp)) (i := 0) (v := .int .i64 c.t) rfl
          have AL := hidOf (alive_any _ (HTW.out.kept HKX.out))
          go_wp2_with fail
          refine AL.out.mono ?_
          rintro e WA ⟨rfl, KA⟩
          go_wp2
          go_ret
          exact ⟨rfl, HK0.out.trans (HKX.out.trans KA)⟩
        · go_enter Tryd.func8, Tryd.ntmps8
          go_upto_region 1 with (fail)
          rw [← hq]
          refine gen_world (fun W => RW 23 W q #[.int .i64 c.t, .int .i64 c.s, .int .i64 c.c, .int .i64 c.h, .int .i64 c.k, .int .i64 c.e, .int .i64 c.l] ∧ Kept [] w W) BX.out ?_
          have hqw : w.heap.size ≤ q := by omega
          clear BX hq
          rintro W ⟨CB, K0⟩
          have HCB := hidOf CB
          have HTW := hidOf (HT.out.kept K0)
          have HK0 := hidOf K0
          clear CB K0
          have NW := hidOf (mnew_yes c W HTW.out hri)
          go_wp2_with (first | ((with_reducible change wpList _ _ _ (Oper.mk _ (Op.load 23 (Operand.tmp 3)) _ _ _ _ :: _) _ _); refine wpList_load_rw 23 isT_cf rfl (.tmp 3) rfl q rfl #[.int .i64 c.t, .int .i64 c.s, .int .i64 c.c, .int .i64 c.h, .int .i64 c.k, .int .i64 c.e, .int .i64 c.l] rfl HCB.out ?_))
          refine NW.out.mono ?_
          rintro e w1 ⟨m, p, r, rfl, ⟨hm, hp, hr⟩, M, K1⟩
          go_wp2_with fail
          refine (gnew_any 0 _).mono ?_
          rintro e w2 ⟨a, rfl, ha, GA, K2⟩
          go_wp2_with fail
          refine (gnew_any 1 _).mono ?_
          rintro e w3 ⟨b, rfl, hb, GB3, K3⟩
          have hab : ¬ a = b := by have := GA.lt; omega
          have HG := hidOf (And.intro (GA.kept K3 (by simp)) (And.intro GB3 (And.intro (M.new (K2.trans K3)) (And.intro hab (And.intro (show W.heap.size ≤ a by have := K1.size; omega) (And.intro (show W.heap.size ≤ b by have h1 := K1.size; have h2 := K2.size; omega) (And.intro hp hr)))))))
          have HKX := hidOf (K1.trans (K2.trans K3))
          clear NW M K1 K2 K3 GA GB3 hm hp hr ha hb hab
          have q0 := cell_of_blk (HCB.out.kept HKX.out (by simp)) (i := 0) (v := .int .i64 c.t) rfl
          go_upto_region 6 with (first | ((with_reducible change wpList _ _ _ (Oper.mk _ (Op.store 42 _ _) _ _ _ _ :: _) _ _); refine wpList_store_rw 42 isT_rg rfl (.tmp 11) (.tmp 69) rfl w3.heap.size (rgA ⟨0, 0, 0⟩) rfl rfl rfl (rg_one _) rgZ (two_new 42 42 w3 rgZ rgZ rfl).1 rfl ?_) | ((with_reducible change wpList _ _ _ (Oper.mk _ (Op.store 42 _ _) _ _ _ _ :: _) _ _); refine wpList_store_rw 42 isT_rg rfl (.tmp 12) (.tmp 70) rfl (w3.heap.size + 1) (rgA ⟨0, 0, 1⟩) rfl rfl rfl (rg_one _) rgZ ((two_new 42 42 w3 rgZ rgZ rfl).2.1.rowOther (c := w3.heap.size) _ (by omega)) rfl ?_))
          obtain ⟨qx, hqx⟩ : ∃ qx, qx = w3.heap.size := ⟨_, rfl⟩
          rw [← hqx]
          refine gen_world (fun U => RW 42 U qx (rgA ⟨0, 0, 0⟩) ∧ RW 42 U (qx + 1) (rgA ⟨0, 0, 1⟩) ∧ Kept [] w3 U) ?_ ?_
          · have T2 := two_new 42 42 w3 rgZ rgZ hqx
            exact ⟨(T2.1.row (rgA ⟨0, 0, 0⟩)).rowOther (c := qx + 1) _ (by omega), (T2.2.1.rowOther (c := qx) (rgA ⟨0, 0, 0⟩) (by omega)).row _, (T2.2.2.setRow (b := qx) (Or.inr (by omega)) _).setRow (b := qx + 1) (Or.inr (by omega)) _⟩
          have hqx1 : w3.heap.size ≤ qx := by omega
          clear hqx q0
          obtain ⟨qy, hqy⟩ : ∃ qy, qy = qx + 1 := ⟨_, rfl⟩
          rw [← hqy]
          have hxy : ¬ qx = qy := by omega
          have hqy1 : w3.heap.size ≤ qy := by omega
          clear hqy
          rintro U ⟨X0, Y0, KU⟩
          have HU := hidOf (HKX.out.trans KU)
          have HXY := hidOf (And.intro X0 (And.intro Y0 KU))
          clear X0 Y0 KU
          have RN : Hid (∀ W2, Calls Tryd.prog 27 #[.agg #[.int .i64 c.t, .int .i64 c.s, .int .i64 c.c, .int .i64 c.h, .int .i64 c.k, .int .i64 c.e, .int .i64 c.l]] W2 fun e w' => ∃ g, e = .returned (.agg (rmA c (some ⟨g, 0, none⟩) LL LL 0 Acc.zero)) ∧ W2.heap.size ≤ g ∧ Row w' g FC ∧ Kept [] W2 w') := hidOf (fun W2 => by have z := rmnew_any c W2 hri; rw [hLL, hFC] at z; exact z)
          rw [hFC] at HG
          have HLF : Hid (FC.length = LL ∧ LL ≤ 1000 ∧ (LL : Int) = lnV c) := hidOf ⟨by rw [← hFC, ← hLL]; exact fcV_len c, by rw [← hLL]; have := lnN_le c; omega, by rw [← hLL]; exact lnN_eq c⟩
          clear hLL hFC
          simp only [Act.put]
          go_cut [13, 14] from 71 (fun s13 s14 V => ∃ qr qs g1 g2, s13 = .pointer (some ⟨qr, 0, none⟩) ∧ s14 = .pointer (some ⟨qs, 0, none⟩) ∧ U.heap.size ≤ qr ∧ U.heap.size ≤ qs ∧ U.heap.size ≤ g1 ∧ U.heap.size ≤ g2 ∧ ¬ qr = qs ∧ RW 35 V qr (rmA c (some ⟨g1, 0, none⟩) LL LL 0 Acc.zero) ∧ RW 35 V qs (rmA c (some ⟨g2, 0, none⟩) LL LL 0 Acc.zero) ∧ Row V g1 FC ∧ Row V g2 FC ∧ Kept [] U V)
          case first =>
            have CU0 := HCB.out.kept HU.out (by simp)
            refine wp_region_held_drew (S := fun w' => RW 23 w' q #[.int .i64 c.t, .int .i64 c.s, .int .i64 c.c, .int .i64 c.h, .int .i64 c.k, .int .i64 c.e, .int .i64 c.l]) (by kernel_rfl) CU0 (fun hS => ?_)
            have kU : Kept [] U U.drew := (Kept.refl [] U).drew
            have CU : RW 23 U.drew q #[.int .i64 c.t, .int .i64 c.s, .int .i64 c.c, .int .i64 c.h, .int .i64 c.k, .int .i64 c.e, .int .i64 c.l] := CU0.drew
            clear CU0
            generalize U.drew = U6 at kU CU hS ⊢
            have sU := kU.size
            refine wpAnyH_take (i := 0) (oi := { dst := some 71, op := Op.load 23 (Operand.tmp 3), type := 23, pos := "law.go:177", after := #[], guard := none }) (v := Value.agg #[.int .i64 c.t, .int .i64 c.s, .int .i64 c.c, .int .i64 c.h, .int .i64 c.k, .int .i64 c.e, .int .i64 c.l]) rfl (by kernel_rfl) (by kernel_rfl) (by kernel_rfl) (fun _ _ _ h => h) (yieldsIf_load_rw rfl 23 isT_cf (.tmp 3) rfl q rfl #[.int .i64 c.t, .int .i64 c.s, .int .i64 c.c, .int .i64 c.h, .int .i64 c.k, .int .i64 c.e, .int .i64 c.l] rfl (fun _ h => h)) hS ?_
            try simp only [Act.put, List.setIfInBounds_toArray, List.set_cons_zero, List.set_cons_succ]
            refine wpAnyH_take (i := 2) (oi := { dst := some 73, op := Op.load 23 (Operand.tmp 3), type := 23, pos := "law.go:177", after := #[], guard := none }) (v := Value.agg #[.int .i64 c.t, .int .i64 c.s, .int .i64 c.c, .int .i64 c.h, .int .i64 c.k, .int .i64 c.e, .int .i64 c.l]) rfl (by kernel_rfl) (by kernel_rfl) (by kernel_rfl) (fun _ _ _ h => h) (yieldsIf_load_rw rfl 23 isT_cf (.tmp 3) rfl q rfl #[.int .i64 c.t, .int .i64 c.s, .int .i64 c.c, .int .i64 c.h, .int .i64 c.k, .int .i64 c.e, .int .i64 c.l] rfl (fun _ h => h)) hS ?_
            try simp only [Act.put, List.setIfInBounds_toArray, List.set_cons_zero, List.set_cons_succ]
            refine wpAnyH_ready (rs := [1, 4, 5]) (by kernel_rfl) (by simp) ?_
            refine AllReadyH.cons (o := { dst := some 72, op := Op.call { callee := Callee.value (Operand.func 27), args := #[Operand.tmp 71], argTypes := #[23] }, type := 35, pos := "law.go:177", after := #[{ on := 0, ground := Ground.data }], guard := none }) rfl (fun K hK => ?_) ?_
            · rw [if_pos (by rfl)]
              refine wp_calls 27 #[.agg #[.int .i64 c.t, .int .i64 c.s, .int .i64 c.c, .int .i64 c.h, .int .i64 c.k, .int .i64 c.e, .int .i64 c.l]] (by kernel_rfl) (fun v V => (∃ g, v = .agg (rmA c (some ⟨g, 0, none⟩) LL LL 0 Acc.zero) ∧ U6.heap.size ≤ g ∧ Row V g FC) ∧ Kept [] U6 V) ((RN.out _).mono fun e w' ⟨g, h1, h2, h3, h4⟩ => ⟨_, h1, ⟨g, rfl, h2, h3⟩, h4⟩) ?_
              rintro _ w1 ⟨⟨g1, rfl, hg1, R1_1⟩, K1⟩
              have k1 := kU.trans K1
              have c1 := CU.kept K1 (by simp)
              have h1 := k1.size
              have hp1 := kU.size
              try simp only [Act.put, List.setIfInBounds_toArray, List.set_cons_zero, List.set_cons_succ]
              refine hK.out _ _ (c1) (fun hS => ?_)
              clear hK K
              refine wpAnyH_ready (rs := [3, 4, 5]) (by kernel_rfl) (by simp) ?_
              refine AllReadyH.cons (o := { dst := some 74, op := Op.call { callee := Callee.value (Operand.func 27), args := #[Operand.tmp 73], argTypes := #[23] }, type := 35, pos := "law.go:177", after := #[{ on := 2, ground := Ground.data }, { on := 1, ground := Ground.chain }], guard := none }) rfl (fun K hK => ?_) ?_
              · rw [if_pos (by rfl)]
                refine wp_calls 27 #[.agg #[.int .i64 c.t, .int .i64 c.s, .int .i64 c.c, .int .i64 c.h, .int .i64 c.k, .int .i64 c.e, .int .i64 c.l]] (by kernel_rfl) (fun v V => (∃ g, v = .agg (rmA c (some ⟨g, 0, none⟩) LL LL 0 Acc.zero) ∧ w1.heap.size ≤ g ∧ Row V g FC) ∧ Kept [] w1 V) ((RN.out _).mono fun e w' ⟨g, h1, h2, h3, h4⟩ => ⟨_, h1, ⟨g, rfl, h2, h3⟩, h4⟩) ?_
                rintro _ w2 ⟨⟨g3, rfl, hg3, R3_2⟩, K2⟩
                have k2 := k1.trans K2
                have R1_2 := R1_1.kept K2 (by simp)
                have c2 := c1.kept K2 (by simp)
                have h2 := k2.size
                have hp2 := k1.size
                try simp only [Act.put, List.setIfInBounds_toArray, List.set_cons_zero, List.set_cons_succ]
                refine hK.out _ _ (c2) (fun hS => ?_)
                clear hK K
                refine wpAnyH_ready (rs := [4, 5]) (by kernel_rfl) (by simp) ?_
                refine AllReadyH.cons (o := { dst := some 13, op := Op.alloc 35, type := 0, pos := "law.go:177", after := #[], guard := none }) rfl (fun K hK => ?_) ?_
                · rw [if_pos (by rfl)]
                  have h3 := k2.size
                  refine wp_alloc_rw 35 rmZ (by kernel_rfl) ?_
                  obtain ⟨q4, hq4⟩ : ∃ q4, q4 = w2.heap.size := ⟨_, rfl⟩
                  have D4_3 : RW 35 (w2.alloc (.cells rmZ 35)) q4 rmZ := by rw [hq4]; exact RW.new _ _ _
                  have K3 : Kept [] w2 (w2.alloc (.cells rmZ 35)) := (Kept.refl [] w2).alloc _
                  rw [← hq4]
                  have b4 : U.heap.size ≤ q4 := by omega
                  clear hq4
                  generalize (w2.alloc (.cells rmZ 35)) = w3 at D4_3 K3 ⊢
                  have k3 := k2.trans K3
                  have R1_3 := R1_2.kept K3 (by simp)
                  have R3_3 := R3_2.kept K3 (by simp)
                  have c3 := c2.kept K3 (by simp)
                  try simp only [Act.put, List.setIfInBounds_toArray, List.set_cons_zero, List.set_cons_succ]
                  refine hK.out _ _ (c3) (fun hS => ?_)
                  clear hK K
                  refine wpAnyH_ready (rs := [5]) (by kernel_rfl) (by simp) ?_
                  refine AllReadyH.cons (o := { dst := some 14, op := Op.alloc 35, type := 0, pos := "law.go:177", after := #[], guard := none }) rfl (fun K hK => ?_) AllReadyH.nil
                  rw [if_pos (by rfl)]
                  have h4 := k3.size
                  have l4 := D4_3.lt
                  refine wp_alloc_rw 35 rmZ (by kernel_rfl) ?_
                  obtain ⟨q5, hq5⟩ : ∃ q5, q5 = w3.heap.size := ⟨_, rfl⟩
                  have D5_4 : RW 35 (w3.alloc (.cells rmZ 35)) q5 rmZ := by rw [hq5]; exact RW.new _ _ _
                  have K4 : Kept [] w3 (w3.alloc (.cells rmZ 35)) := (Kept.refl [] w3).alloc _
                  rw [← hq5]
                  have b5 : U.heap.size ≤ q5 := by omega
                  have ne : ¬ q4 = q5 := by omega
                  clear hq5
                  generalize (w3.alloc (.cells rmZ 35)) = w4 at D5_4 K4 ⊢
                  have k4 := k3.trans K4
                  have R1_4 := R1_3.kept K4 (by simp)
                  have R3_4 := R3_3.kept K4 (by simp)
                  have D4_4 := D4_3.kept K4 (by simp)
                  have c4 := c3.kept K4 (by simp)
                  try simp only [Act.put, List.setIfInBounds_toArray, List.set_cons_zero, List.set_cons_succ]
                  refine hK.out _ _ (c4) (fun hS => ?_)
                  clear hK K
                  refine wpAnyH_ready (rs := [6]) (by kernel_rfl) (by simp) ?_
                  refine AllReadyH.cons (o := { dst := none, op := Op.store 35 (Operand.tmp 13) (Operand.tmp 72), type := 0, pos := "law.go:177", after := #[{ on := 4, ground := Ground.data }, { on := 1, ground := Ground.data }, { on := 3, ground := Ground.chain }, { on := 0, ground := Ground.phase }, { on := 1, ground := Ground.phase }, { on := 2, ground := Ground.textOnly Departure.lateStores }, { on := 3, ground := Ground.textOnly Departure.lateStoresUnsure }, { on := 4, ground := Ground.phase }, { on := 5, ground := Ground.phase }], guard := none }) rfl (fun K hK => ?_) AllReadyH.nil
                  rw [if_pos (by rfl)]
                  have x1 := R1_4.rowR.neRW D4_4 (by decide)
                  have x3 := R3_4.rowR.neRW D4_4 (by decide)
                  have xc := c4.ne D4_4 (by decide)
                  refine wp_store_row 35 (.tmp 13) (.tmp 72) rfl q4 (rmA c (some ⟨g1, 0, none⟩) LL LL 0 Acc.zero) rfl rfl 35 rmZ D4_4 (by rw [isT_rm.1]; rfl) rfl (rm_one _ _ _ _ _ _) ?_
                  have D4_5 := D4_4.row (rmA c (some ⟨g1, 0, none⟩) LL LL 0 Acc.zero)
                  have D5_5 := D5_4.rowOther (c := q4) (rmA c (some ⟨g1, 0, none⟩) LL LL 0 Acc.zero) (fun e => ne e.symm)
                  have kk5 : Kept [q4] w4 (w4.setRow q4 (rmA c (some ⟨g1, 0, none⟩) LL LL 0 Acc.zero)) := (Kept.refl [q4] w4).setRow (b := q4) (Or.inl (by simp)) _
                  have R1_5 := R1_4.kept kk5 (by simp; omega)
                  have R3_5 := R3_4.kept kk5 (by simp; omega)
                  have c5 := c4.kept kk5 (by simp; omega)
                  have k5 := k4.setRow (b := q4) (Or.inr b4) (rmA c (some ⟨g1, 0, none⟩) LL LL 0 Acc.zero)
                  clear x1 x3 xc kk5
                  simp only [Act.put]
                  refine hK.out _ _ (c5) (fun hS => ?_)
                  clear hK K
                  refine wpAnyH_ready (rs := [7]) (by kernel_rfl) (by simp) ?_
                  refine AllReadyH.cons (o := { dst := none, op := Op.store 35 (Operand.tmp 14) (Operand.tmp 74), type := 0, pos := "law.go:177", after := #[{ on := 5, ground := Ground.data }, { on := 3, ground := Ground.data }, { on := 6, ground := Ground.chain }, { on := 0, ground := Ground.phase }, { on := 1, ground := Ground.phase }, { on := 2, ground := Ground.phase }, { on := 3, ground := Ground.phase }, { on := 4, ground := Ground.phase }, { on := 5, ground := Ground.phase }, { on := 6, ground := Ground.phase }], guard := none }) rfl (fun K hK => ?_) AllReadyH.nil
                  rw [if_pos (by rfl)]
                  have x1 := R1_5.rowR.neRW D5_5 (by decide)
                  have x3 := R3_5.rowR.neRW D5_5 (by decide)
                  have xc := c5.ne D5_5 (by decide)
                  refine wp_store_row 35 (.tmp 14) (.tmp 74) rfl q5 (rmA c (some ⟨g3, 0, none⟩) LL LL 0 Acc.zero) rfl rfl 35 rmZ D5_5 (by rw [isT_rm.1]; rfl) rfl (rm_one _ _ _ _ _ _) ?_
                  have D5_6 := D5_5.row (rmA c (some ⟨g3, 0, none⟩) LL LL 0 Acc.zero)
                  have D4_6 := D4_5.rowOther (c := q5) (rmA c (some ⟨g3, 0, none⟩) LL LL 0 Acc.zero) ne
                  have kk6 : Kept [q5] (w4.setRow q4 (rmA c (some ⟨g1, 0, none⟩) LL LL 0 Acc.zero)) ((w4.setRow q4 (rmA c (some ⟨g1, 0, none⟩) LL LL 0 Acc.zero)).setRow q5 (rmA c (some ⟨g3, 0, none⟩) LL LL 0 Acc.zero)) := (Kept.refl [q5] (w4.setRow q4 (rmA c (some ⟨g1, 0, none⟩) LL LL 0 Acc.zero))).setRow (b := q5) (Or.inl (by simp)) _
                  have R1_6 := R1_5.kept kk6 (by simp; omega)
                  have R3_6 := R3_5.kept kk6 (by simp; omega)
                  have c6 := c5.kept kk6 (by simp; omega)
                  have k6 := k5.setRow (b := q5) (Or.inr b5) (rmA c (some ⟨g3, 0, none⟩) LL LL 0 Acc.zero)
                  clear x1 x3 xc kk6
                  simp only [Act.put]
                  refine hK.out _ _ (c6) (fun hS => ?_)
                  clear hK K
                  refine wpAnyH_done (by kernel_rfl) ?_ _
                  clear hS
                  go_wp2
                  go_meet
                  case rel => exact ⟨q4, q5, g1, g3, rfl, rfl, b4, b5, by omega, by omega, ne, D4_6, D5_6, R1_6, R3_6, k6⟩
                refine AllReadyH.cons (o := { dst := some 14, op := Op.alloc 35, type := 0, pos := "law.go:177", after := #[], guard := none }) rfl (fun K hK => ?_) AllReadyH.nil
                rw [if_pos (by rfl)]
                have h3 := k2.size
                refine wp_alloc_rw 35 rmZ (by kernel_rfl) ?_
                obtain ⟨q5, hq5⟩ : ∃ q5, q5 = w2.heap.size := ⟨_, rfl⟩
                have D5_3 : RW 35 (w2.alloc (.cells rmZ 35)) q5 rmZ := by rw [hq5]; exact RW.new _ _ _
                have K3 : Kept [] w2 (w2.alloc (.cells rmZ 35)) := (Kept.refl [] w2).alloc _
                rw [← hq5]
                have b5 : U.heap.size ≤ q5 := by omega
                clear hq5
                generalize (w2.alloc (.cells rmZ 35)) = w3 at D5_3 K3 ⊢
                have k3 := k2.trans K3
                have R1_3 := R1_2.kept K3 (by simp)
                have R3_3 := R3_2.kept K3 (by simp)
                have c3 := c2.kept K3 (by simp)
                try simp only [Act.put, List.setIfInBounds_toArray, List.set_cons_zero, List.set_cons_succ]
                refine hK.out _ _ (c3) (fun hS => ?_)
                clear hK K
                refine wpAnyH_ready (rs := [4]) (by kernel_rfl) (by simp) ?_
                refine AllReadyH.cons (o := { dst := some 13, op := Op.alloc 35, type := 0, pos := "law.go:177", after := #[], guard := none }) rfl (fun K hK => ?_) AllReadyH.nil
                rw [if_pos (by rfl)]
                have h4 := k3.size
                have l4 := D5_3.lt
                refine wp_alloc_rw 35 rmZ (by kernel_rfl) ?_
                obtain ⟨q4, hq4⟩ : ∃ q4, q4 = w3.heap.size := ⟨_, rfl⟩
                have D4_4 : RW 35 (w3.alloc (.cells rmZ 35)) q4 rmZ := by rw [hq4]; exact RW.new _ _ _
                have K4 : Kept [] w3 (w3.alloc (.cells rmZ 35)) := (Kept.refl [] w3).alloc _
                rw [← hq4]
                have b4 : U.heap.size ≤ q4 := by omega
                have ne : ¬ q4 = q5 := by omega
                clear hq4
                generalize (w3.alloc (.cells rmZ 35)) = w4 at D4_4 K4 ⊢
                have k4 := k3.trans K4
                have R1_4 := R1_3.kept K4 (by simp)
                have R3_4 := R3_3.kept K4 (by simp)
                have D5_4 := D5_3.kept K4 (by simp)
                have c4 := c3.kept K4 (by simp)
                try simp only [Act.put, List.setIfInBounds_toArray, List.set_cons_zero, List.set_cons_succ]
                refine hK.out _ _ (c4) (fun hS => ?_)
                clear hK K
                refine wpAnyH_ready (rs := [6]) (by kernel_rfl) (by simp) ?_
                refine AllReadyH.cons (o := { dst := none, op := Op.store 35 (Operand.tmp 13) (Operand.tmp 72), type := 0, pos := "law.go:177", after := #[{ on := 4, ground := Ground.data }, { on := 1, ground := Ground.data }, { on := 3, ground := Ground.chain }, { on := 0, ground := Ground.phase }, { on := 1, ground := Ground.phase }, { on := 2, ground := Ground.textOnly Departure.lateStores }, { on := 3, ground := Ground.textOnly Departure.lateStoresUnsure }, { on := 4, ground := Ground.phase }, { on := 5, ground := Ground.phase }], guard := none }) rfl (fun K hK => ?_) AllReadyH.nil
                rw [if_pos (by rfl)]
                have x1 := R1_4.rowR.neRW D4_4 (by decide)
                have x3 := R3_4.rowR.neRW D4_4 (by decide)
                have xc := c4.ne D4_4 (by decide)
                refine wp_store_row 35 (.tmp 13) (.tmp 72) rfl q4 (rmA c (some ⟨g1, 0, none⟩) LL LL 0 Acc.zero) rfl rfl 35 rmZ D4_4 (by rw [isT_rm.1]; rfl) rfl (rm_one _ _ _ _ _ _) ?_
                have D4_5 := D4_4.row (rmA c (some ⟨g1, 0, none⟩) LL LL 0 Acc.zero)
                have D5_5 := D5_4.rowOther (c := q4) (rmA c (some ⟨g1, 0, none⟩) LL LL 0 Acc.zero) (fun e => ne e.symm)
                have kk5 : Kept [q4] w4 (w4.setRow q4 (rmA c (some ⟨g1, 0, none⟩) LL LL 0 Acc.zero)) := (Kept.refl [q4] w4).setRow (b := q4) (Or.inl (by simp)) _
                have R1_5 := R1_4.kept kk5 (by simp; omega)
                have R3_5 := R3_4.kept kk5 (by simp; omega)
                have c5 := c4.kept kk5 (by simp; omega)
                have k5 := k4.setRow (b := q4) (Or.inr b4) (rmA c (some ⟨g1, 0, none⟩) LL LL 0 Acc.zero)
                clear x1 x3 xc kk5
                simp only [Act.put]
                refine hK.out _ _ (c5) (fun hS => ?_)
                clear hK K
                refine wpAnyH_ready (rs := [7]) (by kernel_rfl) (by simp) ?_
                refine AllReadyH.cons (o := { dst := none, op := Op.store 35 (Operand.tmp 14) (Operand.tmp 74), type := 0, pos := "law.go:177", after := #[{ on := 5, ground := Ground.data }, { on := 3, ground := Ground.data }, { on := 6, ground := Ground.chain }, { on := 0, ground := Ground.phase }, { on := 1, ground := Ground.phase }, { on := 2, ground := Ground.phase }, { on := 3, ground := Ground.phase }, { on := 4, ground := Ground.phase }, { on := 5, ground := Ground.phase }, { on := 6, ground := Ground.phase }], guard := none }) rfl (fun K hK => ?_) AllReadyH.nil
                rw [if_pos (by rfl)]
                have x1 := R1_5.rowR.neRW D5_5 (by decide)
                have x3 := R3_5.rowR.neRW D5_5 (by decide)
                have xc := c5.ne D5_5 (by decide)
                refine wp_store_row 35 (.tmp 14) (.tmp 74) rfl q5 (rmA c (some ⟨g3, 0, none⟩) LL LL 0 Acc.zero) rfl rfl 35 rmZ D5_5 (by rw [isT_rm.1]; rfl) rfl (rm_one _ _ _ _ _ _) ?_
                have D5_6 := D5_5.row (rmA c (some ⟨g3, 0, none⟩) LL LL 0 Acc.zero)
                have D4_6 := D4_5.rowOther (c := q5) (rmA c (some ⟨g3, 0, none⟩) LL LL 0 Acc.zero) ne
                have kk6 : Kept [q5] (w4.setRow q4 (rmA c (some ⟨g1, 0, none⟩) LL LL 0 Acc.zero)) ((w4.setRow q4 (rmA c (some ⟨g1, 0, none⟩) LL LL 0 Acc.zero)).setRow q5 (rmA c (some ⟨g3, 0, none⟩) LL LL 0 Acc.zero)) := (Kept.refl [q5] (w4.setRow q4 (rmA c (some ⟨g1, 0, none⟩) LL LL 0 Acc.zero))).setRow (b := q5) (Or.inl (by simp)) _
                have R1_6 := R1_5.kept kk6 (by simp; omega)
                have R3_6 := R3_5.kept kk6 (by simp; omega)
                have c6 := c5.kept kk6 (by simp; omega)
                have k6 := k5.setRow (b := q5) (Or.inr b5) (rmA c (some ⟨g3, 0, none⟩) LL LL 0 Acc.zero)
                clear x1 x3 xc kk6
                simp only [Act.put]
                refine hK.out _ _ (c6) (fun hS => ?_)
                clear hK K
                refine wpAnyH_done (by kernel_rfl) ?_ _
                clear hS
                go_wp2
                go_meet
                case rel => exact ⟨q4, q5, g1, g3, rfl, rfl, b4, b5, by omega, by omega, ne, D4_6, D5_6, R1_6, R3_6, k6⟩
              refine AllReadyH.cons (o := { dst := some 13, op := Op.alloc 35, type := 0, pos := "law.go:177", after := #[], guard := none }) rfl (fun K hK => ?_) ?_
              · rw [if_pos (by rfl)]
                have h2 := k1.size
                refine wp_alloc_rw 35 rmZ (by kernel_rfl) ?_
                obtain ⟨q4, hq4⟩ : ∃ q4, q4 = w1.heap.size := ⟨_, rfl⟩
                have D4_2 : RW 35 (w1.alloc (.cells rmZ 35)) q4 rmZ := by rw [hq4]; exact RW.new _ _ _
                have K2 : Kept [] w1 (w1.alloc (.cells rmZ 35)) := (Kept.refl [] w1).alloc _
                rw [← hq4]
                have b4 : U.heap.size ≤ q4 := by omega
                clear hq4
                generalize (w1.alloc (.cells rmZ 35)) = w2 at D4_2 K2 ⊢
                have k2 := k1.trans K2
                have R1_2 := R1_1.kept K2 (by simp)
                have c2 := c1.kept K2 (by simp)
                try simp only [Act.put, List.setIfInBounds_toArray, List.set_cons_zero, List.set_cons_succ]
                refine hK.out _ _ (c2) (fun hS => ?_)
                clear hK K
                refine wpAnyH_ready (rs := [3, 5]) (by kernel_rfl) (by simp) ?_
                refine AllReadyH.cons (o := { dst := some 74, op := Op.call { callee := Callee.value (Operand.func 27), args := #[Operand.tmp 73], argTypes := #[23] }, type := 35, pos := "law.go:177", after := #[{ on := 2, ground := Ground.data }, { on := 1, ground := Ground.chain }], guard := none }) rfl (fun K hK => ?_) ?_
                · rw [if_pos (by rfl)]
                  refine wp_calls 27 #[.agg #[.int .i64 c.t, .int .i64 c.s, .int .i64 c.c, .int .i64 c.h, .int .i64 c.k, .int .i64 c.e, .int .i64 c.l]] (by kernel_rfl) (fun v V => (∃ g, v = .agg (rmA c (some ⟨g, 0, none⟩) LL LL 0 Acc.zero) ∧ w2.heap.size ≤ g ∧ Row V g FC) ∧ Kept [] w2 V) ((RN.out _).mono fun e w' ⟨g, h1, h2, h3, h4⟩ => ⟨_, h1, ⟨g, rfl, h2, h3⟩, h4⟩) ?_
                  rintro _ w3 ⟨⟨g3, rfl, hg3, R3_3⟩, K3⟩
                  have k3 := k2.trans K3
                  have R1_3 := R1_2.kept K3 (by simp)
                  have D4_3 := D4_2.kept K3 (by simp)
                  have c3 := c2.kept K3 (by simp)
                  have h3 := k3.size
                  have hp3 := k2.size
                  try simp only [Act.put, List.setIfInBounds_toArray, List.set_cons_zero, List.set_cons_succ]
                  refine hK.out _ _ (c3) (fun hS => ?_)
                  clear hK K
                  refine wpAnyH_ready (rs := [5]) (by kernel_rfl) (by simp) ?_
                  refine AllReadyH.cons (o := { dst := some 14, op := Op.alloc 35, type := 0, pos := "law.go:177", after := #[], guard := none }) rfl (fun K hK => ?_) AllReadyH.nil
                  rw [if_pos (by rfl)]
                  have h4 := k3.size
                  have l4 := D4_3.lt
                  refine wp_alloc_rw 35 rmZ (by kernel_rfl) ?_
                  obtain ⟨q5, hq5⟩ : ∃ q5, q5 = w3.heap.size := ⟨_, rfl⟩
                  have D5_4 : RW 35 (w3.alloc (.cells rmZ 35)) q5 rmZ := by rw [hq5]; exact RW.new _ _ _
                  have K4 : Kept [] w3 (w3.alloc (.cells rmZ 35)) := (Kept.refl [] w3).alloc _
                  rw [← hq5]
                  have b5 : U.heap.size ≤ q5 := by omega
                  have ne : ¬ q4 = q5 := by omega
                  clear hq5
                  generalize (w3.alloc (.cells rmZ 35)) = w4 at D5_4 K4 ⊢
                  have k4 := k3.trans K4
                  have R1_4 := R1_3.kept K4 (by simp)
                  have D4_4 := D4_3.kept K4 (by simp)
                  have R3_4 := R3_3.kept K4 (by simp)
                  have c4 := c3.kept K4 (by simp)
                  try simp only [Act.put, List.setIfInBounds_toArray, List.set_cons_zero, List.set_cons_succ]
                  refine hK.out _ _ (c4) (fun hS => ?_)
                  clear hK K
                  refine wpAnyH_ready (rs := [6]) (by kernel_rfl) (by simp) ?_
                  refine AllReadyH.cons (o := { dst := none, op := Op.store 35 (Operand.tmp 13) (Operand.tmp 72), type := 0, pos := "law.go:177", after := #[{ on := 4, ground := Ground.data }, { on := 1, ground := Ground.data }, { on := 3, ground := Ground.chain }, { on := 0, ground := Ground.phase }, { on := 1, ground := Ground.phase }, { on := 2, ground := Ground.textOnly Departure.lateStores }, { on := 3, ground := Ground.textOnly Departure.lateStoresUnsure }, { on := 4, ground := Ground.phase }, { on := 5, ground := Ground.phase }], guard := none }) rfl (fun K hK => ?_) AllReadyH.nil
                  rw [if_pos (by rfl)]
                  have x1 := R1_4.rowR.neRW D4_4 (by decide)
                  have x3 := R3_4.rowR.neRW D4_4 (by decide)
                  have xc := c4.ne D4_4 (by decide)
                  refine wp_store_row 35 (.tmp 13) (.tmp 72) rfl q4 (rmA c (some ⟨g1, 0, none⟩) LL LL 0 Acc.zero) rfl rfl 35 rmZ D4_4 (by rw [isT_rm.1]; rfl) rfl (rm_one _ _ _ _ _ _) ?_
                  have D4_5 := D4_4.row (rmA c (some ⟨g1, 0, none⟩) LL LL 0 Acc.zero)
                  have D5_5 := D5_4.rowOther (c := q4) (rmA c (some ⟨g1, 0, none⟩) LL LL 0 Acc.zero) (fun e => ne e.symm)
                  have kk5 : Kept [q4] w4 (w4.setRow q4 (rmA c (some ⟨g1, 0, none⟩) LL LL 0 Acc.zero)) := (Kept.refl [q4] w4).setRow (b := q4) (Or.inl (by simp)) _
                  have R1_5 := R1_4.kept kk5 (by simp; omega)
                  have R3_5 := R3_4.kept kk5 (by simp; omega)
                  have c5 := c4.kept kk5 (by simp; omega)
                  have k5 := k4.setRow (b := q4) (Or.inr b4) (rmA c (some ⟨g1, 0, none⟩) LL LL 0 Acc.zero)
                  clear x1 x3 xc kk5
                  simp only [Act.put]
                  refine hK.out _ _ (c5) (fun hS => ?_)
                  clear hK K
                  refine wpAnyH_ready (rs := [7]) (by kernel_rfl) (by simp) ?_
                  refine AllReadyH.cons (o := { dst := none, op := Op.store 35 (Operand.tmp 14) (Operand.tmp 74), type := 0, pos := "law.go:177", after := #[{ on := 5, ground := Ground.data }, { on := 3, ground := Ground.data }, { on := 6, ground := Ground.chain }, { on := 0, ground := Ground.phase }, { on := 1, ground := Ground.phase }, { on := 2, ground := Ground.phase }, { on := 3, ground := Ground.phase }, { on := 4, ground := Ground.phase }, { on := 5, ground := Ground.phase }, { on := 6, ground := Ground.phase }], guard := none }) rfl (fun K hK => ?_) AllReadyH.nil
                  rw [if_pos (by rfl)]
                  have x1 := R1_5.rowR.neRW D5_5 (by decide)
                  have x3 := R3_5.rowR.neRW D5_5 (by decide)
                  have xc := c5.ne D5_5 (by decide)
                  refine wp_store_row 35 (.tmp 14) (.tmp 74) rfl q5 (rmA c (some ⟨g3, 0, none⟩) LL LL 0 Acc.zero) rfl rfl 35 rmZ D5_5 (by rw [isT_rm.1]; rfl) rfl (rm_one _ _ _ _ _ _) ?_
                  have D5_6 := D5_5.row (rmA c (some ⟨g3, 0, none⟩) LL LL 0 Acc.zero)
                  have D4_6 := D4_5.rowOther (c := q5) (rmA c (some ⟨g3, 0, none⟩) LL LL 0 Acc.zero) ne
                  have kk6 : Kept [q5] (w4.setRow q4 (rmA c (some ⟨g1, 0, none⟩) LL LL 0 Acc.zero)) ((w4.setRow q4 (rmA c (some ⟨g1, 0, none⟩) LL LL 0 Acc.zero)).setRow q5 (rmA c (some ⟨g3, 0, none⟩) LL LL 0 Acc.zero)) := (Kept.refl [q5] (w4.setRow q4 (rmA c (some ⟨g1, 0, none⟩) LL LL 0 Acc.zero))).setRow (b := q5) (Or.inl (by simp)) _
                  have R1_6 := R1_5.kept kk6 (by simp; omega)
                  have R3_6 := R3_5.kept kk6 (by simp; omega)
                  have c6 := c5.kept kk6 (by simp; omega)
                  have k6 := k5.setRow (b := q5) (Or.inr b5) (rmA c (some ⟨g3, 0, none⟩) LL LL 0 Acc.zero)
                  clear x1 x3 xc kk6
                  simp only [Act.put]
                  refine hK.out _ _ (c6) (fun hS => ?_)
                  clear hK K
                  refine wpAnyH_done (by kernel_rfl) ?_ _
                  clear hS
                  go_wp2
                  go_meet
                  case rel => exact ⟨q4, q5, g1, g3, rfl, rfl, b4, b5, by omega, by omega, ne, D4_6, D5_6, R1_6, R3_6, k6⟩
                refine AllReadyH.cons (o := { dst := some 14, op := Op.alloc 35, type := 0, pos := "law.go:177", after := #[], guard := none }) rfl (fun K hK => ?_) AllReadyH.nil
                rw [if_pos (by rfl)]
                have h3 := k2.size
                have l3 := D4_2.lt
                refine wp_alloc_rw 35 rmZ (by kernel_rfl) ?_
                obtain ⟨q5, hq5⟩ : ∃ q5, q5 = w2.heap.size := ⟨_, rfl⟩
                have D5_3 : RW 35 (w2.alloc (.cells rmZ 35)) q5 rmZ := by rw [hq5]; exact RW.new _ _ _
                have K3 : Kept [] w2 (w2.alloc (.cells rmZ 35)) := (Kept.refl [] w2).alloc _
                rw [← hq5]
                have b5 : U.heap.size ≤ q5 := by omega
                have ne : ¬ q4 = q5 := by omega
                clear hq5
                generalize (w2.alloc (.cells rmZ 35)) = w3 at D5_3 K3 ⊢
                have k3 := k2.trans K3
                have R1_3 := R1_2.kept K3 (by simp)
                have D4_3 := D4_2.kept K3 (by simp)
                have c3 := c2.kept K3 (by simp)
                try simp only [Act.put, List.setIfInBounds_toArray, List.set_cons_zero, List.set_cons_succ]
                refine hK.out _ _ (c3) (fun hS => ?_)
                clear hK K
                refine wpAnyH_ready (rs := [3]) (by kernel_rfl) (by simp) ?_
                refine AllReadyH.cons (o := { dst := some 74, op := Op.call { callee := Callee.value (Operand.func 27), args := #[Operand.tmp 73], argTypes := #[23] }, type := 35, pos := "law.go:177", after := #[{ on := 2, ground := Ground.data }, { on := 1, ground := Ground.chain }], guard := none }) rfl (fun K hK => ?_) AllReadyH.nil
                rw [if_pos (by rfl)]
                refine wp_calls 27 #[.agg #[.int .i64 c.t, .int .i64 c.s, .int .i64 c.c, .int .i64 c.h, .int .i64 c.k, .int .i64 c.e, .int .i64 c.l]] (by kernel_rfl) (fun v V => (∃ g, v = .agg (rmA c (some ⟨g, 0, none⟩) LL LL 0 Acc.zero) ∧ w3.heap.size ≤ g ∧ Row V g FC) ∧ Kept [] w3 V) ((RN.out _).mono fun e w' ⟨g, h1, h2, h3, h4⟩ => ⟨_, h1, ⟨g, rfl, h2, h3⟩, h4⟩) ?_
                rintro _ w4 ⟨⟨g3, rfl, hg3, R3_4⟩, K4⟩
                have k4 := k3.trans K4
                have R1_4 := R1_3.kept K4 (by simp)
                have D4_4 := D4_3.kept K4 (by simp)
                have D5_4 := D5_3.kept K4 (by simp)
                have c4 := c3.kept K4 (by simp)
                have h4 := k4.size
                have hp4 := k3.size
                try simp only [Act.put, List.setIfInBounds_toArray, List.set_cons_zero, List.set_cons_succ]
                refine hK.out _ _ (c4) (fun hS => ?_)
                clear hK K
                refine wpAnyH_ready (rs := [6]) (by kernel_rfl) (by simp) ?_
                refine AllReadyH.cons (o := { dst := none, op := Op.store 35 (Operand.tmp 13) (Operand.tmp 72), type := 0, pos := "law.go:177", after := #[{ on := 4, ground := Ground.data }, { on := 1, ground := Ground.data }, { on := 3, ground := Ground.chain }, { on := 0, ground := Ground.phase }, { on := 1, ground := Ground.phase }, { on := 2, ground := Ground.textOnly Departure.lateStores }, { on := 3, ground := Ground.textOnly Departure.lateStoresUnsure }, { on := 4, ground := Ground.phase }, { on := 5, ground := Ground.phase }], guard := none }) rfl (fun K hK => ?_) AllReadyH.nil
                rw [if_pos (by rfl)]
                have x1 := R1_4.rowR.neRW D4_4 (by decide)
                have x3 := R3_4.rowR.neRW D4_4 (by decide)
                have xc := c4.ne D4_4 (by decide)
                refine wp_store_row 35 (.tmp 13) (.tmp 72) rfl q4 (rmA c (some ⟨g1, 0, none⟩) LL LL 0 Acc.zero) rfl rfl 35 rmZ D4_4 (by rw [isT_rm.1]; rfl) rfl (rm_one _ _ _ _ _ _) ?_
                have D4_5 := D4_4.row (rmA c (some ⟨g1, 0, none⟩) LL LL 0 Acc.zero)
                have D5_5 := D5_4.rowOther (c := q4) (rmA c (some ⟨g1, 0, none⟩) LL LL 0 Acc.zero) (fun e => ne e.symm)
                have kk5 : Kept [q4] w4 (w4.setRow q4 (rmA c (some ⟨g1, 0, none⟩) LL LL 0 Acc.zero)) := (Kept.refl [q4] w4).setRow (b := q4) (Or.inl (by simp)) _
                have R1_5 := R1_4.kept kk5 (by simp; omega)
                have R3_5 := R3_4.kept kk5 (by simp; omega)
                have c5 := c4.kept kk5 (by simp; omega)
                have k5 := k4.setRow (b := q4) (Or.inr b4) (rmA c (some ⟨g1, 0, none⟩) LL LL 0 Acc.zero)
                clear x1 x3 xc kk5
                simp only [Act.put]
                refine hK.out _ _ (c5) (fun hS => ?_)
                clear hK K
                refine wpAnyH_ready (rs := [7]) (by kernel_rfl) (by simp) ?_
                refine AllReadyH.cons (o := { dst := none, op := Op.store 35 (Operand.tmp 14) (Operand.tmp 74), type := 0, pos := "law.go:177", after := #[{ on := 5, ground := Ground.data }, { on := 3, ground := Ground.data }, { on := 6, ground := Ground.chain }, { on := 0, ground := Ground.phase }, { on := 1, ground := Ground.phase }, { on := 2, ground := Ground.phase }, { on := 3, ground := Ground.phase }, { on := 4, ground := Ground.phase }, { on := 5, ground := Ground.phase }, { on := 6, ground := Ground.phase }], guard := none }) rfl (fun K hK => ?_) AllReadyH.nil
                rw [if_pos (by rfl)]
                have x1 := R1_5.rowR.neRW D5_5 (by decide)
                have x3 := R3_5.rowR.neRW D5_5 (by decide)
                have xc := c5.ne D5_5 (by decide)
                refine wp_store_row 35 (.tmp 14) (.tmp 74) rfl q5 (rmA c (some ⟨g3, 0, none⟩) LL LL 0 Acc.zero) rfl rfl 35 rmZ D5_5 (by rw [isT_rm.1]; rfl) rfl (rm_one _ _ _ _ _ _) ?_
                have D5_6 := D5_5.row (rmA c (some ⟨g3, 0, none⟩) LL LL 0 Acc.zero)
                have D4_6 := D4_5.rowOther (c := q5) (rmA c (some ⟨g3, 0, none⟩) LL LL 0 Acc.zero) ne
                have kk6 : Kept [q5] (w4.setRow q4 (rmA c (some ⟨g1, 0, none⟩) LL LL 0 Acc.zero)) ((w4.setRow q4 (rmA c (some ⟨g1, 0, none⟩) LL LL 0 Acc.zero)).setRow q5 (rmA c (some ⟨g3, 0, none⟩) LL LL 0 Acc.zero)) := (Kept.refl [q5] (w4.setRow q4 (rmA c (some ⟨g1, 0, none⟩) LL LL 0 Acc.zero))).setRow (b := q5) (Or.inl (by simp)) _
                have R1_6 := R1_5.kept kk6 (by simp; omega)
                have R3_6 := R3_5.kept kk6 (by simp; omega)
                have c6 := c5.kept kk6 (by simp; omega)
                have k6 := k5.setRow (b := q5) (Or.inr b5) (rmA c (some ⟨g3, 0, none⟩) LL LL 0 Acc.zero)
                clear x1 x3 xc kk6
                simp only [Act.put]
                refine hK.out _ _ (c6) (fun hS => ?_)
                clear hK K
                refine wpAnyH_done (by kernel_rfl) ?_ _
                clear hS
                go_wp2
                go_meet
                case rel => exact ⟨q4, q5, g1, g3, rfl, rfl, b4, b5, by omega, by omega, ne, D4_6, D5_6, R1_6, R3_6, k6⟩
              refine AllReadyH.cons (o := { dst := some 14, op := Op.alloc 35, type := 0, pos := "law.go:177", after := #[], guard := none }) rfl (fun K hK => ?_) AllReadyH.nil
              rw [if_pos (by rfl)]
              have h2 := k1.size
              refine wp_alloc_rw 35 rmZ (by kernel_rfl) ?_
              obtain ⟨q5, hq5⟩ : ∃ q5, q5 = w1.heap.size := ⟨_, rfl⟩
              have D5_2 : RW 35 (w1.alloc (.cells rmZ 35)) q5 rmZ := by rw [hq5]; exact RW.new _ _ _
              have K2 : Kept [] w1 (w1.alloc (.cells rmZ 35)) := (Kept.refl [] w1).alloc _
              rw [← hq5]
              have b5 : U.heap.size ≤ q5 := by omega
              clear hq5
              generalize (w1.alloc (.cells rmZ 35)) = w2 at D5_2 K2 ⊢
              have k2 := k1.trans K2
              have R1_2 := R1_1.kept K2 (by simp)
              have c2 := c1.kept K2 (by simp)
              try simp only [Act.put, List.setIfInBounds_toArray, List.set_cons_zero, List.set_cons_succ]
              refine hK.out _ _ (c2) (fun hS => ?_)
              clear hK K
              refine wpAnyH_ready (rs := [3, 4]) (by kernel_rfl) (by simp) ?_
              refine AllReadyH.cons (o := { dst := some 74, op := Op.call { callee := Callee.value (Operand.func 27), args := #[Operand.tmp 73], argTypes := #[23] }, type := 35, pos := "law.go:177", after := #[{ on := 2, ground := Ground.data }, { on := 1, ground := Ground.chain }], guard := none }) rfl (fun K hK => ?_) ?_
              · rw [if_pos (by rfl)]
                refine wp_calls 27 #[.agg #[.int .i64 c.t, .int .i64 c.s, .int .i64 c.c, .int .i64 c.h, .int .i64 c.k, .int .i64 c.e, .int .i64 c.l]] (by kernel_rfl) (fun v V => (∃ g, v = .agg (rmA c (some ⟨g, 0, none⟩) LL LL 0 Acc.zero) ∧ w2.heap.size ≤ g ∧ Row V g FC) ∧ Kept [] w2 V) ((RN.out _).mono fun e w' ⟨g, h1, h2, h3, h4⟩ => ⟨_, h1, ⟨g, rfl, h2, h3⟩, h4⟩) ?_
                rintro _ w3 ⟨⟨g3, rfl, hg3, R3_3⟩, K3⟩
                have k3 := k2.trans K3
                have R1_3 := R1_2.kept K3 (by simp)
                have D5_3 := D5_2.kept K3 (by simp)
                have c3 := c2.kept K3 (by simp)
                have h3 := k3.size
                have hp3 := k2.size
                try simp only [Act.put, List.setIfInBounds_toArray, List.set_cons_zero, List.set_cons_succ]
                refine hK.out _ _ (c3) (fun hS => ?_)
                clear hK K
                refine wpAnyH_ready (rs := [4]) (by kernel_rfl) (by simp) ?_
                refine AllReadyH.cons (o := { dst := some 13, op := Op.alloc 35, type := 0, pos := "law.go:177", after := #[], guard := none }) rfl (fun K hK => ?_) AllReadyH.nil
                rw [if_pos (by rfl)]
                have h4 := k3.size
                have l4 := D5_3.lt
                refine wp_alloc_rw 35 rmZ (by kernel_rfl) ?_
                obtain ⟨q4, hq4⟩ : ∃ q4, q4 = w3.heap.size := ⟨_, rfl⟩
                have D4_4 : RW 35 (w3.alloc (.cells rmZ 35)) q4 rmZ := by rw [hq4]; exact RW.new _ _ _
                have K4 : Kept [] w3 (w3.alloc (.cells rmZ 35)) := (Kept.refl [] w3).alloc _
                rw [← hq4]
                have b4 : U.heap.size ≤ q4 := by omega
                have ne : ¬ q4 = q5 := by omega
                clear hq4
                generalize (w3.alloc (.cells rmZ 35)) = w4 at D4_4 K4 ⊢
                have k4 := k3.trans K4
                have R1_4 := R1_3.kept K4 (by simp)
                have D5_4 := D5_3.kept K4 (by simp)
                have R3_4 := R3_3.kept K4 (by simp)
                have c4 := c3.kept K4 (by simp)
                try simp only [Act.put, List.setIfInBounds_toArray, List.set_cons_zero, List.set_cons_succ]
                refine hK.out _ _ (c4) (fun hS => ?_)
                clear hK K
                refine wpAnyH_ready (rs := [6]) (by kernel_rfl) (by simp) ?_
                refine AllReadyH.cons (o := { dst := none, op := Op.store 35 (Operand.tmp 13) (Operand.tmp 72), type := 0, pos := "law.go:177", after := #[{ on := 4, ground := Ground.data }, { on := 1, ground := Ground.data }, { on := 3, ground := Ground.chain }, { on := 0, ground := Ground.phase }, { on := 1, ground := Ground.phase }, { on := 2, ground := Ground.textOnly Departure.lateStores }, { on := 3, ground := Ground.textOnly Departure.lateStoresUnsure }, { on := 4, ground := Ground.phase }, { on := 5, ground := Ground.phase }], guard := none }) rfl (fun K hK => ?_) AllReadyH.nil
                rw [if_pos (by rfl)]
                have x1 := R1_4.rowR.neRW D4_4 (by decide)
                have x3 := R3_4.rowR.neRW D4_4 (by decide)
                have xc := c4.ne D4_4 (by decide)
                refine wp_store_row 35 (.tmp 13) (.tmp 72) rfl q4 (rmA c (some ⟨g1, 0, none⟩) LL LL 0 Acc.zero) rfl rfl 35 rmZ D4_4 (by rw [isT_rm.1]; rfl) rfl (rm_one _ _ _ _ _ _) ?_
                have D4_5 := D4_4.row (rmA c (some ⟨g1, 0, none⟩) LL LL 0 Acc.zero)
                have D5_5 := D5_4.rowOther (c := q4) (rmA c (some ⟨g1, 0, none⟩) LL LL 0 Acc.zero) (fun e => ne e.symm)
                have kk5 : Kept [q4] w4 (w4.setRow q4 (rmA c (some ⟨g1, 0, none⟩) LL LL 0 Acc.zero)) := (Kept.refl [q4] w4).setRow (b := q4) (Or.inl (by simp)) _
                have R1_5 := R1_4.kept kk5 (by simp; omega)
                have R3_5 := R3_4.kept kk5 (by simp; omega)
                have c5 := c4.kept kk5 (by simp; omega)
                have k5 := k4.setRow (b := q4) (Or.inr b4) (rmA c (some ⟨g1, 0, none⟩) LL LL 0 Acc.zero)
                clear x1 x3 xc kk5
                simp only [Act.put]
                refine hK.out _ _ (c5) (fun hS => ?_)
                clear hK K
                refine wpAnyH_ready (rs := [7]) (by kernel_rfl) (by simp) ?_
                refine AllReadyH.cons (o := { dst := none, op := Op.store 35 (Operand.tmp 14) (Operand.tmp 74), type := 0, pos := "law.go:177", after := #[{ on := 5, ground := Ground.data }, { on := 3, ground := Ground.data }, { on := 6, ground := Ground.chain }, { on := 0, ground := Ground.phase }, { on := 1, ground := Ground.phase }, { on := 2, ground := Ground.phase }, { on := 3, ground := Ground.phase }, { on := 4, ground := Ground.phase }, { on := 5, ground := Ground.phase }, { on := 6, ground := Ground.phase }], guard := none }) rfl (fun K hK => ?_) AllReadyH.nil
                rw [if_pos (by rfl)]
                have x1 := R1_5.rowR.neRW D5_5 (by decide)
                have x3 := R3_5.rowR.neRW D5_5 (by decide)
                have xc := c5.ne D5_5 (by decide)
                refine wp_store_row 35 (.tmp 14) (.tmp 74) rfl q5 (rmA c (some ⟨g3, 0, none⟩) LL LL 0 Acc.zero) rfl rfl 35 rmZ D5_5 (by rw [isT_rm.1]; rfl) rfl (rm_one _ _ _ _ _ _) ?_
                have D5_6 := D5_5.row (rmA c (some ⟨g3, 0, none⟩) LL LL 0 Acc.zero)
                have D4_6 := D4_5.rowOther (c := q5) (rmA c (some ⟨g3, 0, none⟩) LL LL 0 Acc.zero) ne
                have kk6 : Kept [q5] (w4.setRow q4 (rmA c (some ⟨g1, 0, none⟩) LL LL 0 Acc.zero)) ((w4.setRow q4 (rmA c (some ⟨g1, 0, none⟩) LL LL 0 Acc.zero)).setRow q5 (rmA c (some ⟨g3, 0, none⟩) LL LL 0 Acc.zero)) := (Kept.refl [q5] (w4.setRow q4 (rmA c (some ⟨g1, 0, none⟩) LL LL 0 Acc.zero))).setRow (b := q5) (Or.inl (by simp)) _
                have R1_6 := R1_5.kept kk6 (by simp; omega)
                have R3_6 := R3_5.kept kk6 (by simp; omega)
                have c6 := c5.kept kk6 (by simp; omega)
                have k6 := k5.setRow (b := q5) (Or.inr b5) (rmA c (some ⟨g3, 0, none⟩) LL LL 0 Acc.zero)
                clear x1 x3 xc kk6
                simp only [Act.put]
                refine hK.out _ _ (c6) (fun hS => ?_)
                clear hK K
                refine wpAnyH_done (by kernel_rfl) ?_ _
                clear hS
                go_wp2
                go_meet
                case rel => exact ⟨q4, q5, g1, g3, rfl, rfl, b4, b5, by omega, by omega, ne, D4_6, D5_6, R1_6, R3_6, k6⟩
              refine AllReadyH.cons (o := { dst := some 13, op := Op.alloc 35, type := 0, pos := "law.go:177", after := #[], guard := none }) rfl (fun K hK => ?_) AllReadyH.nil
              rw [if_pos (by rfl)]
              have h3 := k2.size
              have l3 := D5_2.lt
              refine wp_alloc_rw 35 rmZ (by kernel_rfl) ?_
              obtain ⟨q4, hq4⟩ : ∃ q4, q4 = w2.heap.size := ⟨_, rfl⟩
              have D4_3 : RW 35 (w2.alloc (.cells rmZ 35)) q4 rmZ := by rw [hq4]; exact RW.new _ _ _
              have K3 : Kept [] w2 (w2.alloc (.cells rmZ 35)) := (Kept.refl [] w2).alloc _
              rw [← hq4]
              have b4 : U.heap.size ≤ q4 := by omega
              have ne : ¬ q4 = q5 := by omega
              clear hq4
              generalize (w2.alloc (.cells rmZ 35)) = w3 at D4_3 K3 ⊢
              have k3 := k2.trans K3
              have R1_3 := R1_2.kept K3 (by simp)
              have D5_3 := D5_2.kept K3 (by simp)
              have c3 := c2.kept K3 (by simp)
              try simp only [Act.put, List.setIfInBounds_toArray, List.set_cons_zero, List.set_cons_succ]
              refine hK.out _ _ (c3) (fun hS => ?_)
              clear hK K
              refine wpAnyH_ready (rs := [3]) (by kernel_rfl) (by simp) ?_
              refine AllReadyH.cons (o := { dst := some 74, op := Op.call { callee := Callee.value (Operand.func 27), args := #[Operand.tmp 73], argTypes := #[23] }, type := 35, pos := "law.go:177", after := #[{ on := 2, ground := Ground.data }, { on := 1, ground := Ground.chain }], guard := none }) rfl (fun K hK => ?_) AllReadyH.nil
              rw [if_pos (by rfl)]
              refine wp_calls 27 #[.agg #[.int .i64 c.t, .int .i64 c.s, .int .i64 c.c, .int .i64 c.h, .int .i64 c.k, .int .i64 c.e, .int .i64 c.l]] (by kernel_rfl) (fun v V => (∃ g, v = .agg (rmA c (some ⟨g, 0, none⟩) LL LL 0 Acc.zero) ∧ w3.heap.size ≤ g ∧ Row V g FC) ∧ Kept [] w3 V) ((RN.out _).mono fun e w' ⟨g, h1, h2, h3, h4⟩ => ⟨_, h1, ⟨g, rfl, h2, h3⟩, h4⟩) ?_
              rintro _ w4 ⟨⟨g3, rfl, hg3, R3_4⟩, K4⟩
              have k4 := k3.trans K4
              have R1_4 := R1_3.kept K4 (by simp)
              have D5_4 := D5_3.kept K4 (by simp)
              have D4_4 := D4_3.kept K4 (by simp)
              have c4 := c3.kept K4 (by simp)
              have h4 := k4.size
              have hp4 := k3.size
              try simp only [Act.put, List.setIfInBounds_toArray, List.set_cons_zero, List.set_cons_succ]
              refine hK.out _ _ (c4) (fun hS => ?_)
              clear hK K
              refine wpAnyH_ready (rs := [6]) (by kernel_rfl) (by simp) ?_
              refine AllReadyH.cons (o := { dst := none, op := Op.store 35 (Operand.tmp 13) (Operand.tmp 72), type := 0, pos := "law.go:177", after := #[{ on := 4, ground := Ground.data }, { on := 1, ground := Ground.data }, { on := 3, ground := Ground.chain }, { on := 0, ground := Ground.phase }, { on := 1, ground := Ground.phase }, { on := 2, ground := Ground.textOnly Departure.lateStores }, { on := 3, ground := Ground.textOnly Departure.lateStoresUnsure }, { on := 4, ground := Ground.phase }, { on := 5, ground := Ground.phase }], guard := none }) rfl (fun K hK => ?_) AllReadyH.nil
              rw [if_pos (by rfl)]
              have x1 := R1_4.rowR.neRW D4_4 (by decide)
              have x3 := R3_4.rowR.neRW D4_4 (by decide)
              have xc := c4.ne D4_4 (by decide)
              refine wp_store_row 35 (.tmp 13) (.tmp 72) rfl q4 (rmA c (some ⟨g1, 0, none⟩) LL LL 0 Acc.zero) rfl rfl 35 rmZ D4_4 (by rw [isT_rm.1]; rfl) rfl (rm_one _ _ _ _ _ _) ?_
              have D4_5 := D4_4.row (rmA c (some ⟨g1, 0, none⟩) LL LL 0 Acc.zero)
              have D5_5 := D5_4.rowOther (c := q4) (rmA c (some ⟨g1, 0, none⟩) LL LL 0 Acc.zero) (fun e => ne e.symm)
              have kk5 : Kept [q4] w4 (w4.setRow q4 (rmA c (some ⟨g1, 0, none⟩) LL LL 0 Acc.zero)) := (Kept.refl [q4] w4).setRow (b := q4) (Or.inl (by simp)) _
              have R1_5 := R1_4.kept kk5 (by simp; omega)
              have R3_5 := R3_4.kept kk5 (by simp; omega)
              have c5 := c4.kept kk5 (by simp; omega)
              have k5 := k4.setRow (b := q4) (Or.inr b4) (rmA c (some ⟨g1, 0, none⟩) LL LL 0 Acc.zero)
              clear x1 x3 xc kk5
              simp only [Act.put]
              refine hK.out _ _ (c5) (fun hS => ?_)
              clear hK K
              refine wpAnyH_ready (rs := [7]) (by kernel_rfl) (by simp) ?_
              refine AllReadyH.cons (o := { dst := none, op := Op.store 35 (Operand.tmp 14) (Operand.tmp 74), type := 0, pos := "law.go:177", after := #[{ on := 5, ground := Ground.data }, { on := 3, ground := Ground.data }, { on := 6, ground := Ground.chain }, { on := 0, ground := Ground.phase }, { on := 1, ground := Ground.phase }, { on := 2, ground := Ground.phase }, { on := 3, ground := Ground.phase }, { on := 4, ground := Ground.phase }, { on := 5, ground := Ground.phase }, { on := 6, ground := Ground.phase }], guard := none }) rfl (fun K hK => ?_) AllReadyH.nil
              rw [if_pos (by rfl)]
              have x1 := R1_5.rowR.neRW D5_5 (by decide)
              have x3 := R3_5.rowR.neRW D5_5 (by decide)
              have xc := c5.ne D5_5 (by decide)
              refine wp_store_row 35 (.tmp 14) (.tmp 74) rfl q5 (rmA c (some ⟨g3, 0, none⟩) LL LL 0 Acc.zero) rfl rfl 35 rmZ D5_5 (by rw [isT_rm.1]; rfl) rfl (rm_one _ _ _ _ _ _) ?_
              have D5_6 := D5_5.row (rmA c (some ⟨g3, 0, none⟩) LL LL 0 Acc.zero)
              have D4_6 := D4_5.rowOther (c := q5) (rmA c (some ⟨g3, 0, none⟩) LL LL 0 Acc.zero) ne
              have kk6 : Kept [q5] (w4.setRow q4 (rmA c (some ⟨g1, 0, none⟩) LL LL 0 Acc.zero)) ((w4.setRow q4 (rmA c (some ⟨g1, 0, none⟩) LL LL 0 Acc.zero)).setRow q5 (rmA c (some ⟨g3, 0, none⟩) LL LL 0 Acc.zero)) := (Kept.refl [q5] (w4.setRow q4 (rmA c (some ⟨g1, 0, none⟩) LL LL 0 Acc.zero))).setRow (b := q5) (Or.inl (by simp)) _
              have R1_6 := R1_5.kept kk6 (by simp; omega)
              have R3_6 := R3_5.kept kk6 (by simp; omega)
              have c6 := c5.kept kk6 (by simp; omega)
              have k6 := k5.setRow (b := q5) (Or.inr b5) (rmA c (some ⟨g3, 0, none⟩) LL LL 0 Acc.zero)
              clear x1 x3 xc kk6
              simp only [Act.put]
              refine hK.out _ _ (c6) (fun hS => ?_)
              clear hK K
              refine wpAnyH_done (by kernel_rfl) ?_ _
              clear hS
              go_wp2
              go_meet
              case rel => exact ⟨q4, q5, g1, g3, rfl, rfl, b4, b5, by omega, by omega, ne, D4_6, D5_6, R1_6, R3_6, k6⟩
            refine AllReadyH.cons (o := { dst := some 13, op := Op.alloc 35, type := 0, pos := "law.go:177", after := #[], guard := none }) rfl (fun K hK => ?_) ?_
            · rw [if_pos (by rfl)]
              have h1 := kU.size
              refine wp_alloc_rw 35 rmZ (by kernel_rfl) ?_
              obtain ⟨q4, hq4⟩ : ∃ q4, q4 = U6.heap.size := ⟨_, rfl⟩
              have D4_1 : RW 35 (U6.alloc (.cells rmZ 35)) q4 rmZ := by rw [hq4]; exact RW.new _ _ _
              have K1 : Kept [] U6 (U6.alloc (.cells rmZ 35)) := (Kept.refl [] U6).alloc _
              rw [← hq4]
              have b4 : U.heap.size ≤ q4 := by omega
              clear hq4
              generalize (U6.alloc (.cells rmZ 35)) = w1 at D4_1 K1 ⊢
              have k1 := kU.trans K1
              have c1 := CU.kept K1 (by simp)
              try simp only [Act.put, List.setIfInBounds_toArray, List.set_cons_zero, List.set_cons_succ]
              refine hK.out _ _ (c1) (fun hS => ?_)
              clear hK K
              refine wpAnyH_ready (rs := [1, 5]) (by kernel_rfl) (by simp) ?_
              refine AllReadyH.cons (o := { dst := some 72, op := Op.call { callee := Callee.value (Operand.func 27), args := #[Operand.tmp 71], argTypes := #[23] }, type := 35, pos := "law.go:177", after := #[{ on := 0, ground := Ground.data }], guard := none }) rfl (fun K hK => ?_) ?_
              · rw [if_pos (by rfl)]
                refine wp_calls 27 #[.agg #[.int .i64 c.t, .int .i64 c.s, .int .i64 c.c, .int .i64 c.h, .int .i64 c.k, .int .i64 c.e, .int .i64 c.l]] (by kernel_rfl) (fun v V => (∃ g, v = .agg (rmA c (some ⟨g, 0, none⟩) LL LL 0 Acc.zero) ∧ w1.heap.size ≤ g ∧ Row V g FC) ∧ Kept [] w1 V) ((RN.out _).mono fun e w' ⟨g, h1, h2, h3, h4⟩ => ⟨_, h1, ⟨g, rfl, h2, h3⟩, h4⟩) ?_
                rintro _ w2 ⟨⟨g1, rfl, hg1, R1_2⟩, K2⟩
                have k2 := k1.trans K2
                have D4_2 := D4_1.kept K2 (by simp)
                have c2 := c1.kept K2 (by simp)
                have h2 := k2.size
                have hp2 := k1.size
                try simp only [Act.put, List.setIfInBounds_toArray, List.set_cons_zero, List.set_cons_succ]
                refine hK.out _ _ (c2) (fun hS => ?_)
                clear hK K
                refine wpAnyH_ready (rs := [3, 5]) (by kernel_rfl) (by simp) ?_
                refine AllReadyH.cons (o := { dst := some 74, op := Op.call { callee := Callee.value (Operand.func 27), args := #[Operand.tmp 73], argTypes := #[23] }, type := 35, pos := "law.go:177", after := #[{ on := 2, ground := Ground.data }, { on := 1, ground := Ground.chain }], guard := none }) rfl (fun K hK => ?_) ?_
                · rw [if_pos (by rfl)]
                  refine wp_calls 27 #[.agg #[.int .i64 c.t, .int .i64 c.s, .int .i64 c.c, .int .i64 c.h, .int .i64 c.k, .int .i64 c.e, .int .i64 c.l]] (by kernel_rfl) (fun v V => (∃ g, v = .agg (rmA c (some ⟨g, 0, none⟩) LL LL 0 Acc.zero) ∧ w2.heap.size ≤ g ∧ Row V g FC) ∧ Kept [] w2 V) ((RN.out _).mono fun e w' ⟨g, h1, h2, h3, h4⟩ => ⟨_, h1, ⟨g, rfl, h2, h3⟩, h4⟩) ?_
                  rintro _ w3 ⟨⟨g3, rfl, hg3, R3_3⟩, K3⟩
                  have k3 := k2.trans K3
                  have D4_3 := D4_2.kept K3 (by simp)
                  have R1_3 := R1_2.kept K3 (by simp)
                  have c3 := c2.kept K3 (by simp)
                  have h3 := k3.size
                  have hp3 := k2.size
                  try simp only [Act.put, List.setIfInBounds_toArray, List.set_cons_zero, List.set_cons_succ]
                  refine hK.out _ _ (c3) (fun hS => ?_)
                  clear hK K
                  refine wpAnyH_ready (rs := [5]) (by kernel_rfl) (by simp) ?_
                  refine AllReadyH.cons (o := { dst := some 14, op := Op.alloc 35, type := 0, pos := "law.go:177", after := #[], guard := none }) rfl (fun K hK => ?_) AllReadyH.nil
                  rw [if_pos (by rfl)]
                  have h4 := k3.size
                  have l4 := D4_3.lt
                  refine wp_alloc_rw 35 rmZ (by kernel_rfl) ?_
                  obtain ⟨q5, hq5⟩ : ∃ q5, q5 = w3.heap.size := ⟨_, rfl⟩
                  have D5_4 : RW 35 (w3.alloc (.cells rmZ 35)) q5 rmZ := by rw [hq5]; exact RW.new _ _ _
                  have K4 : Kept [] w3 (w3.alloc (.cells rmZ 35)) := (Kept.refl [] w3).alloc _
                  rw [← hq5]
                  have b5 : U.heap.size ≤ q5 := by omega
                  have ne : ¬ q4 = q5 := by omega
                  clear hq5
                  generalize (w3.alloc (.cells rmZ 35)) = w4 at D5_4 K4 ⊢
                  have k4 := k3.trans K4
                  have D4_4 := D4_3.kept K4 (by simp)
                  have R1_4 := R1_3.kept K4 (by simp)
                  have R3_4 := R3_3.kept K4 (by simp)
                  have c4 := c3.kept K4 (by simp)
                  try simp only [Act.put, List.setIfInBounds_toArray, List.set_cons_zero, List.set_cons_succ]
                  refine hK.out _ _ (c4) (fun hS => ?_)
                  clear hK K
                  refine wpAnyH_ready (rs := [6]) (by kernel_rfl) (by simp) ?_
                  refine AllReadyH.cons (o := { dst := none, op := Op.store 35 (Operand.tmp 13) (Operand.tmp 72), type := 0, pos := "law.go:177", after := #[{ on := 4, ground := Ground.data }, { on := 1, ground := Ground.data }, { on := 3, ground := Ground.chain }, { on := 0, ground := Ground.phase }, { on := 1, ground := Ground.phase }, { on := 2, ground := Ground.textOnly Departure.lateStores }, { on := 3, ground := Ground.textOnly Departure.lateStoresUnsure }, { on := 4, ground := Ground.phase }, { on := 5, ground := Ground.phase }], guard := none }) rfl (fun K hK => ?_) AllReadyH.nil
                  rw [if_pos (by rfl)]
                  have x1 := R1_4.rowR.neRW D4_4 (by decide)
                  have x3 := R3_4.rowR.neRW D4_4 (by decide)
                  have xc := c4.ne D4_4 (by decide)
                  refine wp_store_row 35 (.tmp 13) (.tmp 72) rfl q4 (rmA c (some ⟨g1, 0, none⟩) LL LL 0 Acc.zero) rfl rfl 35 rmZ D4_4 (by rw [isT_rm.1]; rfl) rfl (rm_one _ _ _ _ _ _) ?_
                  have D4_5 := D4_4.row (rmA c (some ⟨g1, 0, none⟩) LL LL 0 Acc.zero)
                  have D5_5 := D5_4.rowOther (c := q4) (rmA c (some ⟨g1, 0, none⟩) LL LL 0 Acc.zero) (fun e => ne e.symm)
                  have kk5 : Kept [q4] w4 (w4.setRow q4 (rmA c (some ⟨g1, 0, none⟩) LL LL 0 Acc.zero)) := (Kept.refl [q4] w4).setRow (b := q4) (Or.inl (by simp)) _
                  have R1_5 := R1_4.kept kk5 (by simp; omega)
                  have R3_5 := R3_4.kept kk5 (by simp; omega)
                  have c5 := c4.kept kk5 (by simp; omega)
                  have k5 := k4.setRow (b := q4) (Or.inr b4) (rmA c (some ⟨g1, 0, none⟩) LL LL 0 Acc.zero)
                  clear x1 x3 xc kk5
                  simp only [Act.put]
                  refine hK.out _ _ (c5) (fun hS => ?_)
                  clear hK K
                  refine wpAnyH_ready (rs := [7]) (by kernel_rfl) (by simp) ?_
                  refine AllReadyH.cons (o := { dst := none, op := Op.store 35 (Operand.tmp 14) (Operand.tmp 74), type := 0, pos := "law.go:177", after := #[{ on := 5, ground := Ground.data }, { on := 3, ground := Ground.data }, { on := 6, ground := Ground.chain }, { on := 0, ground := Ground.phase }, { on := 1, ground := Ground.phase }, { on := 2, ground := Ground.phase }, { on := 3, ground := Ground.phase }, { on := 4, ground := Ground.phase }, { on := 5, ground := Ground.phase }, { on := 6, ground := Ground.phase }], guard := none }) rfl (fun K hK => ?_) AllReadyH.nil
                  rw [if_pos (by rfl)]
                  have x1 := R1_5.rowR.neRW D5_5 (by decide)
                  have x3 := R3_5.rowR.neRW D5_5 (by decide)
                  have xc := c5.ne D5_5 (by decide)
                  refine wp_store_row 35 (.tmp 14) (.tmp 74) rfl q5 (rmA c (some ⟨g3, 0, none⟩) LL LL 0 Acc.zero) rfl rfl 35 rmZ D5_5 (by rw [isT_rm.1]; rfl) rfl (rm_one _ _ _ _ _ _) ?_
                  have D5_6 := D5_5.row (rmA c (some ⟨g3, 0, none⟩) LL LL 0 Acc.zero)
                  have D4_6 := D4_5.rowOther (c := q5) (rmA c (some ⟨g3, 0, none⟩) LL LL 0 Acc.zero) ne
                  have kk6 : Kept [q5] (w4.setRow q4 (rmA c (some ⟨g1, 0, none⟩) LL LL 0 Acc.zero)) ((w4.setRow q4 (rmA c (some ⟨g1, 0, none⟩) LL LL 0 Acc.zero)).setRow q5 (rmA c (some ⟨g3, 0, none⟩) LL LL 0 Acc.zero)) := (Kept.refl [q5] (w4.setRow q4 (rmA c (some ⟨g1, 0, none⟩) LL LL 0 Acc.zero))).setRow (b := q5) (Or.inl (by simp)) _
                  have R1_6 := R1_5.kept kk6 (by simp; omega)
                  have R3_6 := R3_5.kept kk6 (by simp; omega)
                  have c6 := c5.kept kk6 (by simp; omega)
                  have k6 := k5.setRow (b := q5) (Or.inr b5) (rmA c (some ⟨g3, 0, none⟩) LL LL 0 Acc.zero)
                  clear x1 x3 xc kk6
                  simp only [Act.put]
                  refine hK.out _ _ (c6) (fun hS => ?_)
                  clear hK K
                  refine wpAnyH_done (by kernel_rfl) ?_ _
                  clear hS
                  go_wp2
                  go_meet
                  case rel => exact ⟨q4, q5, g1, g3, rfl, rfl, b4, b5, by omega, by omega, ne, D4_6, D5_6, R1_6, R3_6, k6⟩
                refine AllReadyH.cons (o := { dst := some 14, op := Op.alloc 35, type := 0, pos := "law.go:177", after := #[], guard := none }) rfl (fun K hK => ?_) AllReadyH.nil
                rw [if_pos (by rfl)]
                have h3 := k2.size
                have l3 := D4_2.lt
                refine wp_alloc_rw 35 rmZ (by kernel_rfl) ?_
                obtain ⟨q5, hq5⟩ : ∃ q5, q5 = w2.heap.size := ⟨_, rfl⟩
                have D5_3 : RW 35 (w2.alloc (.cells rmZ 35)) q5 rmZ := by rw [hq5]; exact RW.new _ _ _
                have K3 : Kept [] w2 (w2.alloc (.cells rmZ 35)) := (Kept.refl [] w2).alloc _
                rw [← hq5]
                have b5 : U.heap.size ≤ q5 := by omega
                have ne : ¬ q4 = q5 := by omega
                clear hq5
                generalize (w2.alloc (.cells rmZ 35)) = w3 at D5_3 K3 ⊢
                have k3 := k2.trans K3
                have D4_3 := D4_2.kept K3 (by simp)
                have R1_3 := R1_2.kept K3 (by simp)
                have c3 := c2.kept K3 (by simp)
                try simp only [Act.put, List.setIfInBounds_toArray, List.set_cons_zero, List.set_cons_succ]
                refine hK.out _ _ (c3) (fun hS => ?_)
                clear hK K
                refine wpAnyH_ready (rs := [3]) (by kernel_rfl) (by simp) ?_
                refine AllReadyH.cons (o := { dst := some 74, op := Op.call { callee := Callee.value (Operand.func 27), args := #[Operand.tmp 73], argTypes := #[23] }, type := 35, pos := "law.go:177", after := #[{ on := 2, ground := Ground.data }, { on := 1, ground := Ground.chain }], guard := none }) rfl (fun K hK => ?_) AllReadyH.nil
                rw [if_pos (by rfl)]
                refine wp_calls 27 #[.agg #[.int .i64 c.t, .int .i64 c.s, .int .i64 c.c, .int .i64 c.h, .int .i64 c.k, .int .i64 c.e, .int .i64 c.l]] (by kernel_rfl) (fun v V => (∃ g, v = .agg (rmA c (some ⟨g, 0, none⟩) LL LL 0 Acc.zero) ∧ w3.heap.size ≤ g ∧ Row V g FC) ∧ Kept [] w3 V) ((RN.out _).mono fun e w' ⟨g, h1, h2, h3, h4⟩ => ⟨_, h1, ⟨g, rfl, h2, h3⟩, h4⟩) ?_
                rintro _ w4 ⟨⟨g3, rfl, hg3, R3_4⟩, K4⟩
                have k4 := k3.trans K4
                have D4_4 := D4_3.kept K4 (by simp)
                have R1_4 := R1_3.kept K4 (by simp)
                have D5_4 := D5_3.kept K4 (by simp)
                have c4 := c3.kept K4 (by simp)
                have h4 := k4.size
                have hp4 := k3.size
                try simp only [Act.put, List.setIfInBounds_toArray, List.set_cons_zero, List.set_cons_succ]
                refine hK.out _ _ (c4) (fun hS => ?_)
                clear hK K
                refine wpAnyH_ready (rs := [6]) (by kernel_rfl) (by simp) ?_
                refine AllReadyH.cons (o := { dst := none, op := Op.store 35 (Operand.tmp 13) (Operand.tmp 72), type := 0, pos := "law.go:177", after := #[{ on := 4, ground := Ground.data }, { on := 1, ground := Ground.data }, { on := 3, ground := Ground.chain }, { on := 0, ground := Ground.phase }, { on := 1, ground := Ground.phase }, { on := 2, ground := Ground.textOnly Departure.lateStores }, { on := 3, ground := Ground.textOnly Departure.lateStoresUnsure }, { on := 4, ground := Ground.phase }, { on := 5, ground := Ground.phase }], guard := none }) rfl (fun K hK => ?_) AllReadyH.nil
                rw [if_pos (by rfl)]
                have x1 := R1_4.rowR.neRW D4_4 (by decide)
                have x3 := R3_4.rowR.neRW D4_4 (by decide)
                have xc := c4.ne D4_4 (by decide)
                refine wp_store_row 35 (.tmp 13) (.tmp 72) rfl q4 (rmA c (some ⟨g1, 0, none⟩) LL LL 0 Acc.zero) rfl rfl 35 rmZ D4_4 (by rw [isT_rm.1]; rfl) rfl (rm_one _ _ _ _ _ _) ?_
                have D4_5 := D4_4.row (rmA c (some ⟨g1, 0, none⟩) LL LL 0 Acc.zero)
                have D5_5 := D5_4.rowOther (c := q4) (rmA c (some ⟨g1, 0, none⟩) LL LL 0 Acc.zero) (fun e => ne e.symm)
                have kk5 : Kept [q4] w4 (w4.setRow q4 (rmA c (some ⟨g1, 0, none⟩) LL LL 0 Acc.zero)) := (Kept.refl [q4] w4).setRow (b := q4) (Or.inl (by simp)) _
                have R1_5 := R1_4.kept kk5 (by simp; omega)
                have R3_5 := R3_4.kept kk5 (by simp; omega)
                have c5 := c4.kept kk5 (by simp; omega)
                have k5 := k4.setRow (b := q4) (Or.inr b4) (rmA c (some ⟨g1, 0, none⟩) LL LL 0 Acc.zero)
                clear x1 x3 xc kk5
                simp only [Act.put]
                refine hK.out _ _ (c5) (fun hS => ?_)
                clear hK K
                refine wpAnyH_ready (rs := [7]) (by kernel_rfl) (by simp) ?_
                refine AllReadyH.cons (o := { dst := none, op := Op.store 35 (Operand.tmp 14) (Operand.tmp 74), type := 0, pos := "law.go:177", after := #[{ on := 5, ground := Ground.data }, { on := 3, ground := Ground.data }, { on := 6, ground := Ground.chain }, { on := 0, ground := Ground.phase }, { on := 1, ground := Ground.phase }, { on := 2, ground := Ground.phase }, { on := 3, ground := Ground.phase }, { on := 4, ground := Ground.phase }, { on := 5, ground := Ground.phase }, { on := 6, ground := Ground.phase }], guard := none }) rfl (fun K hK => ?_) AllReadyH.nil
                rw [if_pos (by rfl)]
                have x1 := R1_5.rowR.neRW D5_5 (by decide)
                have x3 := R3_5.rowR.neRW D5_5 (by decide)
                have xc := c5.ne D5_5 (by decide)
                refine wp_store_row 35 (.tmp 14) (.tmp 74) rfl q5 (rmA c (some ⟨g3, 0, none⟩) LL LL 0 Acc.zero) rfl rfl 35 rmZ D5_5 (by rw [isT_rm.1]; rfl) rfl (rm_one _ _ _ _ _ _) ?_
                have D5_6 := D5_5.row (rmA c (some ⟨g3, 0, none⟩) LL LL 0 Acc.zero)
                have D4_6 := D4_5.rowOther (c := q5) (rmA c (some ⟨g3, 0, none⟩) LL LL 0 Acc.zero) ne
                have kk6 : Kept [q5] (w4.setRow q4 (rmA c (some ⟨g1, 0, none⟩) LL LL 0 Acc.zero)) ((w4.setRow q4 (rmA c (some ⟨g1, 0, none⟩) LL LL 0 Acc.zero)).setRow q5 (rmA c (some ⟨g3, 0, none⟩) LL LL 0 Acc.zero)) := (Kept.refl [q5] (w4.setRow q4 (rmA c (some ⟨g1, 0, none⟩) LL LL 0 Acc.zero))).setRow (b := q5) (Or.inl (by simp)) _
                have R1_6 := R1_5.kept kk6 (by simp; omega)
                have R3_6 := R3_5.kept kk6 (by simp; omega)
                have c6 := c5.kept kk6 (by simp; omega)
                have k6 := k5.setRow (b := q5) (Or.inr b5) (rmA c (some ⟨g3, 0, none⟩) LL LL 0 Acc.zero)
                clear x1 x3 xc kk6
                simp only [Act.put]
                refine hK.out _ _ (c6) (fun hS => ?_)
                clear hK K
                refine wpAnyH_done (by kernel_rfl) ?_ _
                clear hS
                go_wp2
                go_meet
                case rel => exact ⟨q4, q5, g1, g3, rfl, rfl, b4, b5, by omega, by omega, ne, D4_6, D5_6, R1_6, R3_6, k6⟩
              refine AllReadyH.cons (o := { dst := some 14, op := Op.alloc 35, type := 0, pos := "law.go:177", after := #[], guard := none }) rfl (fun K hK => ?_) AllReadyH.nil
              rw [if_pos (by rfl)]
              have h2 := k1.size
              have l2 := D4_1.lt
              refine wp_alloc_rw 35 rmZ (by kernel_rfl) ?_
              obtain ⟨q5, hq5⟩ : ∃ q5, q5 = w1.heap.size := ⟨_, rfl⟩
              have D5_2 : RW 35 (w1.alloc (.cells rmZ 35)) q5 rmZ := by rw [hq5]; exact RW.new _ _ _
              have K2 : Kept [] w1 (w1.alloc (.cells rmZ 35)) := (Kept.refl [] w1).alloc _
              rw [← hq5]
              have b5 : U.heap.size ≤ q5 := by omega
              have ne : ¬ q4 = q5 := by omega
              clear hq5
              generalize (w1.alloc (.cells rmZ 35)) = w2 at D5_2 K2 ⊢
              have k2 := k1.trans K2
              have D4_2 := D4_1.kept K2 (by simp)
              have c2 := c1.kept K2 (by simp)
              try simp only [Act.put, List.setIfInBounds_toArray, List.set_cons_zero, List.set_cons_succ]
              refine hK.out _ _ (c2) (fun hS => ?_)
              clear hK K
              refine wpAnyH_ready (rs := [1]) (by kernel_rfl) (by simp) ?_
              refine AllReadyH.cons (o := { dst := some 72, op := Op.call { callee := Callee.value (Operand.func 27), args := #[Operand.tmp 71], argTypes := #[23] }, type := 35, pos := "law.go:177", after := #[{ on := 0, ground := Ground.data }], guard := none }) rfl (fun K hK => ?_) AllReadyH.nil
              rw [if_pos (by rfl)]
              refine wp_calls 27 #[.agg #[.int .i64 c.t, .int .i64 c.s, .int .i64 c.c, .int .i64 c.h, .int .i64 c.k, .int .i64 c.e, .int .i64 c.l]] (by kernel_rfl) (fun v V => (∃ g, v = .agg (rmA c (some ⟨g, 0, none⟩) LL LL 0 Acc.zero) ∧ w2.heap.size ≤ g ∧ Row V g FC) ∧ Kept [] w2 V) ((RN.out _).mono fun e w' ⟨g, h1, h2, h3, h4⟩ => ⟨_, h1, ⟨g, rfl, h2, h3⟩, h4⟩) ?_
              rintro _ w3 ⟨⟨g1, rfl, hg1, R1_3⟩, K3⟩
              have k3 := k2.trans K3
              have D4_3 := D4_2.kept K3 (by simp)
              have D5_3 := D5_2.kept K3 (by simp)
              have c3 := c2.kept K3 (by simp)
              have h3 := k3.size
              have hp3 := k2.size
              try simp only [Act.put, List.setIfInBounds_toArray, List.set_cons_zero, List.set_cons_succ]
              refine hK.out _ _ (c3) (fun hS => ?_)
              clear hK K
              refine wpAnyH_ready (rs := [3]) (by kernel_rfl) (by simp) ?_
              refine AllReadyH.cons (o := { dst := some 74, op := Op.call { callee := Callee.value (Operand.func 27), args := #[Operand.tmp 73], argTypes := #[23] }, type := 35, pos := "law.go:177", after := #[{ on := 2, ground := Ground.data }, { on := 1, ground := Ground.chain }], guard := none }) rfl (fun K hK => ?_) AllReadyH.nil
              rw [if_pos (by rfl)]
              refine wp_calls 27 #[.agg #[.int .i64 c.t, .int .i64 c.s, .int .i64 c.c, .int .i64 c.h, .int .i64 c.k, .int .i64 c.e, .int .i64 c.l]] (by kernel_rfl) (fun v V => (∃ g, v = .agg (rmA c (some ⟨g, 0, none⟩) LL LL 0 Acc.zero) ∧ w3.heap.size ≤ g ∧ Row V g FC) ∧ Kept [] w3 V) ((RN.out _).mono fun e w' ⟨g, h1, h2, h3, h4⟩ => ⟨_, h1, ⟨g, rfl, h2, h3⟩, h4⟩) ?_
              rintro _ w4 ⟨⟨g3, rfl, hg3, R3_4⟩, K4⟩
              have k4 := k3.trans K4
              have D4_4 := D4_3.kept K4 (by simp)
              have D5_4 := D5_3.kept K4 (by simp)
              have R1_4 := R1_3.kept K4 (by simp)
              have c4 := c3.kept K4 (by simp)
              have h4 := k4.size
              have hp4 := k3.size
              try simp only [Act.put, List.setIfInBounds_toArray, List.set_cons_zero, List.set_cons_succ]
              refine hK.out _ _ (c4) (fun hS => ?_)
              clear hK K
              refine wpAnyH_ready (rs := [6]) (by kernel_rfl) (by simp) ?_
              refine AllReadyH.cons (o := { dst := none, op := Op.store 35 (Operand.tmp 13) (Operand.tmp 72), type := 0, pos := "law.go:177", after := #[{ on := 4, ground := Ground.data }, { on := 1, ground := Ground.data }, { on := 3, ground := Ground.chain }, { on := 0, ground := Ground.phase }, { on := 1, ground := Ground.phase }, { on := 2, ground := Ground.textOnly Departure.lateStores }, { on := 3, ground := Ground.textOnly Departure.lateStoresUnsure }, { on := 4, ground := Ground.phase }, { on := 5, ground := Ground.phase }], guard := none }) rfl (fun K hK => ?_) AllReadyH.nil
              rw [if_pos (by rfl)]
              have x1 := R1_4.rowR.neRW D4_4 (by decide)
              have x3 := R3_4.rowR.neRW D4_4 (by decide)
              have xc := c4.ne D4_4 (by decide)
              refine wp_store_row 35 (.tmp 13) (.tmp 72) rfl q4 (rmA c (some ⟨g1, 0, none⟩) LL LL 0 Acc.zero) rfl rfl 35 rmZ D4_4 (by rw [isT_rm.1]; rfl) rfl (rm_one _ _ _ _ _ _) ?_
              have D4_5 := D4_4.row (rmA c (some ⟨g1, 0, none⟩) LL LL 0 Acc.zero)
              have D5_5 := D5_4.rowOther (c := q4) (rmA c (some ⟨g1, 0, none⟩) LL LL 0 Acc.zero) (fun e => ne e.symm)
              have kk5 : Kept [q4] w4 (w4.setRow q4 (rmA c (some ⟨g1, 0, none⟩) LL LL 0 Acc.zero)) := (Kept.refl [q4] w4).setRow (b := q4) (Or.inl (by simp)) _
              have R1_5 := R1_4.kept kk5 (by simp; omega)
              have R3_5 := R3_4.kept kk5 (by simp; omega)
              have c5 := c4.kept kk5 (by simp; omega)
              have k5 := k4.setRow (b := q4) (Or.inr b4) (rmA c (some ⟨g1, 0, none⟩) LL LL 0 Acc.zero)
              clear x1 x3 xc kk5
              simp only [Act.put]
              refine hK.out _ _ (c5) (fun hS => ?_)
              clear hK K
              refine wpAnyH_ready (rs := [7]) (by kernel_rfl) (by simp) ?_
              refine AllReadyH.cons (o := { dst := none, op := Op.store 35 (Operand.tmp 14) (Operand.tmp 74), type := 0, pos := "law.go:177", after := #[{ on := 5, ground := Ground.data }, { on := 3, ground := Ground.data }, { on := 6, ground := Ground.chain }, { on := 0, ground := Ground.phase }, { on := 1, ground := Ground.phase }, { on := 2, ground := Ground.phase }, { on := 3, ground := Ground.phase }, { on := 4, ground := Ground.phase }, { on := 5, ground := Ground.phase }, { on := 6, ground := Ground.phase }], guard := none }) rfl (fun K hK => ?_) AllReadyH.nil
              rw [if_pos (by rfl)]
              have x1 := R1_5.rowR.neRW D5_5 (by decide)
              have x3 := R3_5.rowR.neRW D5_5 (by decide)
              have xc := c5.ne D5_5 (by decide)
              refine wp_store_row 35 (.tmp 14) (.tmp 74) rfl q5 (rmA c (some ⟨g3, 0, none⟩) LL LL 0 Acc.zero) rfl rfl 35 rmZ D5_5 (by rw [isT_rm.1]; rfl) rfl (rm_one _ _ _ _ _ _) ?_
              have D5_6 := D5_5.row (rmA c (some ⟨g3, 0, none⟩) LL LL 0 Acc.zero)
              have D4_6 := D4_5.rowOther (c := q5) (rmA c (some ⟨g3, 0, none⟩) LL LL 0 Acc.zero) ne
              have kk6 : Kept [q5] (w4.setRow q4 (rmA c (some ⟨g1, 0, none⟩) LL LL 0 Acc.zero)) ((w4.setRow q4 (rmA c (some ⟨g1, 0, none⟩) LL LL 0 Acc.zero)).setRow q5 (rmA c (some ⟨g3, 0, none⟩) LL LL 0 Acc.zero)) := (Kept.refl [q5] (w4.setRow q4 (rmA c (some ⟨g1, 0, none⟩) LL LL 0 Acc.zero))).setRow (b := q5) (Or.inl (by simp)) _
              have R1_6 := R1_5.kept kk6 (by simp; omega)
              have R3_6 := R3_5.kept kk6 (by simp; omega)
              have c6 := c5.kept kk6 (by simp; omega)
              have k6 := k5.setRow (b := q5) (Or.inr b5) (rmA c (some ⟨g3, 0, none⟩) LL LL 0 Acc.zero)
              clear x1 x3 xc kk6
              simp only [Act.put]
              refine hK.out _ _ (c6) (fun hS => ?_)
              clear hK K
              refine wpAnyH_done (by kernel_rfl) ?_ _
              clear hS
              go_wp2
              go_meet
              case rel => exact ⟨q4, q5, g1, g3, rfl, rfl, b4, b5, by omega, by omega, ne, D4_6, D5_6, R1_6, R3_6, k6⟩
            refine AllReadyH.cons (o := { dst := some 14, op := Op.alloc 35, type := 0, pos := "law.go:177", after := #[], guard := none }) rfl (fun K hK => ?_) AllReadyH.nil
            rw [if_pos (by rfl)]
            have h1 := kU.size
            refine wp_alloc_rw 35 rmZ (by kernel_rfl) ?_
            obtain ⟨q5, hq5⟩ : ∃ q5, q5 = U6.heap.size := ⟨_, rfl⟩
            have D5_1 : RW 35 (U6.alloc (.cells rmZ 35)) q5 rmZ := by rw [hq5]; exact RW.new _ _ _
            have K1 : Kept [] U6 (U6.alloc (.cells rmZ 35)) := (Kept.refl [] U6).alloc _
            rw [← hq5]
            have b5 : U.heap.size ≤ q5 := by omega
            clear hq5
            generalize (U6.alloc (.cells rmZ 35)) = w1 at D5_1 K1 ⊢
            have k1 := kU.trans K1
            have c1 := CU.kept K1 (by simp)
            try simp only [Act.put, List.setIfInBounds_toArray, List.set_cons_zero, List.set_cons_succ]
            refine hK.out _ _ (c1) (fun hS => ?_)
            clear hK K
            refine wpAnyH_ready (rs := [1, 4]) (by kernel_rfl) (by simp) ?_
            refine AllReadyH.cons (o := { dst := some 72, op := Op.call { callee := Callee.value (Operand.func 27), args := #[Operand.tmp 71], argTypes := #[23] }, type := 35, pos := "law.go:177", after := #[{ on := 0, ground := Ground.data }], guard := none }) rfl (fun K hK => ?_) ?_
            · rw [if_pos (by rfl)]
              refine wp_calls 27 #[.agg #[.int .i64 c.t, .int .i64 c.s, .int .i64 c.c, .int .i64 c.h, .int .i64 c.k, .int .i64 c.e, .int .i64 c.l]] (by kernel_rfl) (fun v V => (∃ g, v = .agg (rmA c (some ⟨g, 0, none⟩) LL LL 0 Acc.zero) ∧ w1.heap.size ≤ g ∧ Row V g FC) ∧ Kept [] w1 V) ((RN.out _).mono fun e w' ⟨g, h1, h2, h3, h4⟩ => ⟨_, h1, ⟨g, rfl, h2, h3⟩, h4⟩) ?_
              rintro _ w2 ⟨⟨g1, rfl, hg1, R1_2⟩, K2⟩
              have k2 := k1.trans K2
              have D5_2 := D5_1.kept K2 (by simp)
              have c2 := c1.kept K2 (by simp)
              have h2 := k2.size
              have hp2 := k1.size
              try simp only [Act.put, List.setIfInBounds_toArray, List.set_cons_zero, List.set_cons_succ]
              refine hK.out _ _ (c2) (fun hS => ?_)
              clear hK K
              refine wpAnyH_ready (rs := [3, 4]) (by kernel_rfl) (by simp) ?_
              refine AllReadyH.cons (o := { dst := some 74, op := Op.call { callee := Callee.value (Operand.func 27), args := #[Operand.tmp 73], argTypes := #[23] }, type := 35, pos := "law.go:177", after := #[{ on := 2, ground := Ground.data }, { on := 1, ground := Ground.chain }], guard := none }) rfl (fun K hK => ?_) ?_
              · rw [if_pos (by rfl)]
                refine wp_calls 27 #[.agg #[.int .i64 c.t, .int .i64 c.s, .int .i64 c.c, .int .i64 c.h, .int .i64 c.k, .int .i64 c.e, .int .i64 c.l]] (by kernel_rfl) (fun v V => (∃ g, v = .agg (rmA c (some ⟨g, 0, none⟩) LL LL 0 Acc.zero) ∧ w2.heap.size ≤ g ∧ Row V g FC) ∧ Kept [] w2 V) ((RN.out _).mono fun e w' ⟨g, h1, h2, h3, h4⟩ => ⟨_, h1, ⟨g, rfl, h2, h3⟩, h4⟩) ?_
                rintro _ w3 ⟨⟨g3, rfl, hg3, R3_3⟩, K3⟩
                have k3 := k2.trans K3
                have D5_3 := D5_2.kept K3 (by simp)
                have R1_3 := R1_2.kept K3 (by simp)
                have c3 := c2.kept K3 (by simp)
                have h3 := k3.size
                have hp3 := k2.size
                try simp only [Act.put, List.setIfInBounds_toArray, List.set_cons_zero, List.set_cons_succ]
                refine hK.out _ _ (c3) (fun hS => ?_)
                clear hK K
                refine wpAnyH_ready (rs := [4]) (by kernel_rfl) (by simp) ?_
                refine AllReadyH.cons (o := { dst := some 13, op := Op.alloc 35, type := 0, pos := "law.go:177", after := #[], guard := none }) rfl (fun K hK => ?_) AllReadyH.nil
                rw [if_pos (by rfl)]
                have h4 := k3.size
                have l4 := D5_3.lt
                refine wp_alloc_rw 35 rmZ (by kernel_rfl) ?_
                obtain ⟨q4, hq4⟩ : ∃ q4, q4 = w3.heap.size := ⟨_, rfl⟩
                have D4_4 : RW 35 (w3.alloc (.cells rmZ 35)) q4 rmZ := by rw [hq4]; exact RW.new _ _ _
                have K4 : Kept [] w3 (w3.alloc (.cells rmZ 35)) := (Kept.refl [] w3).alloc _
                rw [← hq4]
                have b4 : U.heap.size ≤ q4 := by omega
                have ne : ¬ q4 = q5 := by omega
                clear hq4
                generalize (w3.alloc (.cells rmZ 35)) = w4 at D4_4 K4 ⊢
                have k4 := k3.trans K4
                have D5_4 := D5_3.kept K4 (by simp)
                have R1_4 := R1_3.kept K4 (by simp)
                have R3_4 := R3_3.kept K4 (by simp)
                have c4 := c3.kept K4 (by simp)
                try simp only [Act.put, List.setIfInBounds_toArray, List.set_cons_zero, List.set_cons_succ]
                refine hK.out _ _ (c4) (fun hS => ?_)
                clear hK K
                refine wpAnyH_ready (rs := [6]) (by kernel_rfl) (by simp) ?_
                refine AllReadyH.cons (o := { dst := none, op := Op.store 35 (Operand.tmp 13) (Operand.tmp 72), type := 0, pos := "law.go:177", after := #[{ on := 4, ground := Ground.data }, { on := 1, ground := Ground.data }, { on := 3, ground := Ground.chain }, { on := 0, ground := Ground.phase }, { on := 1, ground := Ground.phase }, { on := 2, ground := Ground.textOnly Departure.lateStores }, { on := 3, ground := Ground.textOnly Departure.lateStoresUnsure }, { on := 4, ground := Ground.phase }, { on := 5, ground := Ground.phase }], guard := none }) rfl (fun K hK => ?_) AllReadyH.nil
                rw [if_pos (by rfl)]
                have x1 := R1_4.rowR.neRW D4_4 (by decide)
                have x3 := R3_4.rowR.neRW D4_4 (by decide)
                have xc := c4.ne D4_4 (by decide)
                refine wp_store_row 35 (.tmp 13) (.tmp 72) rfl q4 (rmA c (some ⟨g1, 0, none⟩) LL LL 0 Acc.zero) rfl rfl 35 rmZ D4_4 (by rw [isT_rm.1]; rfl) rfl (rm_one _ _ _ _ _ _) ?_
                have D4_5 := D4_4.row (rmA c (some ⟨g1, 0, none⟩) LL LL 0 Acc.zero)
                have D5_5 := D5_4.rowOther (c := q4) (rmA c (some ⟨g1, 0, none⟩) LL LL 0 Acc.zero) (fun e => ne e.symm)
                have kk5 : Kept [q4] w4 (w4.setRow q4 (rmA c (some ⟨g1, 0, none⟩) LL LL 0 Acc.zero)) := (Kept.refl [q4] w4).setRow (b := q4) (Or.inl (by simp)) _
                have R1_5 := R1_4.kept kk5 (by simp; omega)
                have R3_5 := R3_4.kept kk5 (by simp; omega)
                have c5 := c4.kept kk5 (by simp; omega)
                have k5 := k4.setRow (b := q4) (Or.inr b4) (rmA c (some ⟨g1, 0, none⟩) LL LL 0 Acc.zero)
                clear x1 x3 xc kk5
                simp only [Act.put]
                refine hK.out _ _ (c5) (fun hS => ?_)
                clear hK K
                refine wpAnyH_ready (rs := [7]) (by kernel_rfl) (by simp) ?_
                refine AllReadyH.cons (o := { dst := none, op := Op.store 35 (Operand.tmp 14) (Operand.tmp 74), type := 0, pos := "law.go:177", after := #[{ on := 5, ground := Ground.data }, { on := 3, ground := Ground.data }, { on := 6, ground := Ground.chain }, { on := 0, ground := Ground.phase }, { on := 1, ground := Ground.phase }, { on := 2, ground := Ground.phase }, { on := 3, ground := Ground.phase }, { on := 4, ground := Ground.phase }, { on := 5, ground := Ground.phase }, { on := 6, ground := Ground.phase }], guard := none }) rfl (fun K hK => ?_) AllReadyH.nil
                rw [if_pos (by rfl)]
                have x1 := R1_5.rowR.neRW D5_5 (by decide)
                have x3 := R3_5.rowR.neRW D5_5 (by decide)
                have xc := c5.ne D5_5 (by decide)
                refine wp_store_row 35 (.tmp 14) (.tmp 74) rfl q5 (rmA c (some ⟨g3, 0, none⟩) LL LL 0 Acc.zero) rfl rfl 35 rmZ D5_5 (by rw [isT_rm.1]; rfl) rfl (rm_one _ _ _ _ _ _) ?_
                have D5_6 := D5_5.row (rmA c (some ⟨g3, 0, none⟩) LL LL 0 Acc.zero)
                have D4_6 := D4_5.rowOther (c := q5) (rmA c (some ⟨g3, 0, none⟩) LL LL 0 Acc.zero) ne
                have kk6 : Kept [q5] (w4.setRow q4 (rmA c (some ⟨g1, 0, none⟩) LL LL 0 Acc.zero)) ((w4.setRow q4 (rmA c (some ⟨g1, 0, none⟩) LL LL 0 Acc.zero)).setRow q5 (rmA c (some ⟨g3, 0, none⟩) LL LL 0 Acc.zero)) := (Kept.refl [q5] (w4.setRow q4 (rmA c (some ⟨g1, 0, none⟩) LL LL 0 Acc.zero))).setRow (b := q5) (Or.inl (by simp)) _
                have R1_6 := R1_5.kept kk6 (by simp; omega)
                have R3_6 := R3_5.kept kk6 (by simp; omega)
                have c6 := c5.kept kk6 (by simp; omega)
                have k6 := k5.setRow (b := q5) (Or.inr b5) (rmA c (some ⟨g3, 0, none⟩) LL LL 0 Acc.zero)
                clear x1 x3 xc kk6
                simp only [Act.put]
                refine hK.out _ _ (c6) (fun hS => ?_)
                clear hK K
                refine wpAnyH_done (by kernel_rfl) ?_ _
                clear hS
                go_wp2
                go_meet
                case rel => exact ⟨q4, q5, g1, g3, rfl, rfl, b4, b5, by omega, by omega, ne, D4_6, D5_6, R1_6, R3_6, k6⟩
              refine AllReadyH.cons (o := { dst := some 13, op := Op.alloc 35, type := 0, pos := "law.go:177", after := #[], guard := none }) rfl (fun K hK => ?_) AllReadyH.nil
              rw [if_pos (by rfl)]
              have h3 := k2.size
              have l3 := D5_2.lt
              refine wp_alloc_rw 35 rmZ (by kernel_rfl) ?_
              obtain ⟨q4, hq4⟩ : ∃ q4, q4 = w2.heap.size := ⟨_, rfl⟩
              have D4_3 : RW 35 (w2.alloc (.cells rmZ 35)) q4 rmZ := by rw [hq4]; exact RW.new _ _ _
              have K3 : Kept [] w2 (w2.alloc (.cells rmZ 35)) := (Kept.refl [] w2).alloc _
              rw [← hq4]
              have b4 : U.heap.size ≤ q4 := by omega
              have ne : ¬ q4 = q5 := by omega
              clear hq4
              generalize (w2.alloc (.cells rmZ 35)) = w3 at D4_3 K3 ⊢
              have k3 := k2.trans K3
              have D5_3 := D5_2.kept K3 (by simp)
              have R1_3 := R1_2.kept K3 (by simp)
              have c3 := c2.kept K3 (by simp)
              try simp only [Act.put, List.setIfInBounds_toArray, List.set_cons_zero, List.set_cons_succ]
              refine hK.out _ _ (c3) (fun hS => ?_)
              clear hK K
              refine wpAnyH_ready (rs := [3]) (by kernel_rfl) (by simp) ?_
              refine AllReadyH.cons (o := { dst := some 74, op := Op.call { callee := Callee.value (Operand.func 27), args := #[Operand.tmp 73], argTypes := #[23] }, type := 35, pos := "law.go:177", after := #[{ on := 2, ground := Ground.data }, { on := 1, ground := Ground.chain }], guard := none }) rfl (fun K hK => ?_) AllReadyH.nil
              rw [if_pos (by rfl)]
              refine wp_calls 27 #[.agg #[.int .i64 c.t, .int .i64 c.s, .int .i64 c.c, .int .i64 c.h, .int .i64 c.k, .int .i64 c.e, .int .i64 c.l]] (by kernel_rfl) (fun v V => (∃ g, v = .agg (rmA c (some ⟨g, 0, none⟩) LL LL 0 Acc.zero) ∧ w3.heap.size ≤ g ∧ Row V g FC) ∧ Kept [] w3 V) ((RN.out _).mono fun e w' ⟨g, h1, h2, h3, h4⟩ => ⟨_, h1, ⟨g, rfl, h2, h3⟩, h4⟩) ?_
              rintro _ w4 ⟨⟨g3, rfl, hg3, R3_4⟩, K4⟩
              have k4 := k3.trans K4
              have D5_4 := D5_3.kept K4 (by simp)
              have R1_4 := R1_3.kept K4 (by simp)
              have D4_4 := D4_3.kept K4 (by simp)
              have c4 := c3.kept K4 (by simp)
              have h4 := k4.size
              have hp4 := k3.size
              try simp only [Act.put, List.setIfInBounds_toArray, List.set_cons_zero, List.set_cons_succ]
              refine hK.out _ _ (c4) (fun hS => ?_)
              clear hK K
              refine wpAnyH_ready (rs := [6]) (by kernel_rfl) (by simp) ?_
              refine AllReadyH.cons (o := { dst := none, op := Op.store 35 (Operand.tmp 13) (Operand.tmp 72), type := 0, pos := "law.go:177", after := #[{ on := 4, ground := Ground.data }, { on := 1, ground := Ground.data }, { on := 3, ground := Ground.chain }, { on := 0, ground := Ground.phase }, { on := 1, ground := Ground.phase }, { on := 2, ground := Ground.textOnly Departure.lateStores }, { on := 3, ground := Ground.textOnly Departure.lateStoresUnsure }, { on := 4, ground := Ground.phase }, { on := 5, ground := Ground.phase }], guard := none }) rfl (fun K hK => ?_) AllReadyH.nil
              rw [if_pos (by rfl)]
              have x1 := R1_4.rowR.neRW D4_4 (by decide)
              have x3 := R3_4.rowR.neRW D4_4 (by decide)
              have xc := c4.ne D4_4 (by decide)
              refine wp_store_row 35 (.tmp 13) (.tmp 72) rfl q4 (rmA c (some ⟨g1, 0, none⟩) LL LL 0 Acc.zero) rfl rfl 35 rmZ D4_4 (by rw [isT_rm.1]; rfl) rfl (rm_one _ _ _ _ _ _) ?_
              have D4_5 := D4_4.row (rmA c (some ⟨g1, 0, none⟩) LL LL 0 Acc.zero)
              have D5_5 := D5_4.rowOther (c := q4) (rmA c (some ⟨g1, 0, none⟩) LL LL 0 Acc.zero) (fun e => ne e.symm)
              have kk5 : Kept [q4] w4 (w4.setRow q4 (rmA c (some ⟨g1, 0, none⟩) LL LL 0 Acc.zero)) := (Kept.refl [q4] w4).setRow (b := q4) (Or.inl (by simp)) _
              have R1_5 := R1_4.kept kk5 (by simp; omega)
              have R3_5 := R3_4.kept kk5 (by simp; omega)
              have c5 := c4.kept kk5 (by simp; omega)
              have k5 := k4.setRow (b := q4) (Or.inr b4) (rmA c (some ⟨g1, 0, none⟩) LL LL 0 Acc.zero)
              clear x1 x3 xc kk5
              simp only [Act.put]
              refine hK.out _ _ (c5) (fun hS => ?_)
              clear hK K
              refine wpAnyH_ready (rs := [7]) (by kernel_rfl) (by simp) ?_
              refine AllReadyH.cons (o := { dst := none, op := Op.store 35 (Operand.tmp 14) (Operand.tmp 74), type := 0, pos := "law.go:177", after := #[{ on := 5, ground := Ground.data }, { on := 3, ground := Ground.data }, { on := 6, ground := Ground.chain }, { on := 0, ground := Ground.phase }, { on := 1, ground := Ground.phase }, { on := 2, ground := Ground.phase }, { on := 3, ground := Ground.phase }, { on := 4, ground := Ground.phase }, { on := 5, ground := Ground.phase }, { on := 6, ground := Ground.phase }], guard := none }) rfl (fun K hK => ?_) AllReadyH.nil
              rw [if_pos (by rfl)]
              have x1 := R1_5.rowR.neRW D5_5 (by decide)
              have x3 := R3_5.rowR.neRW D5_5 (by decide)
              have xc := c5.ne D5_5 (by decide)
              refine wp_store_row 35 (.tmp 14) (.tmp 74) rfl q5 (rmA c (some ⟨g3, 0, none⟩) LL LL 0 Acc.zero) rfl rfl 35 rmZ D5_5 (by rw [isT_rm.1]; rfl) rfl (rm_one _ _ _ _ _ _) ?_
              have D5_6 := D5_5.row (rmA c (some ⟨g3, 0, none⟩) LL LL 0 Acc.zero)
              have D4_6 := D4_5.rowOther (c := q5) (rmA c (some ⟨g3, 0, none⟩) LL LL 0 Acc.zero) ne
              have kk6 : Kept [q5] (w4.setRow q4 (rmA c (some ⟨g1, 0, none⟩) LL LL 0 Acc.zero)) ((w4.setRow q4 (rmA c (some ⟨g1, 0, none⟩) LL LL 0 Acc.zero)).setRow q5 (rmA c (some ⟨g3, 0, none⟩) LL LL 0 Acc.zero)) := (Kept.refl [q5] (w4.setRow q4 (rmA c (some ⟨g1, 0, none⟩) LL LL 0 Acc.zero))).setRow (b := q5) (Or.inl (by simp)) _
              have R1_6 := R1_5.kept kk6 (by simp; omega)
              have R3_6 := R3_5.kept kk6 (by simp; omega)
              have c6 := c5.kept kk6 (by simp; omega)
              have k6 := k5.setRow (b := q5) (Or.inr b5) (rmA c (some ⟨g3, 0, none⟩) LL LL 0 Acc.zero)
              clear x1 x3 xc kk6
              simp only [Act.put]
              refine hK.out _ _ (c6) (fun hS => ?_)
              clear hK K
              refine wpAnyH_done (by kernel_rfl) ?_ _
              clear hS
              go_wp2
              go_meet
              case rel => exact ⟨q4, q5, g1, g3, rfl, rfl, b4, b5, by omega, by omega, ne, D4_6, D5_6, R1_6, R3_6, k6⟩
            refine AllReadyH.cons (o := { dst := some 13, op := Op.alloc 35, type := 0, pos := "law.go:177", after := #[], guard := none }) rfl (fun K hK => ?_) AllReadyH.nil
            rw [if_pos (by rfl)]
            have h2 := k1.size
            have l2 := D5_1.lt
            refine wp_alloc_rw 35 rmZ (by kernel_rfl) ?_
            obtain ⟨q4, hq4⟩ : ∃ q4, q4 = w1.heap.size := ⟨_, rfl⟩
            have D4_2 : RW 35 (w1.alloc (.cells rmZ 35)) q4 rmZ := by rw [hq4]; exact RW.new _ _ _
            have K2 : Kept [] w1 (w1.alloc (.cells rmZ 35)) := (Kept.refl [] w1).alloc _
            rw [← hq4]
            have b4 : U.heap.size ≤ q4 := by omega
            have ne : ¬ q4 = q5 := by omega
            clear hq4
            generalize (w1.alloc (.cells rmZ 35)) = w2 at D4_2 K2 ⊢
            have k2 := k1.trans K2
            have D5_2 := D5_1.kept K2 (by simp)
            have c2 := c1.kept K2 (by simp)
            try simp only [Act.put, List.setIfInBounds_toArray, List.set_cons_zero, List.set_cons_succ]
            refine hK.out _ _ (c2) (fun hS => ?_)
            clear hK K
            refine wpAnyH_ready (rs := [1]) (by kernel_rfl) (by simp) ?_
            refine AllReadyH.cons (o := { dst := some 72, op := Op.call { callee := Callee.value (Operand.func 27), args := #[Operand.tmp 71], argTypes := #[23] }, type := 35, pos := "law.go:177", after := #[{ on := 0, ground := Ground.data }], guard := none }) rfl (fun K hK => ?_) AllReadyH.nil
            rw [if_pos (by rfl)]
            refine wp_calls 27 #[.agg #[.int .i64 c.t, .int .i64 c.s, .int .i64 c.c, .int .i64 c.h, .int .i64 c.k, .int .i64 c.e, .int .i64 c.l]] (by kernel_rfl) (fun v V => (∃ g, v = .agg (rmA c (some ⟨g, 0, none⟩) LL LL 0 Acc.zero) ∧ w2.heap.size ≤ g ∧ Row V g FC) ∧ Kept [] w2 V) ((RN.out _).mono fun e w' ⟨g, h1, h2, h3, h4⟩ => ⟨_, h1, ⟨g, rfl, h2, h3⟩, h4⟩) ?_
            rintro _ w3 ⟨⟨g1, rfl, hg1, R1_3⟩, K3⟩
            have k3 := k2.trans K3
            have D5_3 := D5_2.kept K3 (by simp)
            have D4_3 := D4_2.kept K3 (by simp)
            have c3 := c2.kept K3 (by simp)
            have h3 := k3.size
            have hp3 := k2.size
            try simp only [Act.put, List.setIfInBounds_toArray, List.set_cons_zero, List.set_cons_succ]
            refine hK.out _ _ (c3) (fun hS => ?_)
            clear hK K
            refine wpAnyH_ready (rs := [3]) (by kernel_rfl) (by simp) ?_
            refine AllReadyH.cons (o := { dst := some 74, op := Op.call { callee := Callee.value (Operand.func 27), args := #[Operand.tmp 73], argTypes := #[23] }, type := 35, pos := "law.go:177", after := #[{ on := 2, ground := Ground.data }, { on := 1, ground := Ground.chain }], guard := none }) rfl (fun K hK => ?_) AllReadyH.nil
            rw [if_pos (by rfl)]
            refine wp_calls 27 #[.agg #[.int .i64 c.t, .int .i64 c.s, .int .i64 c.c, .int .i64 c.h, .int .i64 c.k, .int .i64 c.e, .int .i64 c.l]] (by kernel_rfl) (fun v V => (∃ g, v = .agg (rmA c (some ⟨g, 0, none⟩) LL LL 0 Acc.zero) ∧ w3.heap.size ≤ g ∧ Row V g FC) ∧ Kept [] w3 V) ((RN.out _).mono fun e w' ⟨g, h1, h2, h3, h4⟩ => ⟨_, h1, ⟨g, rfl, h2, h3⟩, h4⟩) ?_
            rintro _ w4 ⟨⟨g3, rfl, hg3, R3_4⟩, K4⟩
            have k4 := k3.trans K4
            have D5_4 := D5_3.kept K4 (by simp)
            have D4_4 := D4_3.kept K4 (by simp)
            have R1_4 := R1_3.kept K4 (by simp)
            have c4 := c3.kept K4 (by simp)
            have h4 := k4.size
            have hp4 := k3.size
            try simp only [Act.put, List.setIfInBounds_toArray, List.set_cons_zero, List.set_cons_succ]
            refine hK.out _ _ (c4) (fun hS => ?_)
            clear hK K
            refine wpAnyH_ready (rs := [6]) (by kernel_rfl) (by simp) ?_
            refine AllReadyH.cons (o := { dst := none, op := Op.store 35 (Operand.tmp 13) (Operand.tmp 72), type := 0, pos := "law.go:177", after := #[{ on := 4, ground := Ground.data }, { on := 1, ground := Ground.data }, { on := 3, ground := Ground.chain }, { on := 0, ground := Ground.phase }, { on := 1, ground := Ground.phase }, { on := 2, ground := Ground.textOnly Departure.lateStores }, { on := 3, ground := Ground.textOnly Departure.lateStoresUnsure }, { on := 4, ground := Ground.phase }, { on := 5, ground := Ground.phase }], guard := none }) rfl (fun K hK => ?_) AllReadyH.nil
            rw [if_pos (by rfl)]
            have x1 := R1_4.rowR.neRW D4_4 (by decide)
            have x3 := R3_4.rowR.neRW D4_4 (by decide)
            have xc := c4.ne D4_4 (by decide)
            refine wp_store_row 35 (.tmp 13) (.tmp 72) rfl q4 (rmA c (some ⟨g1, 0, none⟩) LL LL 0 Acc.zero) rfl rfl 35 rmZ D4_4 (by rw [isT_rm.1]; rfl) rfl (rm_one _ _ _ _ _ _) ?_
            have D4_5 := D4_4.row (rmA c (some ⟨g1, 0, none⟩) LL LL 0 Acc.zero)
            have D5_5 := D5_4.rowOther (c := q4) (rmA c (some ⟨g1, 0, none⟩) LL LL 0 Acc.zero) (fun e => ne e.symm)
            have kk5 : Kept [q4] w4 (w4.setRow q4 (rmA c (some ⟨g1, 0, none⟩) LL LL 0 Acc.zero)) := (Kept.refl [q4] w4).setRow (b := q4) (Or.inl (by simp)) _
            have R1_5 := R1_4.kept kk5 (by simp; omega)
            have R3_5 := R3_4.kept kk5 (by simp; omega)
            have c5 := c4.kept kk5 (by simp; omega)
            have k5 := k4.setRow (b := q4) (Or.inr b4) (rmA c (some ⟨g1, 0, none⟩) LL LL 0 Acc.zero)
            clear x1 x3 xc kk5
            simp only [Act.put]
            refine hK.out _ _ (c5) (fun hS => ?_)
            clear hK K
            refine wpAnyH_ready (rs := [7]) (by kernel_rfl) (by simp) ?_
            refine AllReadyH.cons (o := { dst := none, op := Op.store 35 (Operand.tmp 14) (Operand.tmp 74), type := 0, pos := "law.go:177", after := #[{ on := 5, ground := Ground.data }, { on := 3, ground := Ground.data }, { on := 6, ground := Ground.chain }, { on := 0, ground := Ground.phase }, { on := 1, ground := Ground.phase }, { on := 2, ground := Ground.phase }, { on := 3, ground := Ground.phase }, { on := 4, ground := Ground.phase }, { on := 5, ground := Ground.phase }, { on := 6, ground := Ground.phase }], guard := none }) rfl (fun K hK => ?_) AllReadyH.nil
            rw [if_pos (by rfl)]
            have x1 := R1_5.rowR.neRW D5_5 (by decide)
            have x3 := R3_5.rowR.neRW D5_5 (by decide)
            have xc := c5.ne D5_5 (by decide)
            refine wp_store_row 35 (.tmp 14) (.tmp 74) rfl q5 (rmA c (some ⟨g3, 0, none⟩) LL LL 0 Acc.zero) rfl rfl 35 rmZ D5_5 (by rw [isT_rm.1]; rfl) rfl (rm_one _ _ _ _ _ _) ?_
            have D5_6 := D5_5.row (rmA c (some ⟨g3, 0, none⟩) LL LL 0 Acc.zero)
            have D4_6 := D4_5.rowOther (c := q5) (rmA c (some ⟨g3, 0, none⟩) LL LL 0 Acc.zero) ne
            have kk6 : Kept [q5] (w4.setRow q4 (rmA c (some ⟨g1, 0, none⟩) LL LL 0 Acc.zero)) ((w4.setRow q4 (rmA c (some ⟨g1, 0, none⟩) LL LL 0 Acc.zero)).setRow q5 (rmA c (some ⟨g3, 0, none⟩) LL LL 0 Acc.zero)) := (Kept.refl [q5] (w4.setRow q4 (rmA c (some ⟨g1, 0, none⟩) LL LL 0 Acc.zero))).setRow (b := q5) (Or.inl (by simp)) _
            have R1_6 := R1_5.kept kk6 (by simp; omega)
            have R3_6 := R3_5.kept kk6 (by simp; omega)
            have c6 := c5.kept kk6 (by simp; omega)
            have k6 := k5.setRow (b := q5) (Or.inr b5) (rmA c (some ⟨g3, 0, none⟩) LL LL 0 Acc.zero)
            clear x1 x3 xc kk6
            simp only [Act.put]
            refine hK.out _ _ (c6) (fun hS => ?_)
            clear hK K
            refine wpAnyH_done (by kernel_rfl) ?_ _
            clear hS
            go_wp2
            go_meet
            case rel => exact ⟨q4, q5, g1, g3, rfl, rfl, b4, b5, by omega, by omega, ne, D4_6, D5_6, R1_6, R3_6, k6⟩
          case rest =>
            obtain ⟨qr, qs, g1, g2, rfl, rfl, b1, b2, b3, b4, nrs, D1, D2, R1, R2, KV⟩ := hcut
            have HX : Hid (TW W wc a b m p r qx qy qr qs LL 0 c 0 1 ⟨0, 0, 0⟩ ⟨0, 0, 1⟩ FC FC FC) := hidOf (by
              obtain ⟨f1, f2, f3, f4, f5, f6, f7, f8⟩ := HG.out
              obtain ⟨x1, x2, x3⟩ := HXY.out
              have kk := x3.trans KV
              have lr := lt_of_blk f3.bk.row
              have s1 := x3.size
              have s2 := HKX.out.size
              have c1 : RowR wc g1 FC LL := HLF.out.1 ▸ R1.rowR
              have c2 : RowR wc g2 FC LL := HLF.out.1 ▸ R2.rowR
              have u0 : (0 : Int) ≤ c.s := by have := HRT.out.s0; omega
              exact ⟨f1.kept kk (by simp), f2.kept kk (by simp), ⟨0, _, f3.new kk, Int.le_refl _, Int.le_refl _⟩, x1.kept KV (by simp), x2.kept KV (by simp), ⟨g1, LL, 0, _, D1, c1, by omega, Int.le_refl _, Int.le_refl _⟩, ⟨g2, LL, 0, _, D2, c2, by omega, Int.le_refl _, Int.le_refl _⟩, HKX.out.trans kk, f4, hxy, nrs, f5, f6, f7, f8, by omega, by omega, by omega, by omega, rfl, rfl, ⟨Int.le_refl _, Int.le_refl _, u0⟩, ⟨Int.le_refl _, Int.le_refl _, u0⟩, ⟨HLF.out.1, HLF.out.1, HLF.out.1⟩, fun _ => rfl, fun _ => rfl⟩)
            clear HXY HU RN HG HKX b1 b2 b3 b4 nrs D1 D2 R1 R2 KV hxy hqx1 hqy1
            have HN40 : Hid (n ≤ 40) := hidOf (by omega)
            go_wp2
            go_loopw [77] (fun i wr => ∃ (j : Nat) (gA gB : Gs) (cs ca cb : List Int), j ≤ n ∧ i = .int .i64 j ∧ TW W wr a b m p r qx qy qr qs LL j c 0 1 gA gB cs ca cb) (fun i _ => n - (intOf i).toNat)
            case atStart => exact ⟨0, _, _, _, _, _, Nat.zero_le _, rfl, HX.out⟩
            case round =>
              clear HX
              obtain ⟨j, gA, gB, cs, ca, cb, hj, rfl, X⟩ := hrel
              have HX := hidOf X
              clear X
              by_cases hlt : j < n
              · have hltz : (j : Int) < (n : Int) := by omega
                obtain ⟨b1, o1, e1, l1, cj⟩ := Sl.cell (HS.out.new (HK0.out.trans HX.out.kp)) (i := j) (by rw [← HN.out]; exact hlt)
                generalize xs.getD j 0 = e at cj
                rw [e1]
                by_cases hjk : j < k
                · have hjkz : (j : Int) < (k : Int) := by omega
                  obtain ⟨b2, o2, e2, l2, ct⟩ := bool_row (HL.out.new (HK0.out.trans HX.out.kp)) (k := j) (by rw [← HK.out]; exact hjk)
                  generalize ts.getD j false = tb at ct
                  rw [e2]
                  cases tb with
                  | true =>
                    obtain ⟨gg, cg, cn, ac, z1, z2, z3, z4, z5⟩ := HX.out.rr
                    have HZ := hidOf (And.intro z1 (And.intro z2 (And.intro z3 (And.intro z4 z5))))
                    clear z1 z2 z3 z4 z5
                    obtain ⟨BB, hBB⟩ : ∃ BB, decide (gA.u < c.s) = BB := ⟨_, rfl⟩
                    have HBB : Hid (BB = false → ¬ (n : Int) < c.s) := hidOf (by
                      intro h
                      rw [h] at hBB
                      have h1 := of_decide_eq_false hBB
                      have h2 := HX.out.uA
                      omega)
                    have ST := hidOf (HX.out.pub HZ.out.1 HZ.out.2.1 HZ.out.2.2.1 e (by have := HN40.out; omega) (by have := HRT.out.s1; omega))
                    rw [hBB] at ST
                    go_wp2_with fail
                    refine ST.out.mono ?_
                    rintro ee w4 ⟨rfl, JX⟩
                    have HJ := hidOf JX
                    clear JX ST
                    obtain ⟨AC, hAC⟩ : ∃ AC, acV ca 2 (rsV c gA.t (pubN c gA)) 0 0 e = AC := ⟨_, rfl⟩
                    obtain ⟨CC, hCC⟩ : ∃ CC, (clV ca 2 (rsV c gA.t (pubN c gA)) 0 e) = CC := ⟨_, rfl⟩
                    obtain ⟨gn, hgn⟩ : ∃ gn, pubG c gA e = gn := ⟨_, rfl⟩
                    have RF := hidOf (rpublish_any gA c gg ca cg cn ac e w4 HJ.out.row (by have := HLF.out.2.1; rw [HX.out.len.2.1]; omega) HX.out.uA.1 (by have := HX.out.uA; have := HRT.out.s1; omega) HZ.out.2.2.2.1 (by have := HZ.out.2.2.2.2; have := HN40.out; omega))
                    rw [hAC, hCC, hgn, hBB, HX.out.len.2.1] at RF
                    have HEQ := hidOf (And.intro hCC hgn)
                    clear hAC hCC hgn hBB
                    have RF2 : Hid (Calls Tryd.prog 15 #[.agg (rgA gA), .agg (rmA c (some ⟨gg, 0, none⟩) LL cg cn ac), .int .u64 e] w4 fun e w' => ∃ g' c', e = .returned (.tuple #[.agg (rgA gn), .agg (rmA c (some ⟨g', 0, none⟩) LL c' (cn + 1) AC), .bool BB]) ∧ (g' = gg ∨ w4.heap.size ≤ g') ∧ RowR w' g' CC c' ∧ Kept [] w4 w') := RF.out
                    clear RF
                    go_wp2_with (first | ((with_reducible change wpList _ _ _ (Oper.mk _ (Op.load 42 _) _ _ _ _ :: _) _ _); refine wpList_load_rw 42 isT_rg rfl (.tmp 11) rfl qx rfl (rgA gA) rfl HJ.out.x ?_) | ((with_reducible change wpList _ _ _ (Oper.mk _ (Op.load 35 _) _ _ _ _ :: _) _ _); refine wpList_load_rw 35 isT_rm rfl (.tmp 13) rfl qr rfl (rmA c (some ⟨gg, 0, none⟩) LL cg cn ac) rfl HJ.out.rm ?_))
                    refine RF2.out.mono ?_
                    rintro ee w5 ⟨g3, c3, rfl, h2, R5, K5⟩
                    clear RF2
                    have q7 := HJ.out.x.kept K5 (by simp)
                    have q8 := HJ.out.rm.kept K5 (by simp)
                    have nqq := q8.ne q7 (by decide)
                    have q9 := q8.rowOther (c := qx) (rgA gn) nqq
                    go_upto_region 16 with (first | ((with_reducible change wpList _ _ _ (Oper.mk _ (Op.store 42 _ _) _ _ _ _ :: _) _ _); refine wpList_store_rw 42 isT_rg rfl (.tmp 11) (.tmp 102) rfl qx (rgA gn) rfl rfl rfl (rg_one _) (rgA gA) q7 rfl ?_) | ((with_reducible change wpList _ _ _ (Oper.mk _ (Op.store 35 _ _) _ _ _ _ :: _) _ _); refine wpList_store_rw 35 isT_rm rfl (.tmp 13) (.tmp 103) rfl qr (rmA c (some ⟨g3, 0, none⟩) LL c3 (cn + 1) AC) rfl rfl rfl (rm_one _ _ _ _ _ _) _ q9 rfl ?_))
                    refine gen_world (fun V => TW W V a b m p r qx qy qr qs LL (j + 1) c 0 1 (pubG c gA e) gB (clV cs 2 (rsV c gA.t (pubN c gA)) 0 e) (clV ca 2 (rsV c gA.t (pubN c gA)) 0 e) cb) ?_ ?_
                    · have B6 := (q7.row (rgA gn)).rowOther (c := qr) (rmA c (some ⟨g3, 0, none⟩) LL c3 (cn + 1) AC) (fun e => nqq e.symm)
                      have D6 := q9.row (rmA c (some ⟨g3, 0, none⟩) LL c3 (cn + 1) AC)
                      have K6 : Kept [qx, qr] w5 ((w5.setRow qx (rgA gn)).setRow qr (rmA c (some ⟨g3, 0, none⟩) LL c3 (cn + 1) AC)) := ((Kept.refl [qx, qr] w5).setRow (b := qx) (Or.inl (by simp)) _).setRow (b := qr) (Or.inl (by simp)) _
                      have z := HX.out.done HJ.out HZ.out.2.2.1 HZ.out.2.2.2.1 HZ.out.2.2.2.2 HRT.out HLF.out.2.2 (by decide) K5 (by rw [HEQ.out.1]; exact R5) h2 K6 (by rw [HEQ.out.2]; exact B6) D6
                      exact z
                    clear HX HJ HZ HEQ q7 q8 q9 nqq h2 R5 K5
                    rintro V6 FN0
                    have FN := hidOf FN0
                    clear FN0
                    have q1 := cell_of_blk (HCB.out.kept FN.out.kp (by simp)) (i := 1) (v := .int .i64 c.s) rfl
                    cases BB with
                    | true =>
                      clear HBB
                      go_wp2
                      go_roundw
                      case rel => exact ⟨j + 1, _, _, _, _, _, by omega, by go_num, FN.out⟩
                      case measure => simp [intOf]; omega
                    | false =>
                      have hns := HBB.out rfl
                      clear HBB
                      go_wp2
                      go_roundw
                      case rel => exact ⟨j + 1, _, _, _, _, _, by omega, by go_num, FN.out⟩
                      case measure => simp [intOf]; omega
                  | false =>
                    obtain ⟨gg, cg, cn, ac, z1, z2, z3, z4, z5⟩ := HX.out.swap.rr
                    have HZ := hidOf (And.intro z1 (And.intro z2 (And.intro z3 (And.intro z4 z5))))
                    clear z1 z2 z3 z4 z5
                    obtain ⟨BB, hBB⟩ : ∃ BB, decide (gB.u < c.s) = BB := ⟨_, rfl⟩
                    have HBB : Hid (BB = false → ¬ (n : Int) < c.s) := hidOf (by
                      intro h
                      rw [h] at hBB
                      have h1 := of_decide_eq_false hBB
                      have h2 := HX.out.swap.uA
                      omega)
                    have ST := hidOf (HX.out.swap.pub HZ.out.1 HZ.out.2.1 HZ.out.2.2.1 e (by have := HN40.out; omega) (by have := HRT.out.s1; omega))
                    rw [hBB] at ST
                    go_wp2_with fail
                    refine ST.out.mono ?_
                    rintro ee w4 ⟨rfl, JX⟩
                    have HJ := hidOf JX
                    clear JX ST
                    obtain ⟨AC, hAC⟩ : ∃ AC, acV cb 2 (rsV c gB.t (pubN c gB)) 0 0 e = AC := ⟨_, rfl⟩
                    obtain ⟨CC, hCC⟩ : ∃ CC, (clV cb 2 (rsV c gB.t (pubN c gB)) 0 e) = CC := ⟨_, rfl⟩
                    obtain ⟨gn, hgn⟩ : ∃ gn, pubG c gB e = gn := ⟨_, rfl⟩
                    have RF := hidOf (rpublish_any gB c gg cb cg cn ac e w4 HJ.out.row (by have := HLF.out.2.1; rw [HX.out.swap.len.2.1]; omega) HX.out.swap.uA.1 (by have := HX.out.swap.uA; have := HRT.out.s1; omega) HZ.out.2.2.2.1 (by have := HZ.out.2.2.2.2; have := HN40.out; omega))
                    rw [hAC, hCC, hgn, hBB, HX.out.swap.len.2.1] at RF
                    have HEQ := hidOf (And.intro hCC hgn)
                    clear hAC hCC hgn hBB
                    have RF2 : Hid (Calls Tryd.prog 15 #[.agg (rgA gB), .agg (rmA c (some ⟨gg, 0, none⟩) LL cg cn ac), .int .u64 e] w4 fun e w' => ∃ g' c', e = .returned (.tuple #[.agg (rgA gn), .agg (rmA c (some ⟨g', 0, none⟩) LL c' (cn + 1) AC), .bool BB]) ∧ (g' = gg ∨ w4.heap.size ≤ g') ∧ RowR w' g' CC c' ∧ Kept [] w4 w') := RF.out
                    clear RF
                    go_wp2_with (first | ((with_reducible change wpList _ _ _ (Oper.mk _ (Op.load 42 _) _ _ _ _ :: _) _ _); refine wpList_load_rw 42 isT_rg rfl (.tmp 12) rfl qy rfl (rgA gB) rfl HJ.out.x ?_) | ((with_reducible change wpList _ _ _ (Oper.mk _ (Op.load 35 _) _ _ _ _ :: _) _ _); refine wpList_load_rw 35 isT_rm rfl (.tmp 14) rfl qs rfl (rmA c (some ⟨gg, 0, none⟩) LL cg cn ac) rfl HJ.out.rm ?_))
                    refine RF2.out.mono ?_
                    rintro ee w5 ⟨g3, c3, rfl, h2, R5, K5⟩
                    clear RF2
                    have q7 := HJ.out.x.kept K5 (by simp)
                    have q8 := HJ.out.rm.kept K5 (by simp)
                    have nqq := q8.ne q7 (by decide)
                    have q9 := q8.rowOther (c := qy) (rgA gn) nqq
                    go_upto_region 16 with (first | ((with_reducible change wpList _ _ _ (Oper.mk _ (Op.store 42 _ _) _ _ _ _ :: _) _ _); refine wpList_store_rw 42 isT_rg rfl (.tmp 12) (.tmp 114) rfl qy (rgA gn) rfl rfl rfl (rg_one _) (rgA gB) q7 rfl ?_) | ((with_reducible change wpList _ _ _ (Oper.mk _ (Op.store 35 _ _) _ _ _ _ :: _) _ _); refine wpList_store_rw 35 isT_rm rfl (.tmp 14) (.tmp 115) rfl qs (rmA c (some ⟨g3, 0, none⟩) LL c3 (cn + 1) AC) rfl rfl rfl (rm_one _ _ _ _ _ _) _ q9 rfl ?_))
                    refine gen_world (fun V => TW W V a b m p r qx qy qr qs LL (j + 1) c 0 1 gA (pubG c gB e) (clV cs 2 (rsV c gB.t (pubN c gB)) 0 e) ca (clV cb 2 (rsV c gB.t (pubN c gB)) 0 e)) ?_ ?_
                    · have B6 := (q7.row (rgA gn)).rowOther (c := qs) (rmA c (some ⟨g3, 0, none⟩) LL c3 (cn + 1) AC) (fun e => nqq e.symm)
                      have D6 := q9.row (rmA c (some ⟨g3, 0, none⟩) LL c3 (cn + 1) AC)
                      have K6 : Kept [qy, qs] w5 ((w5.setRow qy (rgA gn)).setRow qs (rmA c (some ⟨g3, 0, none⟩) LL c3 (cn + 1) AC)) := ((Kept.refl [qy, qs] w5).setRow (b := qy) (Or.inl (by simp)) _).setRow (b := qs) (Or.inl (by simp)) _
                      have z := HX.out.swap.done HJ.out HZ.out.2.2.1 HZ.out.2.2.2.1 HZ.out.2.2.2.2 HRT.out HLF.out.2.2 (by decide) K5 (by rw [HEQ.out.1]; exact R5) h2 K6 (by rw [HEQ.out.2]; exact B6) D6
                      exact z.swap
                    clear HX HJ HZ HEQ q7 q8 q9 nqq h2 R5 K5
                    rintro V6 FN0
                    have FN := hidOf FN0
                    clear FN0
                    have q1 := cell_of_blk (HCB.out.kept FN.out.kp (by simp)) (i := 1) (v := .int .i64 c.s) rfl
                    cases BB with
                    | true =>
                      clear HBB
                      go_wp2
                      go_roundw
                      case rel => exact ⟨j + 1, _, _, _, _, _, by omega, by go_num, FN.out⟩
                      case measure => simp [intOf]; omega
                    | false =>
                      have hns := HBB.out rfl
                      clear HBB
                      go_wp2
                      go_roundw
                      case rel => exact ⟨j + 1, _, _, _, _, _, by omega, by go_num, FN.out⟩
                      case measure => simp [intOf]; omega
                · have hjkz : ¬ (j : Int) < (k : Int) := by omega
                  obtain ⟨gg, cg, cn, ac, z1, z2, z3, z4, z5⟩ := HX.out.swap.rr
                  have HZ := hidOf (And.intro z1 (And.intro z2 (And.intro z3 (And.intro z4 z5))))
                  clear z1 z2 z3 z4 z5
                  obtain ⟨BB, hBB⟩ : ∃ BB, decide (gB.u < c.s) = BB := ⟨_, rfl⟩
                  have HBB : Hid (BB = false → ¬ (n : Int) < c.s) := hidOf (by
                    intro h
                    rw [h] at hBB
                    have h1 := of_decide_eq_false hBB
                    have h2 := HX.out.swap.uA
                    omega)
                  have ST := hidOf (HX.out.swap.pub HZ.out.1 HZ.out.2.1 HZ.out.2.2.1 e (by have := HN40.out; omega) (by have := HRT.out.s1; omega))
                  rw [hBB] at ST
                  go_wp2_with fail
                  refine ST.out.mono ?_
                  rintro ee w4 ⟨rfl, JX⟩
                  have HJ := hidOf JX
                  clear JX ST
                  obtain ⟨AC, hAC⟩ : ∃ AC, acV cb 2 (rsV c gB.t (pubN c gB)) 0 0 e = AC := ⟨_, rfl⟩
                  obtain ⟨CC, hCC⟩ : ∃ CC, (clV cb 2 (rsV c gB.t (pubN c gB)) 0 e) = CC := ⟨_, rfl⟩
                  obtain ⟨gn, hgn⟩ : ∃ gn, pubG c gB e = gn := ⟨_, rfl⟩
                  have RF := hidOf (rpublish_any gB c gg cb cg cn ac e w4 HJ.out.row (by have := HLF.out.2.1; rw [HX.out.swap.len.2.1]; omega) HX.out.swap.uA.1 (by have := HX.out.swap.uA; have := HRT.out.s1; omega) HZ.out.2.2.2.1 (by have := HZ.out.2.2.2.2; have := HN40.out; omega))
                  rw [hAC, hCC, hgn, hBB, HX.out.swap.len.2.1] at RF
                  have HEQ := hidOf (And.intro hCC hgn)
                  clear hAC hCC hgn hBB
                  have RF2 : Hid (Calls Tryd.prog 15 #[.agg (rgA gB), .agg (rmA c (some ⟨gg, 0, none⟩) LL cg cn ac), .int .u64 e] w4 fun e w' => ∃ g' c', e = .returned (.tuple #[.agg (rgA gn), .agg (rmA c (some ⟨g', 0, none⟩) LL c' (cn + 1) AC), .bool BB]) ∧ (g' = gg ∨ w4.heap.size ≤ g') ∧ RowR w' g' CC c' ∧ Kept [] w4 w') := RF.out
                  clear RF
                  go_wp2_with (first | ((with_reducible change wpList _ _ _ (Oper.mk _ (Op.load 42 _) _ _ _ _ :: _) _ _); refine wpList_load_rw 42 isT_rg rfl (.tmp 12) rfl qy rfl (rgA gB) rfl HJ.out.x ?_) | ((with_reducible change wpList _ _ _ (Oper.mk _ (Op.load 35 _) _ _ _ _ :: _) _ _); refine wpList_load_rw 35 isT_rm rfl (.tmp 14) rfl qs rfl (rmA c (some ⟨gg, 0, none⟩) LL cg cn ac) rfl HJ.out.rm ?_))
                  refine RF2.out.mono ?_
                  rintro ee w5 ⟨g3, c3, rfl, h2, R5, K5⟩
                  clear RF2
                  have q7 := HJ.out.x.kept K5 (by simp)
                  have q8 := HJ.out.rm.kept K5 (by simp)
                  have nqq := q8.ne q7 (by decide)
                  have q9 := q8.rowOther (c := qy) (rgA gn) nqq
                  go_upto_region 16 with (first | ((with_reducible change wpList _ _ _ (Oper.mk _ (Op.store 42 _ _) _ _ _ _ :: _) _ _); refine wpList_store_rw 42 isT_rg rfl (.tmp 12) (.tmp 114) rfl qy (rgA gn) rfl rfl rfl (rg_one _) (rgA gB) q7 rfl ?_) | ((with_reducible change wpList _ _ _ (Oper.mk _ (Op.store 35 _ _) _ _ _ _ :: _) _ _); refine wpList_store_rw 35 isT_rm rfl (.tmp 14) (.tmp 115) rfl qs (rmA c (some ⟨g3, 0, none⟩) LL c3 (cn + 1) AC) rfl rfl rfl (rm_one _ _ _ _ _ _) _ q9 rfl ?_))
                  refine gen_world (fun V => TW W V a b m p r qx qy qr qs LL (j + 1) c 0 1 gA (pubG c gB e) (clV cs 2 (rsV c gB.t (pubN c gB)) 0 e) ca (clV cb 2 (rsV c gB.t (pubN c gB)) 0 e)) ?_ ?_
                  · have B6 := (q7.row (rgA gn)).rowOther (c := qs) (rmA c (some ⟨g3, 0, none⟩) LL c3 (cn + 1) AC) (fun e => nqq e.symm)
                    have D6 := q9.row (rmA c (some ⟨g3, 0, none⟩) LL c3 (cn + 1) AC)
                    have K6 : Kept [qy, qs] w5 ((w5.setRow qy (rgA gn)).setRow qs (rmA c (some ⟨g3, 0, none⟩) LL c3 (cn + 1) AC)) := ((Kept.refl [qy, qs] w5).setRow (b := qy) (Or.inl (by simp)) _).setRow (b := qs) (Or.inl (by simp)) _
                    have z := HX.out.swap.done HJ.out HZ.out.2.2.1 HZ.out.2.2.2.1 HZ.out.2.2.2.2 HRT.out HLF.out.2.2 (by decide) K5 (by rw [HEQ.out.1]; exact R5) h2 K6 (by rw [HEQ.out.2]; exact B6) D6
                    exact z.swap
                  clear HX HJ HZ HEQ q7 q8 q9 nqq h2 R5 K5
                  rintro V6 FN0
                  have FN := hidOf FN0
                  clear FN0
                  have q1 := cell_of_blk (HCB.out.kept FN.out.kp (by simp)) (i := 1) (v := .int .i64 c.s) rfl
                  cases BB with
                  | true =>
                    clear HBB
                    go_wp2
                    go_roundw
                    case rel => exact ⟨j + 1, _, _, _, _, _, by omega, by go_num, FN.out⟩
                    case measure => simp [intOf]; omega
                  | false =>
                    have hns := HBB.out rfl
                    clear HBB
                    go_wp2
                    go_roundw
                    case rel => exact ⟨j + 1, _, _, _, _, _, by omega, by go_num, FN.out⟩
                    case measure => simp [intOf]; omega
              · have hjz : ¬ (j : Int) < (n : Int) := by omega
                have HJ : Hid (j ≤ n) := hidOf hj
                obtain ⟨S, hS⟩ : ∃ S : Nat, c.s = S := ⟨c.s.toNat, by have := HRT.out.s0; omega⟩
                have HSS := hidOf hS
                have hS8 : (S : Int) ≤ 8 := by have := HRT.out.s1; omega
                clear hS hj hlt
                have q1 := cell_of_blk (HCB.out.kept HX.out.kp (by simp)) (i := 1) (v := .int .i64 c.s) rfl
                rw [HSS.out] at q1
                go_wp2
                go_loopw [129] (fun i wr => ∃ (k2 N : Nat), k2 ≤ S ∧ i = .int .i64 k2 ∧ TW W wr a b m p r qx qy qr qs LL N c 0 1 gA gB cs ca cb ∧ Hid (N ≤ 40 + 2 * k2)) (fun i _ => S - (intOf i).toNat)
                case atStart => exact ⟨0, j, Nat.zero_le _, rfl, HX.out, by have := HJ.out; have := HN40.out; show j ≤ 40 + 2 * 0; omega⟩
                case round =>
                  clear HX
                  obtain ⟨k2, NN, hk2, rfl, X, HNN0⟩ := hrel
                  have HX := hidOf X
                  clear X q1
                  by_cases hlt2 : k2 < S
                  · have hltz2 : (k2 : Int) < (S : Int) := by omega
                    have HNN : Hid (NN ≤ 60) := hidOf (by have := HNN0.out; omega)
                    obtain ⟨gg, cg, cn, ac, z1, z2, z3, z4, z5⟩ := HX.out.rr
                    obtain ⟨U1, hU1⟩ : ∃ U1, rdG ca (rsV c 0 k2) = U1 := ⟨_, rfl⟩
                    have QF : Hid (Calls Tryd.prog 28 #[.agg (rmA c (some ⟨gg, 0, none⟩) LL cg cn ac), .int .i64 0, .int .i64 k2] _ fun e w' => ∃ g' c' AC, e = .returned (.tuple #[.agg (rmA c (some ⟨g', 0, none⟩) LL c' (cn + 1) AC), .int .u64 U1]) ∧ Kept [] _ w') := hidOf (by
                      have z := qreserved_any c gg ca cg cn ac 0 k2 _ z2 (by have := HLF.out.2.1; rw [HX.out.len.2.1]; omega) z4 (by have := HNN.out; omega)
                      rw [HX.out.len.2.1] at z
                      refine z.mono ?_
                      rintro e w' ⟨g', c', rfl, -, -, k0⟩
                      exact ⟨g', c', _, by rw [← hU1]; rfl, k0⟩)
                    have HU1 := hidOf hU1
                    clear hU1 z2 z3 z4 z5
                    go_wp2_with (first | ((with_reducible change wpList _ _ _ (Oper.mk _ (Op.load 35 _) _ _ _ _ :: _) _ _); refine wpList_load_rw 35 isT_rm rfl (.tmp 13) rfl qr rfl (rmA c (some ⟨gg, 0, none⟩) LL cg cn ac) rfl z1 ?_))
                    refine QF.out.mono ?_
                    rintro ee w14 ⟨g3, c3, AC, rfl, K14⟩
                    clear QF z1
                    go_upto_region 23 with (first | ((with_reducible change wpList _ _ _ (Oper.mk _ (Op.store 35 _ _) _ _ _ _ :: _) _ _); refine wpList_store_rw 35 isT_rm rfl (.tmp 20) (.tmp 136) rfl w14.heap.size (rmA c (some ⟨g3, 0, none⟩) LL c3 (cn + 1) AC) rfl rfl rfl (rm_one _ _ _ _ _ _) rmZ (RW.new 35 w14 rmZ) rfl ?_))
                    refine gen_world (fun V => Kept [] w14 V) (((Kept.refl [] w14).alloc _).setRow (Or.inr (Nat.le_refl _)) _) ?_
                    rintro V1 KV1
                    have HX1 := hidOf (HX.out.new (K14.trans KV1))
                    clear HX K14 KV1
                    have HX := HX1
                    clear HX1
                    obtain ⟨gg, cg, cn, ac, z1, z2, z3, z4, z5⟩ := HX.out.ss
                    obtain ⟨U2, hU2⟩ : ∃ U2, rdG cb (rsV c 1 k2) = U2 := ⟨_, rfl⟩
                    have QF : Hid (Calls Tryd.prog 28 #[.agg (rmA c (some ⟨gg, 0, none⟩) LL cg cn ac), .int .i64 1, .int .i64 k2] _ fun e w' => ∃ g' c' AC, e = .returned (.tuple #[.agg (rmA c (some ⟨g', 0, none⟩) LL c' (cn + 1) AC), .int .u64 U2]) ∧ Kept [] _ w') := hidOf (by
                      have z := qreserved_any c gg cb cg cn ac 1 k2 _ z2 (by have := HLF.out.2.1; rw [HX.out.len.2.2]; omega) z4 (by have := HNN.out; omega)
                      rw [HX.out.len.2.2] at z
                      refine z.mono ?_
                      rintro e w' ⟨g', c', rfl, -, -, k0⟩
                      exact ⟨g', c', _, by rw [← hU2]; rfl, k0⟩)
                    have HU2 := hidOf hU2
                    clear hU2 z2 z3 z4 z5
                    go_wp2_with (first | ((with_reducible change wpList _ _ _ (Oper.mk _ (Op.load 35 _) _ _ _ _ :: _) _ _); refine wpList_load_rw 35 isT_rm rfl (.tmp 14) rfl qs rfl (rmA c (some ⟨gg, 0, none⟩) LL cg cn ac) rfl z1 ?_))
                    refine QF.out.mono ?_
                    rintro ee w24 ⟨g3, c3, AC, rfl, K24⟩
                    clear QF z1
                    go_upto_region 24 with (first | ((with_reducible change wpList _ _ _ (Oper.mk _ (Op.store 35 _ _) _ _ _ _ :: _) _ _); refine wpList_store_rw 35 isT_rm rfl (.tmp 22) (.tmp 142) rfl w24.heap.size (rmA c (some ⟨g3, 0, none⟩) LL c3 (cn + 1) AC) rfl rfl rfl (rm_one _ _ _ _ _ _) rmZ (RW.new 35 w24 rmZ) rfl ?_))
                    refine gen_world (fun V => Kept [] w24 V) (((Kept.refl [] w24).alloc _).setRow (Or.inr (Nat.le_refl _)) _) ?_
                    rintro V2 KV2
                    have HX2 := hidOf (HX.out.new (K24.trans KV2))
                    clear HX K24 KV2
                    have HX := HX2
                    clear HX2
                    have ST := hidOf (HX.out.reserved 0 k2 (by have := HNN.out; omega) (V := U1) (by rw [HX.out.eA]; exact HU1.out))
                    go_wp2_with fail
                    refine ST.out.mono ?_
                    rintro ee w7 ⟨rfl, X⟩
                    clear HX ST
                    have HX := hidOf X
                    clear X
                    have ST := hidOf (HX.out.reserved 1 k2 (by have := HNN.out; omega) (V := U2) (by rw [HX.out.eB]; exact HU2.out))
                    go_wp2_with fail
                    refine ST.out.mono ?_
                    rintro ee w8 ⟨rfl, X⟩
                    clear HX ST HU1 HU2
                    have HX := hidOf X
                    clear X
                    have q1 := cell_of_blk (HCB.out.kept HX.out.kp (by simp)) (i := 1) (v := .int .i64 c.s) rfl
                    rw [HSS.out] at q1
                    go_wp2
                    go_roundw
                    case rel => exact ⟨k2 + 1, NN + 1 + 1, by omega, by go_num, HX.out, by have := HNN0.out; show NN + 1 + 1 ≤ 40 + 2 * (k2 + 1); omega⟩
                    case measure => simp [intOf]; omega
                  · have hkz2 : ¬ (k2 : Int) < (S : Int) := by omega
                    clear hk2 hlt2 HNN0
                    go_upto_region 27 with (fail)
                    have HAL : Hid (∀ W2, Kept [] wr.drew W2 → Calls Tryd.prog 11 #[] W2 fun e w' => e = .returned (.bool true) ∧ Kept [] W2 w') := fun W2 kk => alive_any W2 (HTW.out.kept (HX.out.kp.trans ((Kept.refl [] wr).drew.trans kk)))
                    have HLA : Hid (∀ W2, Kept [] wr.drew W2 → Calls Tryd.prog 21 #[.pointer (some ⟨a, 0, none⟩)] W2 fun e w' => e = .returned (.int .u64 gA.l) ∧ Kept [] W2 w') := fun W2 kk => (glatest_any a gA W2 (HX.out.new ((Kept.refl [] wr).drew.trans kk)).ga).mono fun e w' hh => ⟨hh.1, by rw [hh.2]; exact Kept.refl _ _⟩
                    have HLB : Hid (∀ W2, Kept [] wr.drew W2 → Calls Tryd.prog 21 #[.pointer (some ⟨b, 0, none⟩)] W2 fun e w' => e = .returned (.int .u64 gB.l) ∧ Kept [] W2 w') := fun W2 kk => (glatest_any b gB W2 (HX.out.new ((Kept.refl [] wr).drew.trans kk)).gb).mono fun e w' hh => ⟨hh.1, by rw [hh.2]; exact Kept.refl _ _⟩
                    have F5 : RW 42 wr.drew qx (rgA gA) ∧ RW 42 wr.drew qy (rgA gB) := ⟨HX.out.x.drew, HX.out.y.drew⟩
                    refine wp_region_held_drew (S := fun w' => RW 42 w' qx (rgA gA) ∧ RW 42 w' qy (rgA gB)) (by kernel_rfl) F5 (fun hS => ?_)
                    have FN := hidOf (HX.out.new (Kept.refl [] wr).drew)
                    clear HX
                    generalize wr.drew = V5 at F5 HAL HLA HLB FN hS ⊢
                    refine wpAnyH_ready (rs := [0]) (by kernel_rfl) (by simp) ?_
                    refine AllReadyH.cons (o := { dst := some 157, op := Op.call { callee := Callee.value (Operand.func 11), args := #[], argTypes := #[] }, type := 4, pos := "law.go:198", after := #[], guard := none }) rfl (fun K hK => ?_) AllReadyH.nil
                    rw [if_pos (by rfl)]
                    refine wp_calls 11 #[] (by kernel_rfl) (fun v U => v = .bool true ∧ Kept [] V5 U) ((HAL.out _ (Kept.refl [] V5)).mono (fun e w' hh => ⟨_, hh.1, rfl, hh.2⟩)) ?_
                    rintro _ u0 ⟨rfl, J0⟩
                    have j0 := (Kept.refl [] V5).trans J0
                    have f0 := And.intro (F5.1.kept J0 (by simp)) (F5.2.kept J0 (by simp))
                    try simp only [Act.put, List.setIfInBounds_toArray, List.set_cons_zero, List.set_cons_succ]
                    refine hK.out _ _ (f0) (fun hS => ?_)
                    clear hK K
                    refine wpAnyH_take (i := 1) (oi := { dst := some 158, op := Op.move (Operand.tmp 157), type := 4, pos := "law.go:198", after := #[{ on := 0, ground := Ground.data }, { on := 0, ground := Ground.chain }], guard := none }) (v := Value.bool true) rfl (by kernel_rfl) (by kernel_rfl) (by kernel_rfl) (fun _ _ _ h => h) (Or.inl ⟨rfl, fun _ _ => by kernel_rfl⟩) hS ?_
                    try simp only [Act.put, List.setIfInBounds_toArray, List.set_cons_zero, List.set_cons_succ]
                    refine wpAnyH_take (i := 2) (oi := { dst := some 159, op := Op.move (Operand.tmp 9), type := 38, pos := "law.go:198", after := #[{ on := 1, ground := Ground.guard }], guard := some (1, true) }) (v := Value.pointer (some ⟨a, 0, none⟩)) rfl (by kernel_rfl) (by kernel_rfl) (by kernel_rfl) (fun _ _ _ h => h) (Or.inl ⟨rfl, fun _ _ => by kernel_rfl⟩) hS ?_
                    try simp only [Act.put, List.setIfInBounds_toArray, List.set_cons_zero, List.set_cons_succ]
                    refine wpAnyH_take (i := 3) (oi := { dst := some 160, op := Op.nilCheck (Operand.tmp 159), type := 0, pos := "law.go:198", after := #[{ on := 2, ground := Ground.data }, { on := 1, ground := Ground.guard }], guard := some (1, true) }) (v := Value.pointer (some ⟨a, 0, none⟩)) rfl (by kernel_rfl) (by kernel_rfl) (by kernel_rfl) (fun _ _ _ h => h) (Or.inl ⟨rfl, fun _ _ => by kernel_rfl⟩) hS ?_
                    try simp only [Act.put, List.setIfInBounds_toArray, List.set_cons_zero, List.set_cons_succ]
                    refine wpAnyH_take (i := 4) (oi := { dst := some 161, op := Op.fieldAddr 62 (Operand.tmp 160) 0, type := 0, pos := "law.go:198", after := #[{ on := 3, ground := Ground.data }, { on := 1, ground := Ground.guard }], guard := some (1, true) }) (v := Value.pointer (some ⟨a, 0, none⟩)) rfl (by kernel_rfl) (by kernel_rfl) (by kernel_rfl) (fun _ _ _ h => h) (Or.inl ⟨rfl, fun _ _ => by kernel_rfl⟩) hS ?_
                    try simp only [Act.put, List.setIfInBounds_toArray, List.set_cons_zero, List.set_cons_succ]
                    refine wpAnyH_take (i := 6) (oi := { dst := some 163, op := Op.fieldAddr 42 (Operand.tmp 11) 1, type := 0, pos := "law.go:198", after := #[{ on := 1, ground := Ground.guard }], guard := some (1, true) }) (v := Value.pointer (some ⟨qx, 1, none⟩)) rfl (by kernel_rfl) (by kernel_rfl) (by kernel_rfl) (fun _ _ _ h => h) (Or.inl ⟨rfl, fun _ _ => by kernel_rfl⟩) hS ?_
                    try simp only [Act.put, List.setIfInBounds_toArray, List.set_cons_zero, List.set_cons_succ]
                    refine wpAnyH_take (i := 7) (oi := { dst := some 164, op := Op.load 29 (Operand.tmp 163), type := 29, pos := "law.go:198", after := #[{ on := 6, ground := Ground.data }, { on := 1, ground := Ground.guard }], guard := some (1, true) }) (v := Value.int .u64 gA.l) rfl (by kernel_rfl) (by kernel_rfl) (by kernel_rfl) (fun _ _ _ h => h) (Or.inl ⟨rfl, fun w hSw => by have z := cell_of_blk hSw.1 (i := 1) (v := .int .u64 gA.l) rfl; go_simp⟩) hS ?_
                    try simp only [Act.put, List.setIfInBounds_toArray, List.set_cons_zero, List.set_cons_succ]
                    refine wpAnyH_ready (rs := [5]) (by kernel_rfl) (by simp) ?_
                    refine AllReadyH.cons (o := { dst := some 162, op := Op.call { callee := Callee.value (Operand.func 21), args := #[Operand.tmp 161], argTypes := #[60] }, type := 29, pos := "law.go:198", after := #[{ on := 4, ground := Ground.data }, { on := 1, ground := Ground.chain }, { on := 1, ground := Ground.guard }], guard := some (1, true) }) rfl (fun K hK => ?_) AllReadyH.nil
                    rw [if_pos (by rfl)]
                    refine wp_calls 21 #[.pointer (some ⟨a, 0, none⟩)] (by kernel_rfl) (fun v U => v = .int .u64 gA.l ∧ Kept [] u0 U) ((HLA.out _ j0).mono (fun e w' hh => ⟨_, hh.1, rfl, hh.2⟩)) ?_
                    rintro _ u5 ⟨rfl, J5⟩
                    have j5 := j0.trans J5
                    have f5 := And.intro (f0.1.kept J5 (by simp)) (f0.2.kept J5 (by simp))
                    try simp only [Act.put, List.setIfInBounds_toArray, List.set_cons_zero, List.set_cons_succ]
                    refine hK.out _ _ (f5) (fun hS => ?_)
                    clear hK K
                    refine wpAnyH_take (i := 8) (oi := { dst := some 165, op := Op.binOp BinOp.eql 29 (Operand.tmp 162) (Operand.tmp 164) 29, type := 4, pos := "law.go:198", after := #[{ on := 5, ground := Ground.data }, { on := 7, ground := Ground.data }, { on := 1, ground := Ground.guard }], guard := some (1, true) }) (v := Value.bool true) rfl (by kernel_rfl) (by kernel_rfl) (by kernel_rfl) (fun _ _ _ h => h) (Or.inl ⟨rfl, fun _ _ => by go_simp⟩) hS ?_
                    try simp only [Act.put, List.setIfInBounds_toArray, List.set_cons_zero, List.set_cons_succ]
                    refine wpAnyH_take (i := 9) (oi := { dst := some 166, op := Op.pick (Operand.tmp 158) (Operand.tmp 165) (Operand.const (Value.bool false)), type := 4, pos := "law.go:198", after := #[{ on := 1, ground := Ground.data }, { on := 8, ground := Ground.data }], guard := none }) (v := Value.bool true) rfl (by kernel_rfl) (by kernel_rfl) (by kernel_rfl) (fun _ _ _ h => h) (Or.inl ⟨rfl, fun _ _ => by kernel_rfl⟩) hS ?_
                    try simp only [Act.put, List.setIfInBounds_toArray, List.set_cons_zero, List.set_cons_succ]
                    refine wpAnyH_take (i := 10) (oi := { dst := some 167, op := Op.move (Operand.tmp 166), type := 4, pos := "law.go:198", after := #[{ on := 9, ground := Ground.data }, { on := 5, ground := Ground.chain }], guard := none }) (v := Value.bool true) rfl (by kernel_rfl) (by kernel_rfl) (by kernel_rfl) (fun _ _ _ h => h) (Or.inl ⟨rfl, fun _ _ => by kernel_rfl⟩) hS ?_
                    try simp only [Act.put, List.setIfInBounds_toArray, List.set_cons_zero, List.set_cons_succ]
                    refine wpAnyH_take (i := 11) (oi := { dst := some 168, op := Op.move (Operand.tmp 10), type := 38, pos := "law.go:198", after := #[{ on := 10, ground := Ground.guard }], guard := some (10, true) }) (v := Value.pointer (some ⟨b, 0, none⟩)) rfl (by kernel_rfl) (by kernel_rfl) (by kernel_rfl) (fun _ _ _ h => h) (Or.inl ⟨rfl, fun _ _ => by kernel_rfl⟩) hS ?_
                    try simp only [Act.put, List.setIfInBounds_toArray, List.set_cons_zero, List.set_cons_succ]
                    refine wpAnyH_take (i := 12) (oi := { dst := some 169, op := Op.nilCheck (Operand.tmp 168), type := 0, pos := "law.go:198", after := #[{ on := 11, ground := Ground.data }, { on := 10, ground := Ground.guard }], guard := some (10, true) }) (v := Value.pointer (some ⟨b, 0, none⟩)) rfl (by kernel_rfl) (by kernel_rfl) (by kernel_rfl) (fun _ _ _ h => h) (Or.inl ⟨rfl, fun _ _ => by kernel_rfl⟩) hS ?_
                    try simp only [Act.put, List.setIfInBounds_toArray, List.set_cons_zero, List.set_cons_succ]
                    refine wpAnyH_take (i := 13) (oi := { dst := some 170, op := Op.fieldAddr 62 (Operand.tmp 169) 0, type := 0, pos := "law.go:198", after := #[{ on := 12, ground := Ground.data }, { on := 10, ground := Ground.guard }], guard := some (10, true) }) (v := Value.pointer (some ⟨b, 0, none⟩)) rfl (by kernel_rfl) (by kernel_rfl) (by kernel_rfl) (fun _ _ _ h => h) (Or.inl ⟨rfl, fun _ _ => by kernel_rfl⟩) hS ?_
                    try simp only [Act.put, List.setIfInBounds_toArray, List.set_cons_zero, List.set_cons_succ]
                    refine wpAnyH_take (i := 15) (oi := { dst := some 172, op := Op.fieldAddr 42 (Operand.tmp 12) 1, type := 0, pos := "law.go:198", after := #[{ on := 10, ground := Ground.guard }], guard := some (10, true) }) (v := Value.pointer (some ⟨qy, 1, none⟩)) rfl (by kernel_rfl) (by kernel_rfl) (by kernel_rfl) (fun _ _ _ h => h) (Or.inl ⟨rfl, fun _ _ => by kernel_rfl⟩) hS ?_
                    try simp only [Act.put, List.setIfInBounds_toArray, List.set_cons_zero, List.set_cons_succ]
                    refine wpAnyH_take (i := 16) (oi := { dst := some 173, op := Op.load 29 (Operand.tmp 172), type := 29, pos := "law.go:198", after := #[{ on := 15, ground := Ground.data }, { on := 10, ground := Ground.guard }], guard := some (10, true) }) (v := Value.int .u64 gB.l) rfl (by kernel_rfl) (by kernel_rfl) (by kernel_rfl) (fun _ _ _ h => h) (Or.inl ⟨rfl, fun w hSw => by have z := cell_of_blk hSw.2 (i := 1) (v := .int .u64 gB.l) rfl; go_simp⟩) hS ?_
                    try simp only [Act.put, List.setIfInBounds_toArray, List.set_cons_zero, List.set_cons_succ]
                    refine wpAnyH_ready (rs := [14]) (by kernel_rfl) (by simp) ?_
                    refine AllReadyH.cons (o := { dst := some 171, op := Op.call { callee := Callee.value (Operand.func 21), args := #[Operand.tmp 170], argTypes := #[60] }, type := 29, pos := "law.go:198", after := #[{ on := 13, ground := Ground.data }, { on := 10, ground := Ground.chain }, { on := 10, ground := Ground.guard }], guard := some (10, true) }) rfl (fun K hK => ?_) AllReadyH.nil
                    rw [if_pos (by rfl)]
                    refine wp_calls 21 #[.pointer (some ⟨b, 0, none⟩)] (by kernel_rfl) (fun v U => v = .int .u64 gB.l ∧ Kept [] u5 U) ((HLB.out _ j5).mono (fun e w' hh => ⟨_, hh.1, rfl, hh.2⟩)) ?_
                    rintro _ u14 ⟨rfl, J14⟩
                    have j14 := j5.trans J14
                    have f14 := And.intro (f5.1.kept J14 (by simp)) (f5.2.kept J14 (by simp))
                    try simp only [Act.put, List.setIfInBounds_toArray, List.set_cons_zero, List.set_cons_succ]
                    refine hK.out _ _ (f14) (fun hS => ?_)
                    clear hK K
                    refine wpAnyH_take (i := 17) (oi := { dst := some 174, op := Op.binOp BinOp.eql 29 (Operand.tmp 171) (Operand.tmp 173) 29, type := 4, pos := "law.go:198", after := #[{ on := 14, ground := Ground.data }, { on := 16, ground := Ground.data }, { on := 10, ground := Ground.guard }], guard := some (10, true) }) (v := Value.bool true) rfl (by kernel_rfl) (by kernel_rfl) (by kernel_rfl) (fun _ _ _ h => h) (Or.inl ⟨rfl, fun _ _ => by go_simp⟩) hS ?_
                    try simp only [Act.put, List.setIfInBounds_toArray, List.set_cons_zero, List.set_cons_succ]
                    refine wpAnyH_take (i := 18) (oi := { dst := some 175, op := Op.pick (Operand.tmp 167) (Operand.tmp 174) (Operand.const (Value.bool false)), type := 4, pos := "law.go:198", after := #[{ on := 10, ground := Ground.data }, { on := 17, ground := Ground.data }], guard := none }) (v := Value.bool true) rfl (by kernel_rfl) (by kernel_rfl) (by kernel_rfl) (fun _ _ _ h => h) (Or.inl ⟨rfl, fun _ _ => by kernel_rfl⟩) hS ?_
                    try simp only [Act.put, List.setIfInBounds_toArray, List.set_cons_zero, List.set_cons_succ]
                    refine wpAnyH_take (i := 19) (oi := { dst := some 6, op := Op.assign (Operand.tmp 175), type := 4, pos := "law.go:198", after := #[{ on := 18, ground := Ground.data }, { on := 14, ground := Ground.chain }, { on := 0, ground := Ground.phase }, { on := 1, ground := Ground.phase }, { on := 2, ground := Ground.phase }, { on := 3, ground := Ground.phase }, { on := 4, ground := Ground.phase }, { on := 5, ground := Ground.phase }, { on := 6, ground := Ground.phase }, { on := 7, ground := Ground.phase }, { on := 8, ground := Ground.phase }, { on := 9, ground := Ground.phase }, { on := 10, ground := Ground.phase }, { on := 11, ground := Ground.phase }, { on := 12, ground := Ground.phase }, { on := 13, ground := Ground.phase }, { on := 14, ground := Ground.phase }, { on := 15, ground := Ground.phase }, { on := 16, ground := Ground.phase }, { on := 17, ground := Ground.phase }, { on := 18, ground := Ground.phase }], guard := none }) (v := Value.bool true) rfl (by kernel_rfl) (by kernel_rfl) (by kernel_rfl) (fun _ _ _ h => h) (Or.inl ⟨rfl, fun _ _ => by kernel_rfl⟩) hS ?_
                    try simp only [Act.put, List.setIfInBounds_toArray, List.set_cons_zero, List.set_cons_succ]
                    refine wpAnyH_done (by kernel_rfl) ?_ _
                    have KF := j14
                    clear hS HAL HLA HLB
                    go_wp2
                    go_ret
                    exact ⟨rfl, HK0.out.trans (FN.out.kp.trans KF)⟩
  · have hrf : riB c = false := by simpa using hri
    go_enter Tryd.func8, Tryd.ntmps8
    go_upto_region 1 with (fail)
    rw [← hq]
    refine gen_world (fun W => RW 23 W q #[.int .i64 c.t, .int .i64 c.s, .int .i64 c.c, .int .i64 c.h, .int .i64 c.k, .int .i64 c.e, .int .i64 c.l] ∧ Kept [] w W) BX.out ?_
    have hqw : w.heap.size ≤ q := by omega
    clear BX hq
    rintro W ⟨CB, K0⟩
    have HCB := hidOf CB
    have HTW := hidOf (HT.out.kept K0)
    have HK0 := hidOf K0
    clear CB K0
    have NW := hidOf (mnew_wrong c W hrf)
    go_wp2_with (first | ((with_reducible change wpList _ _ _ (Oper.mk _ (Op.load 23 (Operand.tmp 3)) _ _ _ _ :: _) _ _); refine wpList_load_rw 23 isT_cf rfl (.tmp 3) rfl q rfl #[.int .i64 c.t, .int .i64 c.s, .int .i64 c.c, .int .i64 c.h, .int .i64 c.k, .int .i64 c.e, .int .i64 c.l] rfl HCB.out ?_))
    refine NW.out.mono ?_
    rintro e w1 ⟨rfl, K1⟩
    go_wp2_with fail
    refine (gnew_any 0 _).mono ?_
    rintro e w2 ⟨a, rfl, ha, GA, K2⟩
    go_wp2_with fail
    refine (gnew_any 1 _).mono ?_
    rintro e w3 ⟨b, rfl, hb, GB3, K3⟩
    have HKX := hidOf (K1.trans (K2.trans K3))
    clear NW K1 K2 K3 GA GB3 ha hb
    have AL := hidOf (alive_any _ (HTW.out.kept HKX.out))
    go_wp2_with fail
    refine AL.out.mono ?_
    rintro e WA ⟨rfl, KA⟩
    go_wp2
    go_ret
    exact ⟨rfl, HK0.out.trans (HKX.out.trans KA)⟩

set_option maxRecDepth 100000 in
theorem guardTwo_lifted (os : Os) (started : os.Started) (H : Type) (enc : TypeId × Value → H) :
    ReturnsInHanded {} Tryd.checked os 8 .any (fun w args => (Rows.guardTwoSpec.pre enc Tryd.prog Tryd.f8 [] false w args ∧ laidMetH Tryd.prog laid1 w) ∧ sizedMet enc Tryd.prog Tryd.f8 (OpenSpec.ofChange Rows.guardTwoSpec) false w args)
      (Rows.guardTwoSpec.post enc Tryd.prog Tryd.f8 false true false false) := by
  refine returnsInHanded_of_change_and (C := Tryd.checked) (X := fun w _ => laidMetH Tryd.prog laid1 w) (fun _ _ _ hh h => h.of_heap hh) own started (by kernel_rfl) Tryd.func8
    (ChangeSpec.witness_shaped (enc := enc) (C := Tryd.checked) (os := os) (X := fun w _ => laidMetH Tryd.prog laid1 w) false (World.doorLaid Tryd.prog 400 os) #[.agg #[.int .i64 0, .int .i64 0, .int .i64 0, .int .i64 0, .int .i64 0, .int .i64 0, .int .i64 0], .slice none 0 0, .slice none 0 0] 8 rfl (World.shaped_of_RefB (by kernel_rfl) (by kernel_rfl)) (by kernel_rfl) (by kernel_rfl) (by kernel_rfl) (door_met os _)) ?_
  intro W base args ds gs before hval0 hW _ _ hL _
  have hval : ∀ (j : Nat) t v, Tryd.f8.params[j]? = some t → args[j]? = some v → Value.okWide Tryd.prog W .any base t v := hval0
  have hW' := hW
  obtain ⟨p, q, hA0, hV, rfl, _, _⟩ := hW
  have hA : DataW.TrodAll enc Tryd.prog W 0 (fun _ => true) true Tryd.f8.params.toList args.toList ds p := hA0
  rw [Tryd.params8] at hA hval
  clear hA0 hval0
  obtain ⟨v0, vs0, d0, ds0, p0, q0, hargs, rfl, rfl, h0, r0⟩ := trodAll_cons hA
  obtain ⟨v1, vs1, d1, ds1, p1, q1, rfl, rfl, rfl, h1, r1⟩ := trodAll_cons r0
  obtain ⟨v2, vs2, d2, ds2, p2, q2, rfl, rfl, rfl, h2, r2⟩ := trodAll_cons r1
  obtain ⟨rfl, rfl, rfl⟩ := trodAll_nil r2
  obtain rfl : args = #[v0, v1, v2] := by cases args; simp_all
  obtain ⟨rfl, rfl⟩ := trodVars_none hV
  have k0 := h0
  have k1 := h1
  have k2 := h2
  simp only [List.append_nil] at hW'
  have hlt0 : ∀ x ∈ p0, x.block < W.heap.size := fun x hx => hW'.lt x (by simp [hx])
  have hlt1 : ∀ x ∈ p1, x.block < W.heap.size := fun x hx => hW'.lt x (by simp [hx])
  have hlt2 : ∀ x ∈ p2, x.block < W.heap.size := fun x hx => hW'.lt x (by simp [hx])
  obtain ⟨c0, rfl, g0⟩ := open_cfg (hval 0 23 v0 rfl rfl) h0
  obtain ⟨ao1, cap1, xs1, rfl, s1, g1, z1, n1⟩ := open_words (hval 1 24 v1 rfl rfl) h1
  obtain ⟨lo2, lc2, ts2, rfl, sl2⟩ := open_bools (hval 2 75 v2 rfl rfl) h2
  refine (guardTwo_walk W c0 g0 ao1 xs1 cap1 s1 g1 n1 lo2 ts2 lc2 sl2 (tab_of_laid hL)).mono fun e W' ⟨he, hg⟩ => ?_
  subst he
  have hb := hg.below (by simp)
  exact ⟨_, rfl, _, _, _, [], _, [], hW', (trodAll_cons_mk (shut_bool Tryd.underlying4 _) trodAll_mk0), (trodAll_cons_mk (Below.trod laidOut (by kernel_rfl) (of_decide_eq_true (by kernel_rfl)) k0 hb hlt0) (trodAll_cons_mk (Below.trod laidOut (by kernel_rfl) (of_decide_eq_true (by kernel_rfl)) k1 hb hlt1) (trodAll_cons_mk (Below.trod laidOut (by kernel_rfl) (of_decide_eq_true (by kernel_rfl)) k2 hb hlt2) trodAll_mk0))), rfl, hb.frame _, fun h => by cases h⟩

theorem guardTwo_over : Rows.GuardTwoSaid :=
  OpenClaim.holds_of_wide 8 Tryd.f8 rfl rfl rfl rfl rfl rfl rfl ⟨rfl, rfl, rfl, rfl, rfl⟩ rfl rfl rfl rfl rfl (by kernel_rfl) Tryd.func8 (by kernel_rfl)
    (of_decide_eq_true (by kernel_rfl)) (by unfold Func.isWrapper; first | (rw [if_pos (by decide +kernel)]; kernel_rfl) | (rw [if_neg (by decide +kernel)]; exact ⟨rfl, rfl⟩))
    (fun os started H enc _ => guardTwo_lifted os started H enc)

theorem guardTwo_holds : Rows.GuardTwoCardSaid :=
  Claim7.holds_tied_plain_at .later [] [.data] true (true, "b4883c6acc027d471720382080dd105359c62c6a05fa2fbd39293c40dd38c4e0") false
    guardTwo_over (fun _ h => by cases h) (by kernel_rfl) (fun _ h => by cases h) guardTwo_row_tie rfl ⟨rfl, rfl⟩ (by kernel_rfl) rfl
    (fun f fn hf hfn => by
      obtain rfl : f = 8 := Option.some.inj ((show Tryd.prog.funcNamed "stepstone/stepstonelaw10.GuardTwo" = some 8 by kernel_rfl).symm.trans hf) |>.symm
      obtain rfl : fn = Tryd.f8 := (Option.some.inj (Tryd.func8.symm.trans hfn)).symm
      exact ⟨by kernel_rfl, fun j t ht => by
          rw [Tryd.params8] at ht
          rcases j with _ | j
          · have : t = 23 := by simpa using ht.symm
            subst this; exact (show Tryd.prog.wantsStandIn 23 = false by kernel_rfl)
          rcases j with _ | j
          · have : t = 24 := by simpa using ht.symm
            subst this; exact (show Tryd.prog.wantsStandIn 24 = false by kernel_rfl)
          rcases j with _ | j
          · have : t = 75 := by simpa using ht.symm
            subst this; exact (show Tryd.prog.wantsStandIn 75 = false by kernel_rfl)
          simp at ht⟩)
    (by kernel_rfl)
#print axioms guardTwo_holds
end Go.Proofs.YtpobanjpgdghlaaDoor
